import PyProof.Rows.All
import Wide.All
import Wide.FinOn
import KE.KDictOf
import KE.RegKIsAll
import KE.KEqDeep
import KE.KRevIter
import KE.KEqDict
import KE.RegKTryMore
import KE.KItem
import KE.KTurns
import KE.KFromBytes
import KE.KEqText
import KE.KNestM
import KE.KLam
import KE.KMinKey
import KE.KDictList
import PySem.Challenge.RW_bytetongue_k86_whole_slack_and_step
set_option Elab.async false
set_option linter.all false
set_option maxRecDepth 100000
namespace L2
open PySem PySem.Spec PyProof.Rows
abbrev ao:=Sum Int Str
def fD:ao->Value->Bool
 | .inl k,v=>Value.isInt k v
 | .inr x,v=>Value.isStrOf x v
def Dc(w:World):ao->Int
 | .inl k=>hashInt k
 | .inr x=>hashStr w x
theorem fB : ∀ {k:ao} {v:Value},fD k v=true->(∃ i t,k=Sum.inl i/\v=Value.int i t)\/(∃ x t,k=Sum.inr x/\v=Value.str x t)
 | .inl i,v,h=>by
  obtain⟨t,e⟩:=Value.isInt_shape (k:=i) (v:=v) h
  exact .inl ⟨i,t,rfl,e⟩
 | .inr x,v,h=>by
  obtain⟨t,e⟩:=Value.isStrOf_shape (x:=x) (v:=v) h
  exact .inr ⟨x,t,rfl,e⟩
theorem Db(i:Int)(t:Tok):fD (.inl i) (.int i t)=true:=by simp[fD,Value.isInt]
theorem Da(x:Str)(t:Tok):fD (.inr x) (.str x t)=true:=by simp[fD,Value.isStrOf]
theorem C9(a b:Int):decide ((Sum.inl a:ao)=Sum.inl b)=(a == b):=by
 by_cases e:a=b
 ·subst e; simp
 ·have h : ¬ (Sum.inl a:ao)=Sum.inl b:=λq=>e (Sum.inl.inj q)
  rw[decide_eq_false h]
  exact (beq_eq_false_iff_ne.mpr e).symm
theorem C6(a b:Str):decide ((Sum.inr a:ao)=Sum.inr b)=decide (a=b):=by
 by_cases e:a=b
 ·subst e; simp
 ·have h : ¬ (Sum.inr a:ao)=Sum.inr b:=λq=>e (Sum.inr.inj q)
  rw[decide_eq_false h,decide_eq_false e]
theorem C8(a:Int)(b:Str):decide ((Sum.inl a:ao)=Sum.inr b)=false:=decide_eq_false (λq=>nomatch q)
theorem C7(a:Str)(b:Int):decide ((Sum.inr a:ao)=Sum.inl b)=false:=decide_eq_false (λq=>nomatch q)
def bB(prog:Program)(w:World):PySem.KeyKind prog w ao where
 is:=fD
 hash:=Dc w
 inj:=λv a b ha hb=>by
  rcases fB ha with ⟨i,t,rfl,rfl⟩ | ⟨x,t,rfl,rfl⟩
  ·rcases fB hb with ⟨j,u,rfl,e⟩ | ⟨y,u,rfl,e⟩
   ·injection e with e1 _; rw[e1]
   ·exact nomatch e
  ·rcases fB hb with ⟨j,u,rfl,e⟩ | ⟨y,u,rfl,e⟩
   ·exact nomatch e
   ·injection e with e1 _; rw[e1]
 byValue:=λk v h=>by
  rcases fB h with ⟨i,t,rfl,rfl⟩ | ⟨x,t,rfl,rfl⟩ <;> rfl
 pyHash:=λhv h=>by
  rcases fB hv with ⟨i,t,rfl,rfl⟩ | ⟨x,t,rfl,rfl⟩
  ·exact wpAny_pyHash_int h
  ·exact wpAny_pyHash_str h
 eqBool:=λhu hv h=>by
  rcases fB hu with ⟨i,t,rfl,rfl⟩ | ⟨x,t,rfl,rfl⟩
  ·rcases fB hv with ⟨j,u,rfl,rfl⟩ | ⟨y,u,rfl,rfl⟩
   ·rw[C9]at h; exact wpAny_eqBool_int h
   ·rw[C8]at h; exact SeqAt.EqAt.int_str i t y u _ _ _ _ h
  ·rcases fB hv with ⟨j,u,rfl,rfl⟩ | ⟨y,u,rfl,rfl⟩
   ·rw[C7]at h; exact SeqAt.EqAt.str_int x t j u _ _ _ _ h
   ·rw[C6]at h; exact wpAny_eqBool_str h
 «strs»:=λk x t v h=>by
  rcases fB h with ⟨i,u,rfl,e⟩ | ⟨y,u,rfl,e⟩
  ·exact nomatch e
  ·injection e with e1 _
   subst e1
   cases v <;> rfl
theorem Cr(prog:Program)(w:World)(k:ao)(v:Value):(bB prog w).is k v=fD k v:=rfl
theorem Cs(prog:Program)(w:World)(i:Int)(t:Tok):(bB prog w).is (.inl i) (.int i t)=true:=Db i t
theorem Cq(prog:Program)(w:World)(x:Str)(t:Tok):(bB prog w).is (.inr x) (.str x t)=true:=Da x t
inductive V where
 | non | bl (b:Bool) | int (i:Int) | str (x:Str) | byt (b:Array UInt8) | flt (b:UInt64) | ref (a:Addr) | ty (n:String)
 deriving DecidableEq
def aq:V->Value->Prop
 | .non,u=>u=Value.none
 | .bl b,u=>u=Value.bool b
 | .int i,u=>∃ t,u=Value.int i t
 | .str x,u=>∃ t,u=Value.str x t
 | .byt b,u=>∃ t,u=Value.bytes b t
 | .flt b,u=>∃ t,u=Value.float b t
 | .ref a,u=>u=Value.ref a
 | .ty n,u=>u=Value.type n
abbrev ar:List V->List Value->Prop:=Paired aq
theorem ar.length{xs:List V}{us:List Value}(r:ar xs us):xs.length=us.length:=Paired.length r
theorem ar.get : ∀ {xs:List V} {us:List Value} {i:Nat} {x:V},ar xs us->xs[i]? = some x->∃ u,us[i]? = some u/\aq x u
 | _,_,_,_,.nil,e=>by simp at e
 | _,_,0,_,.cons r _,e=>by simp at e; subst e; exact⟨_,rfl,r⟩
 | _,_,i+1,x,.cons _ t,e=>by
  obtain⟨u,h1,h2⟩:=ar.get (i:=i) (x:=x) t (by simpa using e)
  exact⟨u,by simpa using h1,h2⟩
theorem ar.append : ∀ {xs ys:List V} {us ws:List Value},ar xs us->ar ys ws->ar (xs++ys) (us++ws)
 | _,_,_,_,.nil,s=>s
 | _,_,_,_,.cons r t,s=>.cons r (ar.append t s)
theorem ar.take : ∀ {xs:List V} {us:List Value} (n:Nat),ar xs us->ar (xs.take n) (us.take n)
 | _,_,0,_=>.nil
 | _,_,_+1,.nil=>.nil
 | _,_,n+1,.cons r t=>.cons r (ar.take n t)
theorem ar.drop : ∀ {xs:List V} {us:List Value} (n:Nat),ar xs us->ar (xs.drop n) (us.drop n)
 | _,_,0,r=>r
 | _,_,_+1,.nil=>.nil
 | _,_,n+1,.cons _ t=>ar.drop n t
def bG:Option V->Option Value->Prop
 | some v,some u=>aq v u
 | none,none=>True
 | _,_=>False
def KV{κ:Type}:List (κ × V)->List (κ × Value)->Prop:=Paired λ(p:κ × V) (q:κ × Value)=>p.1=q.1/\aq p.2 q.2
def kV:ao->V
 | .inl i=>.int i
 | .inr x=>.str x
inductive HO where
 | lst (xs:List V)
 | tup (xs:List V)
 | dK (kvs:List (ao × V)) | dT (kvs:List (List ao × V))
 | set (S:Int->Bool) (n:Nat)
 | ins (C dx:Addr) (fs:List (Str × V))
 | own (x:Addr)
 | xd (fs:List (Str × V))
 | met (f x:Addr)
 | rng (lo hi:Int)
 | frz (o:Obj) (u:HO)
 | tbl (ps:Array Value)
 | ext (φ:Heap->Prop)
abbrev Hp:=Addr->Option HO
def upd(H:Hp)(a:Addr)(o:HO):Hp:=λb=>if b=a then some o else H b
theorem aN{H:Hp}{a:Addr}{o:HO}:upd H a o a=some o:=by unfold upd; rw[if_pos rfl]
theorem ak{H:Hp}{a b:Addr}{o:HO}(h:b≠a):upd H a o b=H b:=by unfold upd; rw[if_neg h]
theorem jT{H:Hp}{a b:Addr}{o u:HO}(h:H a=some o)(h':H b=some u)(d:o≠u):a≠b:=by
 intro e; subst e; rw[h]at h'; exact d (Option.some.inj h')
theorem br{H:Hp}{a b:Addr}{o:HO}(h:H a=some o)(h':H b=none):a≠b:=by
 intro e; subst e; rw[h]at h'; cases h'
section
variable (P:Program)(w:World)
def aO(H:Hp)(h:Heap)(a:Addr):HO->Prop
 | .lst xs=>xs.length<=sizeLine/\∃ (its:List Value) (n:Nat),ar xs its/\h.get? a=some { cls:=.type "list",data:=.seq its.toArray n }
 | .tup xs=>xs.length<=sizeLine/\∃ its:List Value,ar xs its/\IsTup h a its.toArray
 | .dK kvs=>kvs.length<=sizeLine/\(a == sysModules)=false/\∃ vs,KV kvs vs/\h.DictOf (bB P w) a vs
 | .dT kvs=>kvs.length<=sizeLine/\(a == sysModules)=false/\∃ xs:List (List ao × Addr × Value),
  Paired (λ(p:List ao × V) (q:List ao × Addr × Value)=>p.1=q.1/\H q.2.1=some (.tup (p.1.map kV))/\aq p.2 q.2.2) kvs xs /\
  ∃ o es ep,h.get? a=some o/\o.ExactDict/\o.data=.dict es ep/\es.toList=xs.map (entryOfKey (tupleKind (bB P w)))/\(xs.map (·.1)).Nodup
 | .set S n=>h.SetOf (intKind P w) a S n
 | .ins C dx fs=>H dx=some (.own a)/\fs.length<=1000/\dx≠a/\h.get? a=some (W.instObj C dx) /\
  ∃ mA,h.Ns1 dx mA/\(∀ f,bG (fs.lookup f) (mA f))/\PySem.Within mA (fs.map (·.1))
 | .own _=>∃ o,h.get? a=some o
 | .xd fs=>∃ mA,h.Ns1 a mA/\∀ f,bG (fs.lookup f) (mA f)
 | .rng lo hi=>∃ t u v,h.get? a=some { cls:=.type "range",data:=.fields #[.int lo t,.int hi u,.int 1 v] }
 | .frz o u=>h.get? a=some o/\aO H h a u
 | .tbl ps=>h.get? a=some { cls:=.none,data:=.fields ps }
 | .met f x=>h.get? a=some (W.methodObj (.ref f) (.ref x))
 | .ext φ=>φ h/\(∃ o,h.get? a=some o)/\∀ h1 h2:Heap,φ h1->(∀ o,h1.get? a=some o->h2.get? a=some o)->φ h2
def aT(H:Hp)(h:Heap):Prop:=∀ a o,H a=some o->aO P w H h a o
end
section
variable {P:Program}{w:World}{H H':Hp}{h h':Heap}{a:Addr}{o:HO}
theorem aO.lt(x:aO P w H h a o):a < h.objs.size:=by
 cases o with
 | lst xs=>obtain⟨_,_,_,_,e⟩:=x; exact Heap.lt_size e
 | tup xs=>obtain⟨_,_,_,p⟩:=x; exact p.lt
 | dK kvs=>obtain⟨_,_,_,_,o,_,_,e,_⟩:=x; exact Heap.lt_size e
 | dT kvs=>obtain⟨_,_,_,_,o,_,_,e,_⟩:=x; exact Heap.lt_size e
 | set S n=>obtain⟨o,_,_,_,e,_⟩:=x; exact Heap.lt_size e
 | ins C dx fs=>obtain⟨_,_,_,e,_⟩:=x; exact Heap.lt_size e
 | own y=>obtain⟨_,e⟩:=x; exact Heap.lt_size e
 | xd fs=>obtain⟨_,⟨_,_,_,e,_⟩,_⟩:=x; exact Heap.lt_size e
 | rng lo hi=>obtain⟨_,_,_,e⟩:=x; exact Heap.lt_size e
 | frz ob u=>obtain⟨e,_⟩:=x; exact Heap.lt_size e
 | tbl ps=>exact Heap.lt_size (show h.get? a=some _ from x)
 | met f y=>exact Heap.lt_size (show h.get? a=some _ from x)
 | ext φ=>obtain⟨_,⟨_,e⟩,_⟩:=x; exact Heap.lt_size e
theorem Paired.mapP{α β:Type}{F G:α->β->Prop} : ∀ {l₁:List α} {l₂:List β},Paired F l₁ l₂->(∀ a b,F a b->G a b)->Paired G l₁ l₂
 | _,_,.nil,_=>.nil
 | _,_,.cons r t,f=>.cons (f _ _ r) (Paired.mapP t f)
theorem aO.stay(x:aO P w H h a o)(k : ∀ b u,(b=a\/H b=some (.own a))->h.get? b=some u->h'.get? b=some u)
 (ho : ∀ b,H b=some (.own a)->H' b=some (.own a)) (ht : ∀ b xs,H b=some (.tup xs)->H' b=some (.tup xs)):aO P w H' h' a o:=by
 induction o with
 | lst xs=>obtain⟨z,its,n,r,e⟩:=x; exact⟨z,its,n,r,k _ _ (.inl rfl) e⟩
 | tup xs=>obtain⟨z,its,r,ob,e,c⟩:=x; exact⟨z,its,r,ob,k _ _ (.inl rfl) e,c⟩
 | dK kvs=>obtain⟨z,y,vs,r,ob,es,ep,e,c⟩:=x; exact⟨z,y,vs,r,ob,es,ep,k _ _ (.inl rfl) e,c⟩
 | dT kvs =>
  obtain⟨z,y,xs,r,ob,es,ep,e,c⟩:=x
  exact⟨z,y,xs,Paired.mapP r λp q z=>⟨z.1,ht _ _ z.2.1,z.2.2⟩,ob,es,ep,k _ _ (.inl rfl) e,c⟩
 | set S n=>obtain⟨ob,es,ep,t,e,c⟩:=x; exact⟨ob,es,ep,t,k _ _ (.inl rfl) e,c⟩
 | ins C dx fs =>
  obtain⟨d,z,ne,e,mA,⟨od,es,ep,e2,c⟩,r⟩:=x
  exact⟨ho _ d,z,ne,k _ _ (.inl rfl) e,mA,⟨od,es,ep,k _ _ (.inr d) e2,c⟩,r⟩
 | own y=>obtain⟨ob,e⟩:=x; exact⟨ob,k _ _ (.inl rfl) e⟩
 | xd fs=>obtain⟨mA,⟨od,es,ep,e,c⟩,r⟩:=x; exact⟨mA,⟨od,es,ep,k _ _ (.inl rfl) e,c⟩,r⟩
 | rng lo hi=>obtain⟨t,u,v,e⟩:=x; exact⟨t,u,v,k _ _ (.inl rfl) e⟩
 | frz ob u ih=>obtain⟨e,q⟩:=x; exact⟨k _ _ (.inl rfl) e,ih q⟩
 | tbl ps =>
  have e:h.get? a=some { cls:=.none,data:=.fields ps }:=x
  show h'.get? a=some { cls:=.none,data:=.fields ps }
  exact k a _ (.inl rfl) e
 | met f y =>
  have e:h.get? a=some (W.methodObj (.ref f) (.ref y)):=x
  show h'.get? a=some (W.methodObj (.ref f) (.ref y))
  exact k a _ (.inl rfl) e
 | ext φ=>obtain⟨p,⟨o,e⟩,st⟩:=x; exact⟨st _ _ p λo q=>k _ _ (.inl rfl) q,⟨o,k _ _ (.inl rfl) e⟩,st⟩
theorem aT.lt(x:aT P w H h)(e:H a=some o):a < h.objs.size:=(x a o e).lt
theorem aT.fresh(x:aT P w H h)(e:h.objs.size<=a):H a=none:=by
 cases q:H a with
 | none=>rfl
 | some u=>exact absurd (Nat.lt_of_lt_of_le (x.lt q) e) (Nat.lt_irrefl _)
theorem aT.kept(x:aT P w H h)(k : ∀ b u,h.get? b=some u->h'.get? b=some u):aT P w H h':=λa o e =>
 (x a o e).stay (λb u _ q=>k b u q) (λ_ q=>q) λ_ _ q=>q
theorem aT.laid(x:aT P w H h)(k : ∀ b u,h.get? b=some u->h'.get? b=some u)(hp:h.objs.size<=a)(new:aO P w (upd H a o) h' a o):aT P w (upd H a o) h':=λb u e=>by
 have hn:=x.fresh hp
 by_cases hb:b=a
 ·subst hb; rw[aN]at e; cases e; exact new
 ·rw[ak hb]at e
  exact (x b u e).stay (λc v _ q=>k c v q) (λc q=>by rw[ak (br q hn)]; exact q) λc xs q=>by rw[ak (br q hn)]; exact q
end
def Rd(H:Hp)(a:Addr)(u:HO):Prop:=H a=some u\/∃ o,H a=some (.frz o u)
theorem Rd.ok{P:Program}{w:World}{H:Hp}{h:Heap}{a:Addr}{u:HO}(r:Rd H a u)(x:aT P w H h):aO P w H h a u:=by
 rcases r with r | ⟨o,r⟩
 ·exact x a u r
 ·obtain⟨_,q⟩:=x a _ r
  exact q
def kr:Option HO->Prop
 | some (.lst _)=>True
 | some (.dK _)=>True
 | some (.dT _)=>True
 | some (.set _ _)=>True
 | some (.ins _ _ _)=>True
 | some (.ext _)=>True
 | _=>False
section
variable {P:Program}{w:World}{H:Hp}{h h':Heap}{x e:Addr}{o':HO}
theorem aT.write(ok:aT P w H h)(mu:kr (H x))(he:e=x\/H e=some (.own x))(k : ∀ b u,b≠e->h.get? b=some u->h'.get? b=some u)(heo : ∃ u,h'.get? e=some u)
 (new:aO P w (upd H x o') h' x o'):aT P w (upd H x o') h':=λb u q=>by
 have nown : ∀ c y,H c=some (.own y)->c≠x:=λc y r z=>by subst z; rw[r]at mu; exact mu
 have ntup : ∀ c xs,H c=some (.tup xs)->c≠x:=λc xs r z=>by subst z; rw[r]at mu; exact mu
 by_cases hb:b=x
 ·subst hb; rw[aN]at q; cases q; exact new
 ·rw[ak hb]at q
  by_cases hbe:b=e
  ·have q':H b=some (.own x):=by
    rcases he with z | z
    ·exact absurd (hbe.trans z) hb
    ·rw[hbe]; exact z
   rw[q]at q'; cases q'
   obtain⟨v,hv⟩:=heo
   exact⟨v,by rw[hbe]; exact hv⟩
  ·refine (ok b u q).stay (λc v hc r=>k c v ?_ r) (λc r=>by rw[ak (nown c b r)]; exact r) λc xs r=>by rw[ak (ntup c xs r)]; exact r
   rcases hc with rfl | hc
   ·exact hbe
   ·rintro rfl
    rcases he with z | z
    ·exact nown c b hc z
    ·rw[hc]at z; cases z; exact hb rfl
end
structure Un (fs ex:List Addr) (H H':Hp) (h h':Heap):Prop where
 keep : ∀ b o,h.get? b=some o->H b=none->b∉fs->b∉ex->h'.get? b=some o
 slot : ∀ b o,h.get? b=some o->H b=none->b∈fs->b∉ex->∃ sl,h'.get? b=some { o with slots:=sl }
 free : ∀ b o,h.get? b=some o->H b=none->b∉ex->H' b=none
 there : ∀ b o,h.get? b=some o->b∉ex->∃ o',h'.get? b=some o'
 tups : ∀ b xs,H b=some (.tup xs)->H' b=some (.tup xs)
 frzs : ∀ b o u,H b=some (.frz o u)->H' b=some (.frz o u)
 tbls : ∀ b ps,H b=some (.tbl ps)->∃ more,H' b=some (.tbl (ps++more))
section
variable {fs fs' ex ex':List Addr}{H H1 H2:Hp}{h h1 h2 h':Heap}{a x e:Addr}{o:HO}
theorem Un.any(u:Un fs ex H H1 h h1){b:Addr}{ob:Obj}(q:h.get? b=some ob)(n:H b=none)(hx:b∉ex) : ∃ sl,h1.get? b=some { ob with slots:=sl }:=by
 by_cases hb:b∈fs
 ·exact u.slot b ob q n hb hx
 ·exact⟨ob.slots,u.keep b ob q n hb hx⟩
theorem Un.kept(k : ∀ b u,h.get? b=some u->h'.get? b=some u):Un fs ex H H h h' :=
 ⟨λb ob q _ _ _=>k b ob q,λb ob q _ _ _=>⟨ob.slots,k b ob q⟩,λ_ _ _ n _=>n,λb ob q _=>⟨ob,k b ob q⟩,λ_ _ q=>q,λ_ _ _ q=>q,λ_ ps q=>⟨#[],by rw[q]; simp⟩⟩
theorem Un.refl:Un fs ex H H h h:=Un.kept λ_ _ q=>q
theorem Un.laid(k : ∀ b u,h.get? b=some u->h'.get? b=some u)(hp:h.objs.size<=a)(hn:H a=none):Un fs ex H (upd H a o) h h' where
 keep:=λb u q _ _ _=>k b u q
 slot:=λb u q _ _ _=>⟨u.slots,k b u q⟩
 free:=λb u q n _=>by rw[ak (Nat.ne_of_lt (Nat.lt_of_lt_of_le (Heap.lt_size q) hp))]; exact n
 there:=λb u q _=>⟨u,k b u q⟩
 tups:=λb xs q=>by rw[ak (br q hn)]; exact q
 frzs:=λb u xs q=>by rw[ak (br q hn)]; exact q
 tbls:=λb ps q=>⟨#[],by rw[ak (br q hn),q]; simp⟩
theorem Un.write(mu:kr (H x))(he:e=x\/H e=some (.own x))(k : ∀ b u,b≠e->h.get? b=some u->h'.get? b=some u)(heo : ∃ u,h'.get? e=some u):Un fs ex H (upd H x o) h h':=by
 have hx : ∀ b,H b=none->b≠x:=λb n z=>by subst z; rw[n]at mu; exact mu
 have hb : ∀ b,H b=none->b≠e:=λb n z=>by
  subst z
  rcases he with r | r
  ·exact hx b n r
  ·rw[n]at r; cases r
 have hm : ∀ b u,H b=some u->¬ kr (some u)->b≠x:=λb u q nm z=>by subst z; rw[q]at mu; exact nm mu
 refine⟨λb u q n _ _=>k b u (hb b n) q,λb u q n _ _=>⟨u.slots,k b u (hb b n) q⟩,λb u q n _=>by rw[ak (hx b n)]; exact n,λb u q _=>?_,
  λb xs q=>by rw[ak (hm b _ q λz=>z)]; exact q,λb u xs q=>by rw[ak (hm b _ q λz=>z)]; exact q,λb ps q=>⟨#[],by rw[ak (hm b _ q λz=>z),q]; simp⟩⟩
 by_cases hbe:b=e
 ·subst hbe; exact heo
 ·exact⟨u,k b u hbe q⟩
end
def kF(h:Heap)(H:Hp):List Addr:=(List.range h.objs.size).filter λa=>(H a).isSome
def cU(h:Heap)(H:Hp):Heap:=W.hideAll h (kF h H)
theorem vw(h:Heap)(H:Hp):(cU h H).objs.size=h.objs.size:=W.hideAll_size _ _
theorem vx{h:Heap}{H:Hp}{b:Addr}{o:Obj}(e:h.get? b=some o)(n:H b=none):(cU h H).get? b=some o :=
 W.hideAll_get _ e λhm=>by
  have q:(H b).isSome=true:=(List.mem_filter.mp hm).2
  rw[n]at q; simp at q
theorem uB{h:Heap}{H:Hp}{b:Addr}{o:Obj}(e:(cU h H).get? b=some o):h.get? b=some o/\H b=none:=by
 have e':h.get? b=some o:=W.of_hideAll (kF h H) e
 refine⟨e',?_⟩
 cases q:H b with
 | none=>rfl
 | some x =>
  have hm:b∈kF h H:=List.mem_filter.mpr ⟨List.mem_range.mpr (Heap.lt_size e'),by simp[q]⟩
  have z:(cU h H).get? b=none:=W.hideAll_none (kF h H) hm
  rw[z]at e; cases e
def He(g h:Heap)(L:Addr):List (Addr × Obj):=(List.range h.objs.size).filterMap λa=>if a=L\/(g.get? a).isSome=true then none else (h.get? a).map λo=>(a,o)
def rest(g h:Heap)(L d:Addr):List (Addr × Obj):=(He g h L).filter λp=>decide (p.1≠d)
structure Mod (K:W.Frag) (mg:Str->Option Value) (base:Heap):Prop where
 kin:K.In base
 glob:base.Ns mainGlobals mg
 blt : ∃ mb,base.Ns builtinsNs mb/\∀ x:Str,x ≠ "__name__"->mb x=bootBuiltins x
 nolimit:base.NoLimit
structure Cx where
 prog:Program
 w:World
 K:W.Frag
 mg:Str->Option Value
 base:Heap
 A:Around
 N:List Str
 s₀:Shared
 H₀:Hp
 env:Env
 outer:List Env
 stack:List Env
 ex:List Addr
 fn:Str->Bool
 calm:Bool
 pn:List (Addr × Obj)
 xe:Value->Shared->Prop
def cw(l:List Env):List Addr:=l.filterMap (·.frame)
abbrev Cx.fs(X:Cx):List Addr:=cw X.outer
def ii(sc:Scope)(x:Str):Prop:=sc.names.lookup x=some .local\/sc.names.lookup x=some .cell\/sc.names.lookup x=some .free
def fe(sc:Scope)(x:Str):Prop:=sc.names.lookup x=some .local\/sc.names.lookup x=some .cell
def Hr(env:Env)(h:Heap)(m:Str->Option Value)(x:Str)(u:Value):Prop :=
 (env.kindOf x=some .local/\m x=some u)\/((env.kindOf x=some .cell\/env.kindOf x=some .free)/\∃ c,env.cells.lookup x=some c/\h.IsCell c (some u))
structure Cx.Ok (X:Cx):Prop where
 mod:Mod X.K X.mg X.base
 kind:X.env.scope.kind=.function
 glob:X.env.globals=mainGlobals
 blt:X.env.builtins=builtinsNs
 above:X.s₀.heap.objs.size<=X.env.locals
 inj : ∀ x y c,X.env.cells.lookup x=some c->X.env.cells.lookup y=some c->x=y
 has : ∀ x,(X.env.kindOf x=some .cell\/X.env.kindOf x=some .free)->∃ c,X.env.cells.lookup x=some c
 cab : ∀ x c,X.fn x=true->X.env.cells.lookup x=some c->X.s₀.heap.objs.size<=c
 hd:X.calm=true->X.A.handled=none
 frames:X.A.frames=some X.stack
 stk:X.stack=X.outer\/(X.stack=X.env :: X.outer/\X.env.frame=some X.env.locals)
 exf : ∀ b∈X.ex,b≠X.env.locals/\∀ x c,X.env.cells.lookup x=some c->c≠b
 bs : ∀ b o,X.base.get? b=some o->X.s₀.heap.get? b=some o/\X.H₀ b=none
 bsz:X.base.objs.size<=X.s₀.heap.objs.size
 noex : ∀ b o,X.base.get? b=some o->b∉X.ex
 exfs : ∀ b∈X.ex,b∉X.fs
 funs:X.s₀.heap.FunFrames X.base X.outer
 frf : ∀ b∈X.fs,X.H₀ b=none
structure ad (X:Cx) (pins:List (Addr × Obj)) (σ:List (Option V)) (H:Hp) (s:Shared):Prop where
 ok:X.Ok
 os:s.os=X.s₀.os
 bare:AllBare s.gens
 base:Un X.fs X.ex X.H₀ H X.s₀.heap s.heap
 loc : ∃ m,s.heap.Ns X.env.locals m/\∀ (i:Nat) (x:Str) (v:V),X.N[i]? = some x->σ[i]? = some (some v)->ii X.env.scope x->∃ u,aq v u/\Hr X.env s.heap m x u
 cell : ∀ x c,X.env.cells.lookup x=some c->∃ v,s.heap.IsCell c v
 free:H X.env.locals=none
 freeC : ∀ x c,X.env.cells.lookup x=some c->H c=none
 pin : ∀ p∈X.pn++pins,s.heap.get? p.1=some p.2/\H p.1=none/\p.1≠X.env.locals/\p.1∉X.fs/\∀ v,p.2.data ≠ .cell v
 hok:aT X.prog X.w H s.heap
 len:σ.length=X.N.length
section
variable {X:Cx}{pins:List (Addr × Obj)}{σ:List (Option V)}{H H':Hp}{s:Shared}{h':Heap}
theorem Cx.Ok.nofr(ok:X.Ok){b:Addr}{o:Obj}(e:X.base.get? b=some o):b∉X.fs:=λhb=>by
 have:=(ok.funs.mem hb).1
 rw[e]at this; cases this
theorem ad.bs(I:ad X pins σ H s) : ∀ b o,X.base.get? b=some o->s.heap.get? b=some o/\H b=none:=λb o e =>
 ⟨I.base.keep b o (I.ok.bs b o e).1 (I.ok.bs b o e).2 (I.ok.nofr e) (I.ok.noex b o e),I.base.free b o (I.ok.bs b o e).1 (I.ok.bs b o e).2 (I.ok.noex b o e)⟩
theorem ad.bk(I:ad X pins σ H s) : ∀ b o,X.base.get? b=some o->s.heap.get? b=some o:=λb o e=>(I.bs b o e).1
theorem ad.mod(I:ad X pins σ H s):Mod X.K X.mg X.base:=I.ok.mod
theorem ad.kIn(I:ad X pins σ H s):X.K.In s.heap:=I.ok.mod.kin.keeps I.bk
theorem ad.lt(I:ad X pins σ H s):X.env.locals < s.heap.objs.size:=let ⟨_,hn,_⟩:=I.loc; hn.lt
theorem ad.sz(I:ad X pins σ H s):X.s₀.heap.objs.size<=s.heap.objs.size:=Nat.le_trans I.ok.above (Nat.le_of_lt I.lt)
theorem ad.nofs(I:ad X pins σ H s){a:Addr}(h:s.heap.objs.size<=a):a∉X.fs:=λhb=>by
 obtain⟨_,o,ho,_⟩:=I.ok.funs.mem hb
 exact absurd (Nat.lt_of_lt_of_le (Heap.lt_size ho) (Nat.le_trans I.sz h)) (Nat.lt_irrefl _)
theorem ad.cne(I:ad X pins σ H s) : ∀ x c,X.env.cells.lookup x=some c->c≠X.env.locals:=λx c e z=>by
 obtain⟨v,o,ho,hd⟩:=I.cell x c e
 obtain⟨m,⟨o',es,ep,ho',hd',_⟩,_⟩:=I.loc
 rw[z,ho']at ho; cases ho; rw[hd']at hd; cases hd
theorem ad.funs(I:ad X pins σ H s):s.heap.FunFrames X.base X.outer:=by
 have all : ∀ (l:List Env),(∀ b∈cw l,b∈X.fs)->X.s₀.heap.FunFrames X.base l->s.heap.FunFrames X.base l:=by
  intro l
  induction l with
  | nil=>intro _ _; trivial
  | cons env r ih =>
   intro hs hl
   obtain⟨hk,⟨L,o,hf,hn,ho,hd⟩,hr⟩:=hl
   have hL:L∈X.fs:=hs L (by unfold cw; rw[List.filterMap_cons,hf]; exact List.mem_cons_self)
   obtain⟨sl,e⟩:=I.base.slot L o ho (I.ok.frf L hL) hL λz=>I.ok.exfs L z hL
   exact⟨hk,⟨L,_,hf,hn,e,hd⟩,ih (λb hb=>hs b (by unfold cw; rw[List.filterMap_cons,hf]; exact List.mem_cons_of_mem _ hb)) hr⟩
 exact all X.outer (λ_ hb=>hb) I.ok.funs
theorem ad.stack(I:ad X pins σ H s):s.heap.FunFrames X.base X.stack:=by
 rcases I.ok.stk with e | ⟨e,hf⟩
 ·rw[e]; exact I.funs
 ·rw[e]
  obtain⟨m,hn,_⟩:=I.loc
  refine .cons (by rw[I.ok.kind]; decide) hf hn ?_ I.funs
  exact Heap.get?_none_of_le (Nat.le_trans I.ok.bsz I.ok.above)
theorem ad.stkSub(I:ad X pins σ H s) : ∀ b∈cw X.stack,b∈X.env.locals :: X.fs:=λb hb=>by
 rcases I.ok.stk with e | ⟨e,hf⟩
 ·rw[e]at hb; exact List.mem_cons_of_mem _ hb
 ·rw[e]at hb
  unfold cw at hb
  rw[List.filterMap_cons,hf]at hb
  exact hb
theorem ad.stkFree(I:ad X pins σ H s) : ∀ b∈cw X.stack,H b=none:=λb hb=>by
 rcases List.mem_cons.mp (I.stkSub b hb) with e | hb
 ·rw[e]; exact I.free
 ·obtain⟨_,o,ho,_⟩:=I.ok.funs.mem hb
  exact I.base.free b o ho (I.ok.frf b hb) λz=>I.ok.exfs b z hb
theorem ad.step{g':Array GenState}{t':Nat}{d':Drawn}{ch:List Addr}(I:ad X pins σ H s)
 (hch : ∀ b∈ch,(b∈X.ex\/X.s₀.heap.objs.size<=b)/\b≠X.env.locals/\(∀ x c,X.env.cells.lookup x=some c->c≠b)/\∀ p∈X.pn++pins,p.1≠b)
 (keep : ∀ b o,b≠X.env.locals->b∉X.fs->b∉ch->s.heap.get? b=some o->H b=none->h'.get? b=some o)
 (slot : ∀ b o,b≠X.env.locals->b∈X.fs->b∉ch->s.heap.get? b=some o->H b=none->∃ sl,h'.get? b=some { o with slots:=sl }) (free : ∀ b o,b∉ch->s.heap.get? b=some o->H b=none->H' b=none)
 (there : ∀ b o,b∉ch->s.heap.get? b=some o->∃ o',h'.get? b=some o')
 (tups : ∀ b xs,H b=some (.tup xs)->H' b=some (.tup xs)) (frzs : ∀ b o u,H b=some (.frz o u)->H' b=some (.frz o u)) (tbls : ∀ b ps,H b=some (.tbl ps)->∃ more,H' b=some (.tbl (ps++more)))
 (ns : ∀ m,s.heap.Ns X.env.locals m->h'.Ns X.env.locals m) (hok:aT X.prog X.w H' h') (hg:AllBare g') :
 ad X pins σ H' { s with heap:=h',gens:=g',drawn:=d',toks:=t' }:=by
 have neL : ∀ b o,X.s₀.heap.get? b=some o->b≠X.env.locals:=λb o e=>Nat.ne_of_lt (Nat.lt_of_lt_of_le (Heap.lt_size e) I.ok.above)
 have neC : ∀ b o,X.s₀.heap.get? b=some o->b∉X.ex->b∉ch:=λb o e hx hb=>by
  rcases (hch b hb).1 with z | z
  ·exact hx z
  ·exact absurd (Nat.lt_of_lt_of_le (Heap.lt_size e) z) (Nat.lt_irrefl _)
 have cellK : ∀ x c,X.env.cells.lookup x=some c->∀ v,s.heap.IsCell c v->h'.IsCell c v:=λx c e v ⟨o,ho,hd⟩=>by
  have nch:c∉ch:=λz=>(hch c z).2.2.1 x c e rfl
  by_cases hc:c∈X.fs
  ·obtain⟨sl,q⟩:=slot c o (I.cne x c e) hc nch ho (I.freeC x c e)
   exact⟨_,q,hd⟩
  ·exact⟨o,keep c o (I.cne x c e) hc nch ho (I.freeC x c e),hd⟩
 refine⟨I.ok,I.os,hg,⟨λb o e n hb hx=>?_,λb o e n hb hx=>?_,λb o e n hx=>?_,λb o e hx=>?_,λb xs e=>tups b xs (I.base.tups b xs e),λb o xs e=>frzs b o xs (I.base.frzs b o xs e),λb ps e=>?_⟩,?_,λx c e=>?_,?_,λx c e=>?_,λp hp=>?_,hok,I.len⟩
 ·exact keep b o (neL b o e) hb (neC b o e hx) (I.base.keep b o e n hb hx) (I.base.free b o e n hx)
 ·obtain⟨sl,e1⟩:=I.base.slot b o e n hb hx
  obtain⟨sl',e2⟩:=slot b _ (neL b o e) hb (neC b o e hx) e1 (I.base.free b o e n hx)
  exact⟨sl',e2⟩
 ·obtain⟨o',e1⟩:=I.base.there b o e hx
  exact free b o' (neC b o e hx) e1 (I.base.free b o e n hx)
 ·obtain⟨o',e1⟩:=I.base.there b o e hx
  exact there b o' (neC b o e hx) e1
 ·obtain⟨m1,e1⟩:=I.base.tbls b ps e
  obtain⟨m2,e2⟩:=tbls b _ e1
  exact⟨m1++m2,by rw[e2,Array.append_assoc]⟩
 ·obtain⟨m,hn,hl⟩:=I.loc
  refine⟨m,ns m hn,λi x v e1 e2 e3=>?_⟩
  obtain⟨u,r,l⟩:=hl i x v e1 e2 e3
  refine⟨u,r,?_⟩
  rcases l with l | ⟨k,c,e,z⟩
  ·exact .inl l
  ·exact .inr ⟨k,c,e,cellK x c e _ z⟩
 ·obtain⟨v,z⟩:=I.cell x c e
  exact⟨v,cellK x c e v z⟩
 ·obtain⟨m,⟨o,_,_,ho,_⟩,_⟩:=I.loc
  exact free _ o (λz=>(hch _ z).2.1 rfl) ho I.free
 ·obtain⟨v,o,ho,hd⟩:=I.cell x c e
  exact free c o (λz=>(hch c z).2.2.1 x c e rfl) ho (I.freeC x c e)
 ·obtain⟨e,n,ne,nf,d⟩:=I.pin p hp
  have nch:p.1∉ch:=λz=>(hch p.1 z).2.2.2 p hp rfl
  exact⟨keep p.1 p.2 ne nf nch e n,free p.1 p.2 nch e n,ne,nf,d⟩
theorem ad.un{t':Nat}(I:ad X pins σ H s)(u:Un X.fs [] H H' s.heap h')(hok:aT X.prog X.w H' h'):ad X pins σ H' { s with heap:=h',toks:=t' }:=by
 obtain⟨m,⟨o,es,ep,ho,r⟩,_⟩:=id I.loc
 obtain⟨sl,hL⟩:=u.any ho I.free (by simp)
 exact I.step (g':=s.gens) (d':=s.drawn) (ch:=[]) (λ_ z=>nomatch z) (λb o _ hb _ e n=>u.keep b o e n hb (by simp)) (λb o _ hb _ e n=>u.slot b o e n hb (by simp)) (λb o _ e n=>u.free b o e n (by simp)) (λb o _ e=>u.there b o e (by simp)) u.tups u.frzs u.tbls (λm' hm=>by
  obtain⟨o',es',ep',ho',r'⟩:=hm
  rw[ho]at ho'; cases ho'
  exact⟨_,es',ep',hL,r'⟩) hok I.bare
theorem ad.call{g':Array GenState}{t':Nat}{d':Drawn}{ch:List Addr}(I:ad X pins σ H s)(u:Un (cw X.stack) ch H H' s.heap h')(hok:aT X.prog X.w H' h')(hg:AllBare g')
 (hch : ∀ b∈ch,(b∈X.ex\/X.s₀.heap.objs.size<=b)/\b≠X.env.locals/\(∀ x c,X.env.cells.lookup x=some c->c≠b)/\∀ p∈X.pn++pins,p.1≠b) :
 ad X pins σ H' { s with heap:=h',gens:=g',drawn:=d',toks:=t' }:=by
 obtain⟨m,⟨o,es,ep,ho,r⟩,_⟩:=id I.loc
 obtain⟨sl,hL⟩:=u.any ho I.free λz=>(hch _ z).2.1 rfl
 exact I.step (ch:=ch) hch (λb o hL hb hc e n=>u.keep b o e n (λz=>(List.mem_cons.mp (I.stkSub b z)).elim hL hb) hc) (λb o _ _ hc e n=>u.any e n hc) (λb o hc e n=>u.free b o e n hc) (λb o hc e=>u.there b o e hc) u.tups u.frzs u.tbls (λm' hm=>by
  obtain⟨o',es',ep',ho',r'⟩:=hm
  rw[ho]at ho'; cases ho'
  exact⟨_,es',ep',hL,r'⟩) hok hg
theorem ad.turned{t':Nat}{it:Addr}(I:ad X pins σ H s)(k : ∀ b o,b≠it->s.heap.get? b=some o->h'.get? b=some o)(hn:H it=none)(hL:it≠X.env.locals)
 (h1:it∈X.ex\/X.s₀.heap.objs.size<=it) (h2 : ∀ x c,X.env.cells.lookup x=some c->c≠it) (h3 : ∀ p∈X.pn++pins,p.1≠it):ad X pins σ H { s with heap:=h',toks:=t' }:=by
 have nit : ∀ b u,H b=some u->b≠it:=λb u e z=>by rw[z,hn]at e; cases e
 refine I.step (g':=s.gens) (d':=s.drawn) (ch:=[it]) (λb hb=>?_) (λb o _ _ hc e _=>k b o (λz=>hc (by simp[z])) e) (λb o _ _ hc e _=>⟨o.slots,k b o (λz=>hc (by simp[z])) e⟩) (λ_ _ _ _ n=>n)
  (λb o hc e=>⟨o,k b o (λz=>hc (by simp[z])) e⟩) (λ_ _ e=>e) (λ_ _ _ e=>e) (λb ps e=>⟨#[],by rw[e]; simp⟩) (λm hm=>?_) (λb u e=>?_) I.bare
 ·have e:b=it:=by simpa using hb
  subst e
  exact⟨h1,hL,h2,h3⟩
 ·obtain⟨o,es,ep,ho,r⟩:=hm
  exact⟨o,es,ep,k _ o (Ne.symm hL) ho,r⟩
 ·refine (I.hok b u e).stay (λc v hc q=>k c v ?_ q) (λ_ q=>q) λ_ _ q=>q
  rcases hc with z | z
  ·rw[z]; exact nit b u e
  ·exact nit c _ z
theorem ad.tok(I:ad X pins σ H s)(t:Nat):ad X pins σ H { s with toks:=t }:=I.un (h':=s.heap) (t':=t) Un.refl I.hok
theorem ad.kept{t':Nat}(I:ad X pins σ H s)(k : ∀ b u,s.heap.get? b=some u->h'.get? b=some u):ad X pins σ H { s with heap:=h',toks:=t' }:=I.un (Un.kept k) (I.hok.kept k)
theorem ad.laid{a:Addr}{o:HO}{t':Nat}(I:ad X pins σ H s)(k : ∀ b u,s.heap.get? b=some u->h'.get? b=some u)(hp:s.heap.objs.size<=a)(new:aO X.prog X.w (upd H a o) h' a o) :
 ad X pins σ (upd H a o) { s with heap:=h',toks:=t' }:=I.un (Un.laid k hp (I.hok.fresh hp)) (I.hok.laid k hp new)
theorem ad.write{x e:Addr}{o:HO}{t':Nat}(I:ad X pins σ H s)(mu:kr (H x))(he:e=x\/H e=some (.own x))(k : ∀ b u,b≠e->s.heap.get? b=some u->h'.get? b=some u)(heo : ∃ u,h'.get? e=some u)
 (new:aO X.prog X.w (upd H x o) h' x o):ad X pins σ (upd H x o) { s with heap:=h',toks:=t' }:=I.un (Un.write mu he k heo) (I.hok.write mu he k heo new)
theorem ad.pins_of{pins':List (Addr × Obj)}(I:ad X pins σ H s)(h : ∀ p∈pins',s.heap.get? p.1=some p.2/\H p.1=none/\p.1≠X.env.locals/\p.1∉X.fs/\∀ v,p.2.data ≠ .cell v):ad X pins' σ H s :=
 ⟨I.ok,I.os,I.bare,I.base,I.loc,I.cell,I.free,I.freeC,λp hp=>(List.mem_append.mp hp).elim (λz=>I.pin p (List.mem_append_left _ z)) (h p),I.hok,I.len⟩
theorem uC{N:List Str}(hN:N.Nodup){i j:Nat}{x:Str}(a:N[i]? = some x)(b:N[j]? = some x):i=j:=by
 obtain⟨h1,e1⟩:=List.getElem?_eq_some_iff.mp a
 obtain⟨h2,e2⟩:=List.getElem?_eq_some_iff.mp b
 exact (List.getElem_inj hN).mp (e1.trans e2.symm)
theorem sy{M:Model}{A:Around}{E:Value->Shared->Prop}{i:Nat}{x:Str}{v:V}{u:Value}{Q:Unit->Shared->Prop}(I:ad X pins σ H s)(hN:X.N.Nodup)(hi:X.N[i]? = some x)(hx:fe X.env.scope x)(r:aq v u)
 (h : ∀ s',ad X pins (σ.set i (some v)) H s'->(∃ a,Heap.SameBut a s.heap s'.heap/\(a=X.env.locals\/X.env.cells.lookup x=some a))->Q () s') (hf:X.fn x=true\/X.env.scope.names.lookup x=some .local:=by first | exact .inl rfl | exact .inr rfl | assumption):wpAny M A (storeName X.env x u) Q E s:=by
 obtain⟨m,hn,hl⟩:=id I.loc
 have hcls:(X.env.scope.kind == .class || (X.env.scope.kind == .module && X.env.locals != X.env.globals))=false:=by rw[I.ok.kind]; rfl
 have hiσ:i < σ.length:=by rw[I.len]; exact (List.getElem?_eq_some_iff.mp hi).1
 have cne:=I.cne
 have tracked : ∀ {a:Addr} {h':Heap},(∃ o,s.heap.get? a=some o/\H a=none)->Heap.SameBut a s.heap h'->aT X.prog X.w H h':=λ{a h'} ha hs b ob e=>by
  obtain⟨_,_,hfree⟩:=ha
  refine (I.hok b ob e).stay (λc w' hc q=>(hs.2 c ?_).trans q) (λ_ q=>q) λ_ _ q=>q
  rintro rfl
  rcases hc with rfl | hc
  ·rw[hfree]at e; cases e
  ·rw[hfree]at hc; cases hc
 rcases hx with hk | hk
 ·refine wpAny_storeName_local hk hn (λh' hn' hs=>?_) hcls
  obtain⟨oL,_,_,hoL,_⟩:=id hn
  refine h _ ⟨I.ok,I.os,I.bare,⟨λb o e n hb hx=>?_,λb o e n hb hx=>?_,I.base.free,λb o e hx=>?_,I.base.tups,I.base.frzs,I.base.tbls⟩,⟨_,hn',λj y v' e1 e2 e3=>?_⟩,λy c e=>?_,I.free,I.freeC,λp hp=>?_,tracked ⟨oL,hoL,I.free⟩ hs,by simpa using I.len⟩ ⟨_,hs,.inl rfl⟩
  ·exact (hs.2 b (Nat.ne_of_lt (Nat.lt_of_lt_of_le (Heap.lt_size e) I.ok.above))).trans (I.base.keep b o e n hb hx)
  ·obtain⟨sl,e1⟩:=I.base.slot b o e n hb hx
   exact⟨sl,(hs.2 b (Nat.ne_of_lt (Nat.lt_of_lt_of_le (Heap.lt_size e) I.ok.above))).trans e1⟩
  ·obtain⟨o',e1⟩:=I.base.there b o e hx
   exact⟨o',(hs.2 b (Nat.ne_of_lt (Nat.lt_of_lt_of_le (Heap.lt_size e) I.ok.above))).trans e1⟩
  ·by_cases hj:j=i
   ·subst hj
    rw[hi]at e1; cases e1
    rw[List.getElem?_set_self hiσ]at e2
    cases e2
    exact⟨u,r,.inl ⟨hk,by simp⟩⟩
   ·rw[List.getElem?_set_ne (Ne.symm hj)]at e2
    obtain⟨u',r',q⟩:=hl j y v' e1 e2 e3
    refine⟨u',r',?_⟩
    rcases q with ⟨k,e⟩ | ⟨k,c,e,z⟩
    ·refine .inl ⟨k,?_⟩
     have:y≠x:=λe=>hj (uC hN e1 (e ▸ hi))
     simp[this,e]
    ·exact .inr ⟨k,c,e,z.sameBut hs (cne y c e)⟩
  ·obtain⟨w',z⟩:=I.cell y c e
   exact⟨w',z.sameBut hs (cne y c e)⟩
  ·obtain⟨e,n,ne,nf,d⟩:=I.pin p hp
   exact⟨(hs.2 p.1 ne).trans e,n,ne,nf,d⟩
 ·have hfn:X.fn x=true:=by
   rcases hf with z | z
   ·exact z
   ·rw[z]at hk; cases hk
  obtain⟨c,hc⟩:=I.ok.has x (.inl hk)
  obtain⟨w',z⟩:=I.cell x c hc
  refine wpAny_storeName_cell I.ok.kind hk hc z (λh' hc' hs=>?_)
  obtain⟨oc,hoc,hocd⟩:=id z
  refine h { s with heap:=h' } ⟨I.ok,I.os,I.bare,⟨λb o e n hb hx=>?_,λb o e n hb hx=>?_,I.base.free,λb o e hx=>?_,I.base.tups,I.base.frzs,I.base.tbls⟩,⟨m,hn.sameBut hs (Ne.symm (cne x c hc)),λj y v' e1 e2 e3=>?_⟩,λy c' e=>?_,I.free,I.freeC,λp hp=>?_,tracked ⟨oc,hoc,I.freeC x c hc⟩ hs,by simpa using I.len⟩ ⟨c,hs,.inr hc⟩
  ·exact (hs.2 b (Nat.ne_of_lt (Nat.lt_of_lt_of_le (Heap.lt_size e) (I.ok.cab x c hfn hc)))).trans (I.base.keep b o e n hb hx)
  ·obtain⟨sl,e1⟩:=I.base.slot b o e n hb hx
   exact⟨sl,(hs.2 b (Nat.ne_of_lt (Nat.lt_of_lt_of_le (Heap.lt_size e) (I.ok.cab x c hfn hc)))).trans e1⟩
  ·obtain⟨o',e1⟩:=I.base.there b o e hx
   exact⟨o',(hs.2 b (Nat.ne_of_lt (Nat.lt_of_lt_of_le (Heap.lt_size e) (I.ok.cab x c hfn hc)))).trans e1⟩
  ·by_cases hj:j=i
   ·subst hj
    rw[hi]at e1; cases e1
    rw[List.getElem?_set_self hiσ]at e2
    cases e2
    exact⟨u,r,.inr ⟨.inl hk,c,hc,hc'⟩⟩
   ·rw[List.getElem?_set_ne (Ne.symm hj)]at e2
    obtain⟨u',r',q⟩:=hl j y v' e1 e2 e3
    refine⟨u',r',?_⟩
    rcases q with q | ⟨k,c',e,z'⟩
    ·exact .inl q
    ·refine .inr ⟨k,c',e,z'.sameBut hs ?_⟩
     rintro rfl
     exact hj (uC hN e1 (I.ok.inj _ _ _ e hc ▸ hi))
  ·by_cases hcc:c'=c
   ·subst hcc; exact⟨_,hc'⟩
   ·obtain⟨w2,z2⟩:=I.cell y c' e
    exact⟨w2,z2.sameBut hs hcc⟩
  ·obtain⟨e,n,ne,nf,d⟩:=I.pin p hp
   refine⟨(hs.2 p.1 ?_).trans e,n,ne,nf,d⟩
   intro q
   rw[q,hoc]at e
   have q':oc=p.2:=Option.some.inj e
   exact d w' (by rw[<- q']; exact hocd)
theorem m8{M:Model}{A:Around}{E:Value->Shared->Prop}{i:Nat}{x:Str}{v:V}{u:Value}{Q:Unit->Shared->Prop}(I:ad X pins σ H s)(hN:X.N.Nodup)(hi:X.N[i]? = some x)(hx:fe X.env.scope x)(r:aq v u)
 (h : ∀ s',ad X pins (σ.set i (some v)) H s'->Q () s') (hf:X.fn x=true\/X.env.scope.names.lookup x=some .local:=by first | exact .inl rfl | exact .inr rfl | assumption):wpAny M A (storeName X.env x u) Q E s :=
 sy I hN hi hx r (λs' I' _=>h s' I') hf
theorem ad.call'{s':Shared}{ch:List Addr}(I:ad X pins σ H s)(ho:s'.os=s.os)(u:Un (cw X.stack) ch H H' s.heap s'.heap)(hok:aT X.prog X.w H' s'.heap)(hg:AllBare s'.gens)
 (hch : ∀ b∈ch,(b∈X.ex\/X.s₀.heap.objs.size<=b)/\b≠X.env.locals/\(∀ x c,X.env.cells.lookup x=some c->c≠b)/\∀ p∈X.pn++pins,p.1≠b):ad X pins σ H' s':=by
 obtain⟨h',g',d',t',o'⟩:=s'
 have e:o'=s.os:=ho
 subst e
 exact I.call (g':=g') (t':=t') (d':=d') u hok hg hch
end
abbrev XK:=Value->Option Addr->Hp->Prop
abbrev St:=List (Option V)
abbrev VK:=V->Hp->Prop
abbrev TE:=St->Hp->VK->Prop
abbrev TT:=St->Hp->(Bool->Hp->Prop)->Prop
abbrev TA:=St->Hp->(List V->Hp->Prop)->Prop
structure cP where
 nx:St->Hp->Prop
 rt:VK
 bk:St->Hp->Prop:=λ_ _=>False
 ct:St->Hp->Prop:=λ_ _=>False
abbrev TS:=cP->St->Hp->Prop
def EP(X:Cx)(pins:List (Addr × Obj))(σ:St)(Q:VK)(u:Value)(s':Shared):Prop:=∃ v H',ad X pins σ H' s'/\aq v u/\Q v H'
def TP(X:Cx)(pins:List (Addr × Obj))(σ:St)(Q:Bool->Hp->Prop)(b:Bool)(s':Shared):Prop:=∃ H',ad X pins σ H' s'/\Q b H'
def AP(X:Cx)(pins:List (Addr × Obj))(σ:St)(Q:List V->Hp->Prop)(us:List Value)(s':Shared):Prop:=∃ vs H',ad X pins σ H' s'/\ar vs us/\Q vs H'
def SP(X:Cx)(pins:List (Addr × Obj))(D:cP)(f:Flow)(s':Shared):Prop :=
 match f with
 | .next=>∃ σ' H',ad X pins σ' H' s'/\D.nx σ' H'
 | .brk=>∃ σ' H',ad X pins σ' H' s'/\D.bk σ' H'
 | .cont=>∃ σ' H',ad X pins σ' H' s'/\D.ct σ' H'
 | .ret u=>∃ v σ' H',ad X pins σ' H' s'/\aq v u/\D.rt v H'
def PE(X:Cx)(e:Expr)(t:TE):Prop :=
 ∀ (pins:List (Addr × Obj)) (s:Shared) (σ:St) (H:Hp) (Q:VK),ad X pins σ H s->t σ H Q->wpAny (model X.prog X.w) X.A (eval e X.env) (EP X pins σ Q) X.xe s
def PT(X:Cx)(e:Expr)(t:TT):Prop :=
 ∀ (pins:List (Addr × Obj)) (s:Shared) (σ:St) (H:Hp) (Q:Bool->Hp->Prop),ad X pins σ H s->t σ H Q->wpAny (model X.prog X.w) X.A (isTrue e X.env (eval e X.env)) (TP X pins σ Q) X.xe s
def PW(X:Cx)(e:Expr)(t:TT):Prop :=
 ∀ (whole:Sem Value) (pins:List (Addr × Obj)) (s:Shared) (σ:St) (H:Hp) (Q:Bool->Hp->Prop),ad X pins σ H s->t σ H Q->wpAny (model X.prog X.w) X.A (isTrue e X.env whole) (TP X pins σ Q) X.xe s
theorem PW.pt{X:Cx}{e:Expr}{t:TT}(h:PW X e t):PT X e t:=h _
def PA(X:Cx)(es:List Expr)(t:TA):Prop :=
 ∀ (pos:Pos) (pins:List (Addr × Obj)) (s:Shared) (σ:St) (H:Hp) (Q:List V->Hp->Prop),ad X pins σ H s->t σ H Q->wpAny (model X.prog X.w) X.A (spliced (backTo pos (starEach es X.env))) (AP X pins σ Q) X.xe s
def PS(X:Cx)(st:Stmt)(t:TS):Prop :=
 ∀ (pins:List (Addr × Obj)) (s:Shared) (σ:St) (H:Hp) (D:cP),ad X pins σ H s->t D σ H->wpAny (model X.prog X.w) X.A (exec st X.env) (SP X pins D) X.xe s
def dk(X:Cx)(st:List Stmt)(t:TS):Prop :=
 ∀ (pins:List (Addr × Obj)) (s:Shared) (σ:St) (H:Hp) (D:cP),ad X pins σ H s->t D σ H->wpAny (model X.prog X.w) X.A (execs st X.env) (SP X pins D) X.xe s
theorem aj{α:Type}{t:Sem α}{Q Q':α->Shared->Prop}{M:Model}{A:Around}{E:Value->Shared->Prop}{s:Shared}(h:wpAny M A t Q E s)(hQ : ∀ a s,Q a s->Q' a s):wpAny M A t Q' E s:=wpAny_mono h hQ λ_ _ x=>x
section
variable {X:Cx}
def yh(i:Nat):TE:=λσ H Q=>∃ v,σ[i]? = some (some v)/\Q v H
def tC(v:V):TE:=λ_ H Q=>Q v H
theorem Br {i:Nat} {x:Str} {pos:Pos} (hN:X.N[i]? = some x) (hv:ii X.env.scope x) (hd:(x == ("__debug__" : Str))=false:=by decide) (hcd:(x == ("__classdict__" : Str))=false:=by decide):PE X (.Name x pos) (yh i):=by
 intro pins s σ H Q I h
 obtain⟨v,e,h⟩:=h
 obtain⟨m,hn,hl⟩:=I.loc
 obtain⟨u,r,l⟩:=hl i x v hN e hv
 have fin:EP X pins σ Q u s:=⟨v,H,I,r,h⟩
 rcases l with ⟨hk,hm⟩ | ⟨hk,c,hc,hcell⟩
 ·exact wpAny_Name (wpAny_loadName_local I.ok.kind hk hn hm fin) hd
 ·rcases hk with hk | hk
  ·exact wpAny_Name (wpAny_loadName_cell I.ok.kind hk hc hcell fin) hd
  ·exact wpAny_Name (wpAny_loadName_free I.ok.kind hk hc hcell fin hcd) hd
theorem lm{i j pos}:PE X (.Constant (.int i) j pos) (tC (.int i)):=λ_ _ _ H _ I h=>wpAny_Constant_int ⟨.int i,H,I.tok _,⟨_,rfl⟩,h⟩
theorem uo{b j pos}:PE X (.Constant (.bool b) j pos) (tC (.bl b)):=λ_ _ _ H _ I h=>Constant_bool ⟨.bl b,H,I,rfl,h⟩
theorem ui{j pos}:PE X (.Constant .none j pos) (tC .non):=λ_ _ _ H _ I h=>Constant_none ⟨.non,H,I,rfl,h⟩
theorem uh{x j pos}:PE X (.Constant (.str x) j pos) (tC (.str x)):=λ_ _ _ H _ I h=>Calls.Constant_str ⟨.str x,H,I.tok _,⟨_,rfl⟩,h⟩
def Gl(X:Cx)(x:Str):Prop:=X.env.kindOf x=some .globalImplicit
theorem oq{E:Value->Shared->Prop}{pins:List (Addr × Obj)}{s:Shared}{σ:St}{H:Hp}{x:Str}{u:Value}{pos:Pos}{Q:Value->Shared->Prop}(I:ad X pins σ H s)(hg:Gl X x)(hm:X.mg x=some u)(h:Q u s)
 (hd:(x == ("__debug__" : Str))=false:=by decide):wpAny (model X.prog X.w) X.A (eval (.Name x pos) X.env) Q E s :=
 Calls.Name_function_global I.ok.kind hg (Calls.loadGlobal_global (by rw[I.ok.glob]; exact I.mod.glob.keeps I.bk) hm h) hd
theorem fA{E:Value->Shared->Prop}{pins:List (Addr × Obj)}{s:Shared}{σ:St}{H:Hp}{x:Str}{u:Value}{pos:Pos}{Q:Value->Shared->Prop}(I:ad X pins σ H s)(hg:Gl X x)(hm:X.mg x=none)(hv:bootBuiltins x=some u)(h:Q u s)
 (hn:x ≠ "__name__":=by decide) (hd:(x == ("__debug__" : Str))=false:=by decide):wpAny (model X.prog X.w) X.A (eval (.Name x pos) X.env) Q E s:=by
 obtain⟨mb,h1,h2⟩:=I.mod.blt
 exact Calls.Name_function_global I.ok.kind hg (Calls.loadGlobal_builtin (by rw[I.ok.glob]; exact I.mod.glob.keeps I.bk) hm (by rw[I.ok.blt]; exact h1.keeps I.bk) ((h2 x hn).trans hv) h) hd
theorem BB {x:Str} {v:V} {u:Value} {pos:Pos} (hg:Gl X x) (hm:X.mg x=some u) (r:aq v u) (hd:(x == ("__debug__" : Str))=false:=by decide):PE X (.Name x pos) (tC v) :=
 λ_ _ _ H _ I h=>oq I hg hm ⟨v,H,I,r,h⟩ hd
theorem BP {x:Str} {v:V} {u:Value} {pos:Pos} (hg:Gl X x) (hm:X.mg x=none) (hv:bootBuiltins x=some u) (r:aq v u) (hn:x ≠ "__name__":=by decide) (hd:(x == ("__debug__" : Str))=false:=by decide):PE X (.Name x pos) (tC v) :=
 λ_ _ _ H _ I h=>fA I hg hm hv ⟨v,H,I,r,h⟩ hn hd
variable {a b:Expr}{ta tb:TE}{pos:Pos}
variable {tA tB':TT}{rest:List Expr}
def sx(t u:TT):TT:=λσ H Q=>t σ H λc H1=>if c=true then u σ H1 Q else Q false H1
def rZ(t u:TT):TT:=λσ H Q=>t σ H λc H1=>if c=true then Q true H1 else u σ H1 Q
def r9(t:TT):TT:=λσ H Q=>t σ H λc H1=>Q (!c) H1
theorem AB(ha:PT X a tA):PW X (.BoolOp .And [a] pos) tA:=by
 intro wh pins s σ H Q I h
 refine isTrue_and (aj (ha pins s σ H Q I h) λc s1 e=>?_)
 cases c with
 | true=>exact isTrue_and_nil e
 | false=>exact e
theorem Az(ha:PT X a tA):PW X (.BoolOp .Or [a] pos) tA:=by
 intro wh pins s σ H Q I h
 refine isTrue_or (aj (ha pins s σ H Q I h) λc s1 e=>?_)
 cases c with
 | false=>exact isTrue_or_nil e
 | true=>exact e
theorem AC(ha:PT X a tA)(hb:PW X (.BoolOp .And (b :: rest) pos) tB'):PW X (.BoolOp .And (a :: b :: rest) pos) (sx tA tB'):=by
 intro wh pins s σ H Q I h
 refine isTrue_and (aj (ha pins s σ H _ I h) λc s1 ⟨H1,I1,q1⟩=>?_)
 cases c with
 | true=>exact hb wh pins s1 σ H1 Q I1 q1
 | false=>exact⟨H1,I1,q1⟩
theorem AA(ha:PT X a tA)(hb:PW X (.BoolOp .Or (b :: rest) pos) tB'):PW X (.BoolOp .Or (a :: b :: rest) pos) (rZ tA tB'):=by
 intro wh pins s σ H Q I h
 refine isTrue_or (aj (ha pins s σ H _ I h) λc s1 ⟨H1,I1,q1⟩=>?_)
 cases c with
 | true=>exact⟨H1,I1,q1⟩
 | false=>exact hb wh pins s1 σ H1 Q I1 q1
theorem AS(ha:PT X a tA):PT X (.UnaryOp .Not a pos) (r9 tA):=by
 intro pins s σ H Q I h
 exact isTrue_not (ha pins s σ H (λc H1=>Q (!c) H1) I h)
theorem Bw{op}{t:TE}(h:PE X a t):PE X (.BoolOp op [a] pos) t:=λpins s σ H Q I hw=>BoolOp_one (h pins s σ H Q I hw)
def sh(t:TT)(ta tb:TE):TE:=λσ H Q=>t σ H λc H1=>if c=true then ta σ H1 Q else tb σ H1 Q
theorem BA{c:Expr}(hc:PT X c tA)(ha:PE X a ta)(hb:PE X b tb):PE X (.IfExp c a b pos) (sh tA ta tb):=by
 intro pins s σ H Q I h
 refine wpAny_IfExp (aj (hc pins s σ H _ I h) λd s1 ⟨H1,I1,q1⟩=>?_)
 cases d with
 | true=>exact ha pins s1 σ H1 Q I1 q1
 | false=>exact hb pins s1 σ H1 Q I1 q1
end
def ax(K:W.Frag)(H:Hp)(a:Addr)(xs:List V):Prop :=
 Rd H a (.lst xs) \/
  ∃ (o:Obj) (its:Array Value) (n:Nat),K.lookup a=some o/\o.cls=.type "list"/\o.dict=none/\o.data=.seq its n/\its.size<=sizeLine/\ar xs its.toList
def bT(K:W.Frag)(H:Hp)(a:Addr)(xs:List V):Prop :=
 Rd H a (.tup xs) \/
  ∃ (o:Obj) (its:Array Value) (n:Nat),K.lookup a=some o/\o.cls=.type "tuple"/\o.data=.seq its n/\its.size<=sizeLine/\ar xs its.toList
def Hh:Value->Option V
 | .none=>some .non
 | .bool b=>some (.bl b)
 | .int i _=>some (.int i)
 | .str x _=>some (.str x)
 | .bytes b _=>some (.byt b)
 | .float b _=>some (.flt b)
 | .ref a=>some (.ref a)
 | .type n=>some (.ty n)
 | _=>none
theorem aq.abs{x:V}{u:Value}(r:aq x u):Hh u=some x:=by
 cases x with
 | non=>cases r; rfl
 | bl _=>cases r; rfl
 | int _=>obtain⟨t,rfl⟩:=r; rfl
 | str _=>obtain⟨t,rfl⟩:=r; rfl
 | byt _=>obtain⟨t,rfl⟩:=r; rfl
 | flt _=>obtain⟨t,rfl⟩:=r; rfl
 | ref _=>cases r; rfl
 | ty _=>cases r; rfl
theorem aq.inj{x y:V}{u:Value}(r:aq x u)(q:aq y u):x=y:=Option.some.inj (r.abs.symm.trans q.abs)
theorem ar.inj : ∀ {xs ys:List V} {us:List Value},ar xs us->ar ys us->xs=ys
 | _,_,_,.nil,.nil=>rfl
 | _,_,_,.cons r t,.cons r' t'=>by rw[r.inj r',ar.inj t t']
section
variable {X:Cx}{pins:List (Addr × Obj)}{σ:St}{H:Hp}{s:Shared}{a:Addr}{xs ys:List V}
theorem ax.of{K:W.Frag}(h:H a=some (.lst xs)):ax K H a xs:=.inl (.inl h)
theorem bT.of{K:W.Frag}(h:H a=some (.tup xs)):bT K H a xs:=.inl (.inl h)
theorem ad.list(I:ad X pins σ H s)(h:ax X.K H a xs) : ∃ its:List Value,ar xs its/\PlainL s.heap a its.toArray/\xs.length<=sizeLine:=by
 rcases h with h | ⟨o,its,n,hk,hc,hd,hs,hz,r⟩
 ·obtain⟨z,its,n,r,e⟩:=h.ok I.hok
  exact⟨its,r,⟨_,n,e,rfl,rfl,rfl⟩,z⟩
 ·refine⟨its.toList,r,⟨o,n,I.kIn a o hk,hc,hd,by simpa using hs⟩,?_⟩
  have e:=r.length
  simp only [Array.length_toList]at e
  omega
theorem ad.tuple(I:ad X pins σ H s)(h:bT X.K H a xs) : ∃ its:List Value,ar xs its/\IsTup s.heap a its.toArray/\xs.length<=sizeLine:=by
 rcases h with h | ⟨o,its,n,hk,hc,hs,hz,r⟩
 ·obtain⟨z,its,r,p⟩:=h.ok I.hok
  exact⟨its,r,p,z⟩
 ·refine⟨its.toList,r,⟨o,I.kIn a o hk,hc,n,by simpa using hs⟩,?_⟩
  have e:=r.length
  simp only [Array.length_toList]at e
  omega
theorem ad.list_inj(I:ad X pins σ H s)(h:ax X.K H a xs)(h':ax X.K H a ys):xs=ys:=by
 obtain⟨its,r,⟨o,n,e,_,_,d⟩,_⟩:=I.list h
 obtain⟨its',r',⟨o',n',e',_,_,d'⟩,_⟩:=I.list h'
 rw[e]at e'; cases e'
 rw[d]at d'
 injection d' with d1 _
 have:its=its':=by simpa using congrArg Array.toList d1
 subst this
 exact r.inj r'
end
abbrev Cx.wish(X:Cx)(E:Value->Shared->Prop):Cx:={ X with xe:=E }
abbrev Cx.nox(X:Cx):Cx:=X.wish λ_ _=>False
theorem Cx.Ok.wish{X:Cx}(ok:X.Ok)(E:Value->Shared->Prop):(X.wish E).Ok :=
 ⟨ok.mod,ok.kind,ok.glob,ok.blt,ok.above,ok.inj,ok.has,ok.cab,ok.hd,ok.frames,ok.stk,ok.exf,ok.bs,ok.bsz,ok.noex,ok.exfs,ok.funs,ok.frf⟩
theorem Cx.Ok.unwish{X:Cx}{E:Value->Shared->Prop}(ok:(X.wish E).Ok):X.Ok :=
 ⟨ok.mod,ok.kind,ok.glob,ok.blt,ok.above,ok.inj,ok.has,ok.cab,ok.hd,ok.frames,ok.stk,ok.exf,ok.bs,ok.bsz,ok.noex,ok.exfs,ok.funs,ok.frf⟩
section
variable {X:Cx}{pins:List (Addr × Obj)}{σ:St}{H:Hp}{s:Shared}{E:Value->Shared->Prop}
theorem ad.wish(I:ad X pins σ H s)(E:Value->Shared->Prop):ad (X.wish E) pins σ H s:=⟨I.ok.wish E,I.os,I.bare,I.base,I.loc,I.cell,I.free,I.freeC,I.pin,I.hok,I.len⟩
theorem ad.unwish(I:ad (X.wish E) pins σ H s):ad X pins σ H s:=⟨I.ok.unwish,I.os,I.bare,I.base,I.loc,I.cell,I.free,I.freeC,I.pin,I.hok,I.len⟩
theorem SP.unwish{D:cP}{f:Flow}{s':Shared}(h:SP (X.wish E) pins D f s'):SP X pins D f s':=by
 cases f with
 | next=>obtain⟨σ',H',I,q⟩:=h; exact⟨σ',H',I.unwish,q⟩
 | brk=>obtain⟨σ',H',I,q⟩:=h; exact⟨σ',H',I.unwish,q⟩
 | cont=>obtain⟨σ',H',I,q⟩:=h; exact⟨σ',H',I.unwish,q⟩
 | ret u=>obtain⟨v,σ',H',I,r,q⟩:=h; exact⟨v,σ',H',I.unwish,r,q⟩
theorem dk.nox{st:List Stmt}{t:TS}(h:dk X.nox st t):dk X st t:=λpins s σ H D I hw =>
 wpAny_mono (h pins s σ H D (I.wish _) hw) (λ_ _ q=>q.unwish) λ_ _ z=>False.elim z
end
section
variable {X:Cx}{st:Stmt}{rest:List Stmt}{t u:TS}{e:Expr}{te:TE}{pos:Pos}
def kI:TS:=λD σ H=>D.nx σ H
def mX(t u:TS):TS:=λD σ H=>t { D with nx:=u D } σ H
theorem AU:dk X [] kI:=λ_ _ σ H _ I h=>wpAny_execs_nil ⟨σ,H,I,h⟩
theorem AV(h1:PS X st t)(h2:dk X rest u):dk X (st :: rest) (mX t u):=by
 intro pins s σ H D I h
 refine wpAny_execs_cons (aj (h1 pins s σ H { D with nx:=u D } I h) λf s1 q=>?_)
 cases f with
 | next =>
  obtain⟨σ',H',I',q⟩:=q
  exact h2 pins s1 σ' H' D I' q
 | ret v=>exact q
 | brk=>exact q
 | cont=>exact q
theorem AT(h1:PS X st t):dk X [st] t:=by
 intro pins s σ H D I h
 refine wpAny_execs_cons (aj (h1 pins s σ H D I h) λf s1 q=>?_)
 cases f with
 | next=>exact wpAny_execs_nil q
 | ret v=>exact q
 | brk=>exact q
 | cont=>exact q
theorem ad.quiet{pins:List (Addr × Obj)}{σ:St}{H:Hp}{s:Shared}(I:ad X pins σ H s):interactive X.env=false:=by simp[interactive,I.ok.kind]
def sk(te:TE):TS:=λD σ H=>te σ H λ_ H1=>D.nx σ H1
theorem A5(he:PE X e te)(hs:swapsWith e none pos.line X.env=pure false:=by rfl):PS X (.Expr e pos) (sk te):=by
 intro pins s σ H D I h
 exact wpAny_Expr_any (aj (he pins s σ H _ I h) λv s1 ⟨x,H1,I1,r1,q1⟩=>⟨σ,H1,I1,q1⟩) I.quiet hs
def rX(te:TE):TS:=λD σ H=>te σ H D.rt
theorem AZ(he:PE X e te):PS X (.Return (some e) pos) (rX te):=by
 intro pins s σ H D I h
 exact wpAny_Return_some (aj (he pins s σ H _ I h) λv s1 ⟨x,H1,I1,r1,q1⟩=>⟨x,σ,H1,I1,r1,q1⟩)
def mY(c:TT)(t u:TS):TS:=λD σ H=>c σ H λb H1=>if b=true then t D σ H1 else u D σ H1
theorem A2{c:Expr}{a b:List Stmt}{tc:TT}(hc:PT X c tc)(ha:dk X a t)(hb:dk X b u):PS X (.If c a b pos) (mY tc t u):=by
 intro pins s σ H D I h
 refine wpAny_If (aj (hc pins s σ H _ I h) λd s1 ⟨H1,I1,q1⟩=>?_)
 cases d with
 | true=>exact ha pins s1 σ H1 D I1 q1
 | false=>exact hb pins s1 σ H1 D I1 q1
def se:TS:=λ_ _ _=>False
theorem A1:PS X st se:=λ_ _ _ _ _ _ h=>h.elim
end
abbrev TG:=V->St->Hp->(St->Hp->Prop)->Prop
abbrev eY:=List V->St->Hp->(St->Hp->Prop)->Prop
def PG(X:Cx)(target:Expr)(t:TG):Prop :=
 ∀ (pins:List (Addr × Obj)) (s:Shared) (σ:St) (H:Hp) (v:V) (u:Value) (Q:St->Hp->Prop),ad X pins σ H s->aq v u->t v σ H Q ->
  wpAny (model X.prog X.w) X.A (assign target X.env u) (λ_ s'=>∃ σ' H',ad X pins σ' H' s'/\Q σ' H') X.xe s
def ko(X:Cx)(ts:List Expr)(t:eY):Prop :=
 ∀ (pins:List (Addr × Obj)) (s:Shared) (σ:St) (H:Hp) (vs:List V) (us:List Value) (Q:St->Hp->Prop),ad X pins σ H s->ar vs us->t vs σ H Q ->
  wpAny (model X.prog X.w) X.A (assignInOrder ((assignEach ts X.env).map (·.2)) us) (λ_ s'=>∃ σ' H',ad X pins σ' H' s'/\Q σ' H') X.xe s
abbrev rq:=V->V->Hp->VK->Prop
def Hq(X:Cx)(op:Operator)(t:rq):Prop :=
 ∀ (pins:List (Addr × Obj)) (s:Shared) (σ:St) (H:Hp) (x y:V) (v u:Value) (Q:VK),ad X pins σ H s->aq x v->aq y u->t x y H Q ->
  wpAny (model X.prog X.w) X.A (inplaceOp op v u) (EP X pins σ Q) X.xe s
section
variable {X:Cx}{pos:Pos}
def bF(i:Nat):TG:=λv σ H Q=>Q (σ.set i (some v)) H
theorem Bq{i:Nat}{x:Str}(hN:X.N.Nodup)(hi:X.N[i]? = some x)(hx:fe X.env.scope x)(hf:X.fn x=true\/X.env.scope.names.lookup x=some .local:=by first | exact .inl rfl | exact .inr rfl | assumption):PG X (.Name x pos) (bF i):=by
 intro pins s σ H v u Q I r h
 exact wpAny_assign_Name (m8 I hN hi hx r (λs' I'=>⟨_,H,I',h⟩) hf)
def jj:eY:=λvs σ H Q=>vs=[]/\Q σ H
def eU(t:TG)(u:eY):eY:=λvs σ H Q=>∃ v r,vs=v :: r/\t v σ H λσ' H'=>u r σ' H' Q
theorem Bn:ko X [] jj:=by
 intro pins s σ H vs us Q I r h
 obtain⟨e,h⟩:=h
 subst e
 cases r
 exact assignInOrder_nil ⟨σ,H,I,h⟩
theorem Bo{e:Expr}{es:List Expr}{t:TG}{u:eY}(h1:PG X e t)(h2:ko X es u)
 (hs:(assignEach (e :: es) X.env).map (·.2)=assign e X.env :: (assignEach es X.env).map (·.2):=by rfl):ko X (e :: es) (eU t u):=by
 intro pins s σ H vs us Q I r h
 obtain⟨v,vr,e1,h⟩:=h
 subst e1
 cases r with
 | cons r rr =>
  rw[hs]
  refine assignInOrder_cons (aj (h1 pins s σ H _ _ _ I r h) λ_ s1 ⟨σ1,H1,I1,q1⟩=>?_)
  exact h2 pins s1 σ1 H1 _ _ Q I1 rr q1
def hW(K:W.Frag)(n:Nat)(t:eY):TG:=λv σ H Q=>∃ a xs,v=.ref a/\bT K H a xs/\xs.length=n/\t xs σ H Q
theorem Bp{es:List Expr}{k:Nat}{t:eY}{n:Nat}(hc:X.calm=true)(h:ko X es t)
 (hn:(assignEach es X.env).length=n:=by rfl) (hst:(assignEach es X.env).findIdx? (·.1)=none:=by rfl):PG X (.Tuple es k pos) (hW X.K n t):=by
 intro pins s σ H v u Q I r hw
 obtain⟨a,xs,e1,hq,hl,hw⟩:=hw
 subst e1
 cases r
 obtain⟨its,rv,ht,hz⟩:=I.tuple hq
 refine assign_Tuple_tuple (I.ok.hd hc) ht (by simp[hn,<- hl,rv.length]) hst λh' hx=>?_
 have I1:ad X pins σ H { s with heap:=h' }:=I.kept (t':=s.toks) λb o e=>hx b o (Nat.ne_of_lt (Heap.lt_size e)) e
 exact h pins _ σ H xs _ Q I1 (by simpa using rv) hw
def iz(te:TE)(g:TG):TS:=λD σ H=>te σ H λx H1=>g x σ H1 D.nx
theorem A8{tg e:Expr}{te:TE}{g:TG}(he:PE X e te)(hg:PG X tg g)(hs:swapsWithSole [tg] e pos.line X.env=pure false:=by rfl)(hw:swappedStores [tg] e X.env=pure none:=by rfl)
 (h1:(assignEach [tg] X.env).map (·.2)=[assign tg X.env]:=by rfl):PS X (.Assign [tg] e pos) (iz te g):=by
 intro pins s σ H D I h
 refine wpAny_Assign_stores (aj (he pins s σ H _ I h) λv s1 ⟨x,H1,I1,r1,q1⟩=>?_) hs hw
 rw[h1]
 exact aj (hg pins s1 σ H1 x v _ I1 r1 q1) λ_ s2 q=>q
theorem AY{i:Nat}{x:Str}{e:Expr}{te:TE}{pos':Pos}(hN:X.N.Nodup)(hi:X.N[i]? = some x)(hx:fe X.env.scope x)(he:PE X e te)(hs:swapsWith e (some (.Name x pos')) pos.line X.env=pure false:=by rfl)(hf:X.fn x=true\/X.env.scope.names.lookup x=some .local:=by first | exact .inl rfl | exact .inr rfl | assumption) :
 PS X (.Assign [.Name x pos'] e pos) (iz te (bF i)):=by
 intro pins s σ H D I h
 refine wpAny_Assign_Name (aj (he pins s σ H _ I h) λv s1 ⟨y,H1,I1,r1,q1⟩=>?_) hs
 exact m8 I1 hN hi hx r1 (λs2 I2=>⟨_,H1,I2,q1⟩) hf
def sv(i:Nat)(te:TE)(ti:rq):TS:=λD σ H=>∃ x,σ[i]? = some (some x)/\te σ H λy H1=>ti x y H1 λz H2=>D.nx (σ.set i (some z)) H2
theorem A7{i:Nat}{x:Str}{e:Expr}{te:TE}{op:Operator}{ti:rq}{pos':Pos}(hN:X.N.Nodup)(hi:X.N[i]? = some x)(hx:fe X.env.scope x)(he:PE X e te)(ho:Hq X op ti)(hf:X.fn x=true\/X.env.scope.names.lookup x=some .local:=by first | exact .inl rfl | exact .inr rfl | assumption) :
 PS X (.AugAssign (.Name x pos') op e pos) (sv i te ti):=by
 intro pins s σ H D I h
 obtain⟨v,e1,h⟩:=h
 obtain⟨m,hn,hl⟩:=I.loc
 have vis:ii X.env.scope x:=by rcases hx with k | k; exact .inl k; exact .inr (.inl k)
 obtain⟨u,r,l⟩:=hl i x v hi e1 vis
 refine wpAny_AugAssign_Name ?_
 have go:wpAny (model X.prog X.w) X.A (eval e X.env) (λw s₂=>wpAny (model X.prog X.w) X.A (inplaceOp op u w) (λr s₃=>wpAny (model X.prog X.w) X.A (storeName X.env x r) (λ_=>SP X pins D .next) X.xe s₃) X.xe s₂) X.xe s:=by
  refine aj (he pins s σ H _ I h) λw s1 ⟨y,H1,I1,r1,q1⟩=>?_
  refine aj (ho pins s1 σ H1 v y u w _ I1 r r1 q1) λz s2 ⟨zv,H2,I2,r2,q2⟩=>?_
  exact m8 I2 hN hi hx r2 (λs3 I3=>⟨_,H2,I3,q2⟩) hf
 rcases l with ⟨hk,hm⟩ | ⟨hk,c,hc,hcell⟩
 ·exact wpAny_loadName_local I.ok.kind hk hn hm go
 ·rcases hk with hk | hk
  ·exact wpAny_loadName_cell I.ok.kind hk hc hcell go
  ·rcases hx with k | k
   ·have:X.env.scope.names.lookup x=some .free:=hk
    rw[k]at this; cases this
   ·have:X.env.scope.names.lookup x=some .free:=hk
    rw[k]at this; cases this
end
section
variable {X:Cx}{pos:Pos}
def rS(c:TT)(tb:TS):TS:=λD σ H=>∃ W:Nat->St->Hp->Prop,(∃ m,W m σ H)/\∀ m σ H,W m σ H ->
 c σ H λb H1=>if b=true then ∃ N:St->Hp->Prop,(∀ σ' H',N σ' H'->∃ m',m' < m/\W m' σ' H')/\tb { D with nx:=N,ct:=N,bk:=D.nx } σ H1 else D.nx σ H1
theorem AW{c:Expr}{body:List Stmt}{tc:TT}{tb:TS}(hp:PassesOwn (model X.prog X.w) X.A X.env X.xe)(hc:PT X c tc)(hb:dk X body tb):PS X (.While c body [] pos) (rS tc tb):=by
 intro pins s σ H D I h
 obtain⟨W,⟨m0,w0⟩,turn⟩:=h
 refine wpAny_While (codeAny_whileLoop (λn s'=>∃ σ' H',ad X pins σ' H' s'/\W n σ' H') ?_ m0 ⟨σ,H,I,w0⟩)
 rintro n s1 ⟨σ1,H1,I1,w1⟩
 refine wpAny_passesOwn hp (aj (hc pins s1 σ1 H1 _ I1 (turn n σ1 H1 w1)) λb s2 ⟨H2,I2,q2⟩=>?_)
 cases b with
 | true =>
  obtain⟨N,hN,q2⟩:=q2
  rw[if_pos rfl]
  refine wpAny_passesOwn hp (aj (hb pins s2 σ1 H2 _ I2 q2) λf s3 q3=>?_)
  cases f with
  | next =>
   obtain⟨σ3,H3,I3,n3⟩:=q3
   obtain⟨m',hm,w3⟩:=hN σ3 H3 n3
   exact⟨m',hm,σ3,H3,I3,w3⟩
  | cont =>
   obtain⟨σ3,H3,I3,n3⟩:=q3
   obtain⟨m',hm,w3⟩:=hN σ3 H3 n3
   exact⟨m',hm,σ3,H3,I3,w3⟩
  | brk=>exact q3
  | ret v=>exact q3
 | false =>
  rw[if_neg Bool.false_ne_true]
  exact wpAny_execs_nil ⟨σ1,H2,I2,q2⟩
end
structure It where
 go:Nat->Hp->Prop
 yld:Nat->Hp->V->Hp->Prop
 stop:Nat->Hp->Prop
def dL(X:Cx)(pins:List (Addr × Obj))(H:Hp)(b:Addr):Prop :=
 H b=none/\b≠X.env.locals/\b∉X.fs/\(b∈X.ex\/X.s₀.heap.objs.size<=b)/\(∀ x c,X.env.cells.lookup x=some c->c≠b)/\∀ p∈X.pn++pins,p.1≠b
theorem ad.fpOk{X:Cx}{pins:List (Addr × Obj)}{σ:St}{H H':Hp}{s:Shared}{b:Addr}(I:ad X pins σ H s)(hb:s.heap.objs.size<=b)(hn:H' b=none):dL X pins H' b:=by
 refine⟨hn,Nat.ne_of_gt (Nat.lt_of_lt_of_le I.lt hb),I.nofs hb,.inr (Nat.le_trans I.sz hb),λx c e z=>?_,λp hp z=>?_⟩
 ·obtain⟨v,q⟩:=I.cell x c e
  exact absurd (Nat.lt_of_lt_of_le q.lt (by rw[z]; exact hb)) (Nat.lt_irrefl _)
 ·exact absurd (Nat.lt_of_lt_of_le (Heap.lt_size (I.pin p hp).1) (by rw[z]; exact hb)) (Nat.lt_irrefl _)
structure dg (P:Program) (w:World) (K:W.Frag) (tg:Expr) (J:It) (fp:List Addr) (it:Addr) (tn:Nat->Heap->Prop):Prop where
 mem:it∈fp
 obj : ∀ i h,tn i h->∀ b∈fp,∃ o,h.get? b=some o/\∀ v,o.data ≠ .cell v
 keep : ∀ i h h',tn i h->(∀ b∈fp,∀ o,h.get? b=some o->h'.get? b=some o)->tn i h'
 item : ∀ (X:Cx),X.prog=P->X.w=w->X.K=K->X.calm=true->∀ (i:Nat) (pins:List (Addr × Obj)) (s:Shared) (σ:St) (H:Hp) (E:Value->Shared->Prop),ad X pins σ H s->(∀ b∈fp,dL X pins H b)->tn i s.heap->J.go i H ->
  wpAny (model P w) X.A (pyNext (.ref it)) (λr s1=>∃ u,r=some u /\
   wpAny (model P w) X.A (letOwnedTupleGo tg (.ref it) u) (λ_ s2=>∃ x H',ad X pins σ H' s2/\aq x u/\J.yld i H x H'/\tn (i+1) s2.heap/\∀ b∈fp,H' b=none) E s1) E s
 done : ∀ (X:Cx),X.prog=P->X.w=w->X.K=K->X.calm=true->∀ (i:Nat) (pins:List (Addr × Obj)) (s:Shared) (σ:St) (H:Hp) (E:Value->Shared->Prop),ad X pins σ H s->(∀ b∈fp,dL X pins H b)->tn i s.heap->J.stop i H ->
  wpAny (model P w) X.A (pyNext (.ref it)) (λr s1=>r=none/\ad X pins σ H s1) E s
 self : ∀ (A:Around) (i:Nat) (s:Shared) (Q:Value->Shared->Prop) (E:Value->Shared->Prop),tn i s.heap->Q (.ref it) s->wpAny (model P w) A (pyIter (.ref it)) Q E s
abbrev TI:=St->Hp->(It->Hp->Prop)->Prop
def wV(X:Cx)(pins:List (Addr × Obj))(σ:St)(tg:Expr)(R:It->Hp->Prop)(itv:Value)(s2:Shared):Prop :=
 ∃ (it:Addr) (fp:List Addr) (tn:Nat->Heap->Prop) (J:It) (H':Hp),itv=.ref it/\ad X pins σ H' s2/\dg X.prog X.w X.K tg J fp it tn/\tn 0 s2.heap/\(∀ b∈fp,dL X pins H' b)/\R J H'
def PI(X:Cx)(tg iter:Expr)(wi:TI):Prop :=
 ∀ (pins:List (Addr × Obj)) (s:Shared) (σ:St) (H:Hp) (R:It->Hp->Prop),ad X pins σ H s->wi σ H R ->
  wpAny (model X.prog X.w) X.A (eval iter X.env) (λv s1=>wpAny (model X.prog X.w) X.A (pyIter v) (wV X pins σ tg R) X.xe s1) X.xe s
theorem fZ{M:Model}{A:Around}{E:Value->Shared->Prop}{s:Shared}{tg:Expr}{it:Addr}{u:Value}{o:Obj}{n:String}{vs:Array Value}{Q:Unit->Shared->Prop}(ho:s.heap.get? it=some o)(hc:o.cls=.type n)(hd:o.data=.fields vs)
 (hn:["enumerate", "zip", "dict_itemiterator", "dict_reverseitemiterator", "odict_iterator", "itertools.zip_longest", "itertools.pairwise"].contains n=false) (hQ:Q () s):wpAny M A (letOwnedTupleGo tg (.ref it) u) Q E s:=by
 unfold letOwnedTupleGo
 cases tg <;> first
  | exact wpAny_pure hQ
  | (cases u <;> first
      | exact wpAny_pure hQ
      | (refine wpAny_bind (wpAny_load ho ?_)
         rw[hc,hd]
         show wpAny M A (if (["enumerate", "zip", "dict_itemiterator", "dict_reverseitemiterator", "odict_iterator", "itertools.zip_longest", "itertools.pairwise"].contains n && vs[0]? == some (rawInt _))=true then _ else _) Q E s
         rw[if_neg (by intro h; rw[hn,Bool.false_and]at h; cases h)]
         exact wpAny_pure hQ))
def iq(K:W.Frag)(a:Addr):It :=
 ⟨λi H=>∃ xs x,ax K H a xs/\xs[i]? = some x,λi H x H'=>H'=H/\∀ xs,ax K H a xs->xs[i]? = some x,λi H=>∃ xs,ax K H a xs/\xs.length<=i⟩
def jy(lo:Int)(n:Nat):It:=⟨λi _=>i < n,λi H x H'=>H'=H/\x=.int (lo+i),λi _=>n<=i⟩
theorem xZ{P:Program}{w:World}{K:W.Frag}{tg:Expr}(a it:Addr):dg P w K tg (iq K a) [it] it (λi h=>h.IsListIter it a i) where
 mem:=by simp
 obj:=λi h st b hb=>by
  have e:b=it:=by simpa using hb
  subst e
  obtain⟨o,e,c,d⟩:=st
  exact⟨o,e,λv z=>by rw[d]at z; cases z⟩
 keep:=λi h h' st k=>st.at λo e=>k it (by simp) o e
 item:=by
  intro X hP hw hK hc i pins s σ H E I hf st hg
  subst hP hw hK
  obtain⟨xs,x,hq,hx⟩:=hg
  obtain⟨its,rv,p,hz⟩:=I.list hq
  obtain⟨u,hu,ru⟩:=rv.get hx
  obtain⟨f0,f1,f2,f3,f4,f5⟩:=hf it (by simp)
  refine wpAny_pyNext_list_item st p.isList (x:=u) (by simpa using hu) λh' st' sb=>?_
  have I1:ad X pins σ H { s with heap:=h' }:=I.turned (t':=s.toks) (λb o hb e=>(sb.2 b hb).trans e) f0 f1 f3 f4 f5
  obtain⟨o,e,c,d⟩:=id st'
  exact⟨u,rfl,fZ (s:={ s with heap:=h' }) e c d (by decide) ⟨x,H,I1,ru,⟨rfl,λys hy=>by rw[I.list_inj hy hq]; exact hx⟩,st',λb hb=>(hf b hb).1⟩⟩
 done:=by
  intro X hP hw hK hc i pins s σ H E I hf st hg
  subst hP hw hK
  obtain⟨xs,hq,hx⟩:=hg
  obtain⟨its,rv,p,hz⟩:=I.list hq
  obtain⟨f0,f1,f2,f3,f4,f5⟩:=hf it (by simp)
  have hl:=rv.length
  exact wpAny_pyNext_list_end (I.ok.hd hc) st p.isList (by simp; omega) λh' eb=>⟨rfl,I.turned (t':=s.toks) (λb o hb e=>eb b o hb e) f0 f1 f3 f4 f5⟩
 self:=λ_ _ _ _ _ st h=>wpAny_pyIter_listiter st h
theorem xY{P:Program}{w:World}{K:W.Frag}{tg:Expr}(it:Addr)(lo:Int)(n:Nat):dg P w K tg (jy lo n) [it] it (λi h=>IsRangeIter h it (lo+(i:Nat)*1) ((n:Int) - (i:Nat)) 1) where
 mem:=by simp
 obj:=λi h st b hb=>by
  have e:b=it:=by simpa using hb
  subst e
  exact⟨_,st,λv z=>by
   have z':Data.fields _=Data.cell v:=z
   cases z'⟩
 keep:=λi h h' st k=>k it (by simp) _ st
 item:=by
  intro X hP hw hK hc i pins s σ H E I hf st hg
  subst hP hw hK
  obtain⟨f0,f1,f2,f3,f4,f5⟩:=hf it (by simp)
  have W:=Walks.range (prog:=X.prog) (w:=X.w) (I.ok.hd hc) it lo 1 n
  refine W.item i s _ _ hg st λv h' tk hv st' kk=>?_
  obtain⟨t,rfl⟩:=hv
  have I1:ad X pins σ H { s with heap:=h',toks:=tk }:=I.turned (λb o hb e=>kk b o (by simpa using hb) e) f0 f1 f3 f4 f5
  refine⟨_,rfl,fZ (s:={ s with heap:=h',toks:=tk }) (n := "range_iterator") st' rfl rfl (by decide) ⟨.int (lo+i),H,I1,⟨t,?_⟩,⟨rfl,rfl⟩,st',λb hb=>(hf b hb).1⟩⟩
  rw[Int.mul_one]
 done:=by
  intro X hP hw hK hc i pins s σ H E I hf st hg
  subst hP hw hK
  obtain⟨f0,f1,f2,f3,f4,f5⟩:=hf it (by simp)
  exact wpAny_pyNext_range_end (I.ok.hd hc) st (by have:n<=i:=hg; omega) λh' eb=>⟨rfl,I.turned (t':=s.toks) (λb o hb e=>eb b o hb e) f0 f1 f3 f4 f5⟩
 self:=λ_ _ _ _ _ st h=>wpAny_pyIter_rangeiter st h
section
variable {X:Cx}{tg:Expr}
def oB(K:W.Frag)(tl:TE):TI:=λσ H R=>tl σ H λx H1=>∃ a,x=.ref a/\(∃ xs,ax K H1 a xs)/\R (iq K a) H1
theorem Bj{l:Expr}{tl:TE}(hl:PE X l tl):PI X tg l (oB X.K tl):=by
 intro pins s σ H R I h
 refine aj (hl pins s σ H _ I h) λv s1 ⟨x,H1,I1,r1,q1⟩=>?_
 obtain⟨a,e,⟨xs,hq⟩,q⟩:=q1
 subst e
 cases r1
 obtain⟨its,rv,p,hz⟩:=I1.list hq
 refine wpAny_pyIter_list p.isList ?_
 refine⟨s1.heap.objs.size,[s1.heap.objs.size],_,_,H1,rfl,I1.kept (t':=s1.toks) λb o e=>Heap.get?_push_of_some _ e,xZ a _,⟨_,Heap.get?_push_size _ rfl,rfl,rfl⟩,λb hb=>?_,q⟩
 have e:b=s1.heap.objs.size:=by simpa using hb
 subst e
 exact I1.fpOk (Nat.le_refl _) (I1.hok.fresh (Nat.le_refl _))
theorem zK{pins:List (Addr × Obj)}{σ:St}{H:Hp}{s:Shared}{R:It->Hp->Prop}{E:Value->Shared->Prop}{lo hi:Int}{t u v:Tok}{tk:Nat}(I:ad X pins σ H s)(h1 : -(2 ^ 62)<=lo)(h2:lo < 2 ^ 62)(h3 : -(2 ^ 62)<=hi)(h4:hi < 2 ^ 62)
 (q:R (jy lo (hi - lo).toNat) H):wpAny (model X.prog X.w) X.A (pyIter (.ref s.heap.objs.size)) (wV X pins σ tg R) E { s with heap:=s.heap.push { cls:=.type "range",data:=.fields #[.int lo t,.int hi u,.int 1 v] },toks:=tk }:=by
 refine wpAny_pyIter_range (IsRange.new ..) (small_one h1 h2 h3 h4) ?_
 have I1:ad X pins σ H { s with heap:=s.heap.push { cls:=.type "range",data:=.fields #[.int lo t,.int hi u,.int 1 v] },toks:=tk }:=I.kept λb o e=>Heap.get?_push_of_some _ e
 refine⟨(s.heap.push { cls:=.type "range",data:=.fields #[.int lo t,.int hi u,.int 1 v] }).objs.size,[(s.heap.push { cls:=.type "range",data:=.fields #[.int lo t,.int hi u,.int 1 v] }).objs.size],_,_,H,rfl,
  I1.kept (t':=tk) λb o e=>Heap.get?_push_of_some _ e,xY _ lo (hi - lo).toNat,?_,λb hb=>?_,q⟩
 ·have e1:lo+((0:Nat):Int)*1=lo:=by simp
  have e2:(((hi - lo).toNat:Nat):Int) - ((0:Nat):Int)=Builtin.Range.rangeSize lo hi 1:=by rw[rangeSize_one]; split <;> omega
  show IsRangeIter _ _ (lo+((0:Nat):Int)*1) ((((hi - lo).toNat:Nat):Int) - ((0:Nat):Int)) 1
  rw[e1,e2]
  exact Heap.get?_push_size _ rfl
 ·have e:b=(s.heap.push { cls:=.type "range",data:=.fields #[.int lo t,.int hi u,.int 1 v] }).objs.size:=by simpa using hb
  subst e
  exact I1.fpOk (Nat.le_refl _) (I1.hok.fresh (Nat.le_refl _))
def vm(ta:TA):TI:=λσ H R=>ta σ H λvs H1=>∃ j:Int,vs=[.int j]/\-(2 ^ 62)<=j/\j < 2 ^ 62/\R (jy 0 j.toNat) H1
theorem Bi {a:Expr} {ta:TA} {p pos:Pos} (hg:Gl X "range") (hm:X.mg "range" = none) (ha:PA X [a] ta) (hs:starEach [a] X.env=[(false,eval a X.env)]:=by rfl):PI X tg (.Call (.Name "range" p) [a] [] pos) (vm ta):=by
 intro pins s σ H R I h
 refine Call_ (fA I hg hm boot_range (PyProof.Rows.callWith_type1 (aj (ha pos pins s σ H _ I h) λus s1 ⟨vs,H1,I1,r1,q1⟩=>?_) hs rfl))
 obtain⟨j,e,q1,q2,q⟩:=q1
 subst e
 cases r1 with
 | cons r rr =>
  cases rr
  obtain⟨t,rfl⟩:=r
  exact call_range_1 (zK I1 (by omega) (by omega) q1 q2 (by simpa using q))
def si(wi:TI)(g:TG)(tb:TS):TS:=λD σ H=>wi σ H λJ H1=>∃ W:Nat->Nat->St->Hp->Prop,(∃ m,W 0 m σ H1)/\∀ i m σ H,W i m σ H ->
 (J.stop i H/\D.nx σ H)\/(J.go i H/\∃ N:St->Hp->Prop,(∀ σ' H',N σ' H'->∃ m',m' < m/\W (i+1) m' σ' H')/\∀ x H',J.yld i H x H'->g x σ H' λσ2 H2=>tb { D with nx:=N,ct:=N,bk:=D.nx } σ2 H2)
def jS(fp:List Addr)(h:Heap):List (Addr × Obj):=fp.filterMap λb=>(h.get? b).map λo=>(b,o)
theorem lJ{fp:List Addr}{h:Heap}{b:Addr}{o:Obj}(hb:b∈fp)(e:h.get? b=some o):(b,o)∈jS fp h:=List.mem_filterMap.mpr ⟨b,hb,by rw[e]; rfl⟩
theorem B9{fp:List Addr}{h:Heap}{p:Addr × Obj}(hp:p∈jS fp h):p.1∈fp/\h.get? p.1=some p.2:=by
 obtain⟨b,hb,e⟩:=List.mem_filterMap.mp hp
 cases q:h.get? b with
 | none=>rw[q]at e; cases e
 | some o =>
  rw[q]at e
  have e':(b,o)=p:=Option.some.inj e
  subst e'
  exact⟨hb,q⟩
theorem ad.pinned{pins:List (Addr × Obj)}{σ:St}{H:Hp}{s:Shared}{fp:List Addr}(I:ad X pins σ H s)(hf : ∀ b∈fp,dL X pins H b)(ho : ∀ b∈fp,∃ o,s.heap.get? b=some o/\∀ v,o.data ≠ .cell v):ad X (pins++jS fp s.heap) σ H s :=
 I.pins_of λp hp=>(List.mem_append.mp hp).elim (λz=>I.pin p (List.mem_append_right _ z)) λz=>by
  obtain⟨hb,e⟩:=B9 z
  obtain⟨f0,f1,f2,_⟩:=hf p.1 hb
  obtain⟨o,e',d⟩:=ho p.1 hb
  rw[e]at e'; cases e'
  exact⟨e,f0,f1,f2,d⟩
theorem ad.unpinned{pins pl:List (Addr × Obj)}{σ:St}{H:Hp}{s:Shared}(I:ad X (pins++pl) σ H s):ad X pins σ H s:=I.pins_of λp hp=>I.pin p (List.mem_append_right _ (List.mem_append_left _ hp))
theorem A3{iter:Expr}{body:List Stmt}{wi:TI}{g:TG}{tb:TS}{pos:Pos}(hp:PassesOwn (model X.prog X.w) X.A X.env X.xe)(hc:X.calm=true)(hi:PI X tg iter wi)(hg:PG X tg g)(hb:dk X body tb)
 (hs : ∀ x,foldedSetIterable iter X.env x=pure x:=by intro _; rfl):PS X (.For tg iter body [] pos) (si wi g tb):=by
 intro pins s σ H D I h
 refine wpAny_For (aj (hi pins s σ H _ I h) λv s1 h1=>aj h1 λitv s2 h2=>?_) hs
 obtain⟨it,fp,tn,J,H2,e,I2,T,st2,f2,W,⟨m0,w0⟩,turn⟩:=h2
 subst e
 have stat : ∀ {H':Hp},(∀ b∈fp,H' b=none)->∀ b∈fp,dL X pins H' b:=λhn b hb=>⟨hn b hb,(f2 b hb).2⟩
 refine codeAny_forLoop_any (λn s'=>∃ i σ' H',ad X pins σ' H' s'/\tn i s'.heap/\(∀ b∈fp,H' b=none)/\W i n σ' H') ?_ m0 ⟨0,σ,H2,I2,st2,λb hb=>(f2 b hb).1,w0⟩
 rintro n s3 ⟨i,σ3,H3,I3,st3,fr3,w3⟩
 rcases turn i n σ3 H3 w3 with ⟨stop,qn⟩ | ⟨go,N,hN,step⟩
 ·refine wpAny_passesOwn hp (aj (T.done X rfl rfl rfl hc i pins s3 σ3 H3 X.xe I3 (stat fr3) st3 stop) λr s4 ⟨hr,I4⟩=>?_)
  subst hr
  exact wpAny_execs_nil ⟨σ3,H3,I4,qn⟩
 ·refine wpAny_passesOwn hp (aj (T.item X rfl rfl rfl hc i pins s3 σ3 H3 X.xe I3 (stat fr3) st3 go) λr s4 ⟨u,hr,h4⟩=>?_)
  subst hr
  refine wpAny_passesOwn hp (aj h4 λ_ s5 ⟨x,H5,I5,r5,y5,st5,fr5⟩=>?_)
  have I5':=I5.pinned (stat fr5) (T.obj _ _ st5)
  refine wpAny_passesOwn hp (aj (hg _ s5 σ3 H5 x u _ I5' r5 (step x H5 y5)) λ_ s6 ⟨σ6,H6,I6,q6⟩=>?_)
  refine wpAny_passesOwn hp (aj (hb _ s6 σ6 H6 _ I6 q6) λf s7 q7=>?_)
  have again : ∀ {σ7:St} {H7:Hp},ad X (pins++jS fp s5.heap) σ7 H7 s7->N σ7 H7->∃ m,m < n/\∃ i σ' H',ad X pins σ' H' s7/\tn i s7.heap/\(∀ b∈fp,H' b=none)/\W i m σ' H':=λ{σ7 H7} I7 n7=>by
   obtain⟨m',hm,w7⟩:=hN σ7 H7 n7
   refine⟨m',hm,i+1,σ7,H7,I7.unpinned,T.keep _ _ _ st5 λb hb o e=>(I7.pin (b,o) (List.mem_append_right _ (List.mem_append_right _ (lJ hb e)))).1,λb hb=>?_,w7⟩
   obtain⟨o,e,d⟩:=T.obj _ _ st5 b hb
   exact (I7.pin (b,o) (List.mem_append_right _ (List.mem_append_right _ (lJ hb e)))).2.1
  cases f with
  | next=>obtain⟨σ7,H7,I7,n7⟩:=q7; exact again I7 n7
  | cont=>obtain⟨σ7,H7,I7,n7⟩:=q7; exact again I7 n7
  | brk=>obtain⟨σ7,H7,I7,q7⟩:=q7; exact⟨σ7,H7,I7.unpinned,q7⟩
  | ret v=>obtain⟨x7,σ7,H7,I7,r7,q7⟩:=q7; exact⟨x7,σ7,H7,I7.unpinned,r7,q7⟩
end
theorem gb{K:W.Frag}{a:Addr}{xs:List V}{g:TG}{tb:TS}{D:cP}{σ:St}{H:Hp}(Pv:Nat->St->Hp->Prop)(h0:Pv 0 σ H)(hl : ∀ i σ H,i<=xs.length->Pv i σ H->ax K H a xs)
 (hs : ∀ i x σ H,xs[i]? = some x->Pv i σ H->g x σ H λσ2 H2=>tb { D with nx:=Pv (i+1),ct:=Pv (i+1),bk:=D.nx } σ2 H2) (hd : ∀ σ H,Pv xs.length σ H->D.nx σ H) :
 ∃ W:Nat->Nat->St->Hp->Prop,(∃ m,W 0 m σ H)/\∀ i m σ H,W i m σ H ->
  ((iq K a).stop i H/\D.nx σ H)\/((iq K a).go i H/\∃ N:St->Hp->Prop,(∀ σ' H',N σ' H'->∃ m',m' < m/\W (i+1) m' σ' H')/\∀ x H',(iq K a).yld i H x H'->g x σ H' λσ2 H2=>tb { D with nx:=N,ct:=N,bk:=D.nx } σ2 H2):=by
 refine⟨λi m σ H=>m=xs.length - i/\i<=xs.length/\Pv i σ H,⟨xs.length,by simp,Nat.zero_le _,h0⟩,?_⟩
 rintro i m σ H ⟨rfl,hi,p⟩
 have q:=hl i σ H hi p
 by_cases hlt:i < xs.length
 ·refine .inr ⟨⟨xs,xs[i],q,by simp[hlt]⟩,Pv (i+1),λσ' H' p'=>⟨xs.length - (i+1),by omega,rfl,hlt,p'⟩,λx H' y=>?_⟩
  obtain⟨e,y⟩:=y
  subst e
  exact hs i x σ _ (y xs q) p
 ·have e:i=xs.length:=by omega
  subst e
  exact .inl ⟨⟨xs,q,Nat.le_refl _⟩,hd σ H p⟩
theorem oV{lo:Int}{n:Nat}{g:TG}{tb:TS}{D:cP}{σ:St}{H:Hp}(Pv:Nat->St->Hp->Prop)(h0:Pv 0 σ H)
 (hs : ∀ i σ H,i < n->Pv i σ H->g (.int (lo+i)) σ H λσ2 H2=>tb { D with nx:=Pv (i+1),ct:=Pv (i+1),bk:=D.nx } σ2 H2) (hd : ∀ σ H,Pv n σ H->D.nx σ H) :
 ∃ W:Nat->Nat->St->Hp->Prop,(∃ m,W 0 m σ H)/\∀ i m σ H,W i m σ H ->
  ((jy lo n).stop i H/\D.nx σ H)\/((jy lo n).go i H/\∃ N:St->Hp->Prop,(∀ σ' H',N σ' H'->∃ m',m' < m/\W (i+1) m' σ' H')/\∀ x H',(jy lo n).yld i H x H'->g x σ H' λσ2 H2=>tb { D with nx:=N,ct:=N,bk:=D.nx } σ2 H2):=by
 refine⟨λi m σ H=>m=n - i/\i<=n/\Pv i σ H,⟨n,by simp,Nat.zero_le _,h0⟩,?_⟩
 rintro i m σ H ⟨rfl,hi,p⟩
 by_cases hlt:i < n
 ·refine .inr ⟨hlt,Pv (i+1),λσ' H' p'=>⟨n - (i+1),by omega,rfl,hlt,p'⟩,λx H' y=>?_⟩
  obtain⟨e,y⟩:=y
  subst e y
  exact hs i σ _ hlt p
 ·have e:i=n:=by omega
  subst e
  exact .inl ⟨Nat.le_refl _,hd σ H p⟩
abbrev R2:=V->V->Hp->VK->Prop
def aA(X:Cx)(f:Value->Value->Sem Value)(r:R2):Prop :=
 ∀ (pins:List (Addr × Obj)) (s:Shared) (σ:St) (H:Hp) (x y:V) (v u:Value) (Q:VK),ad X pins σ H s->aq x v->aq y u->r x y H Q ->
  wpAny (model X.prog X.w) X.A (f v u) (EP X pins σ Q) X.xe s
def kh(X:Cx)(f:Value->Sem Value)(r:V->Hp->VK->Prop):Prop :=
 ∀ (pins:List (Addr × Obj)) (s:Shared) (σ:St) (H:Hp) (x:V) (v:Value) (Q:VK),ad X pins σ H s->aq x v->r x H Q ->
  wpAny (model X.prog X.w) X.A (f v) (EP X pins σ Q) X.xe s
def bA(X:Cx)(f:Value)(r:List V->Hp->VK->Prop):Prop :=
 ∀ (pins:List (Addr × Obj)) (s:Shared) (σ:St) (H:Hp) (xs:List V) (us:List Value) (Q:VK),ad X pins σ H s->ar xs us->r xs H Q ->
  wpAny (model X.prog X.w) X.A (call f us) (EP X pins σ Q) X.xe s
def Hk(X:Cx)(r:V->Hp->(Bool->Hp->Prop)->Prop):Prop :=
 ∀ (pins:List (Addr × Obj)) (s:Shared) (σ:St) (H:Hp) (x:V) (v:Value) (Q:Bool->Hp->Prop),ad X pins σ H s->aq x v->r x H Q ->
  wpAny (model X.prog X.w) X.A (truthy v) (TP X pins σ Q) X.xe s
def fj(r:R2)(ta tb:TE):TE:=λσ H Q=>ta σ H λx H1=>tb σ H1 λy H2=>r x y H2 Q
def rT(r:V->Hp->VK->Prop)(ta:TE):TE:=λσ H Q=>ta σ H λx H1=>r x H1 Q
def rI(C:Int->Int->Prop)(g:Int->Int->V):R2:=λx y H Q=>∃ i j,x=.int i/\y=.int j/\C i j/\Q (g i j) H
def eG(g:Int->Int->V):R2:=λx y H Q=>∃ i j,x=.int i/\y=.int j/\Q (g i j) H
def rU(g:Int->V):V->Hp->VK->Prop:=λx H Q=>∃ i,x=.int i/\Q (g i) H
section
variable {X:Cx}{a b c:Expr}{ta tb tc:TE}{pos:Pos}
theorem qw(ha:PE X a ta)(hb:PE X b tb){pins:List (Addr × Obj)}{s:Shared}{σ:St}{H:Hp}{R:V->V->Hp->Prop}(I:ad X pins σ H s)
 (h:ta σ H λx H1=>tb σ H1 λy H2=>R x y H2) {Q:Value->Shared->Prop} {f:Value->Value->Sem Value}
 (hf : ∀ v u s2 x y H2,ad X pins σ H2 s2->aq x v->aq y u->R x y H2->wpAny (model X.prog X.w) X.A (f v u) Q X.xe s2) :
 wpAny (model X.prog X.w) X.A (eval a X.env) (λv s₁=>wpAny (model X.prog X.w) X.A (eval b X.env) (λu s₂=>wpAny (model X.prog X.w) X.A (f v u) Q X.xe s₂) X.xe s₁) X.xe s:=by
 refine aj (ha pins s σ H _ I h) λv s1 ⟨x,H1,I1,r1,q1⟩=>?_
 refine aj (hb pins s1 σ H1 _ I1 q1) λu s2 ⟨y,H2,I2,r2,q2⟩=>?_
 exact hf v u s2 x y H2 I2 r1 r2 q2
theorem Bv{op:Operator}{r:R2}(ho:aA X (binaryOp op) r)(ha:PE X a ta)(hb:PE X b tb):PE X (.BinOp a op b pos) (fj r ta tb):=by
 intro pins s σ H Q I h
 exact wpAny_BinOp (qw ha hb I h λv u s2 x y H2 I2 rx ry q=>ho pins s2 σ H2 x y v u Q I2 rx ry q)
theorem Bs{op:UnaryOp}{r:V->Hp->VK->Prop}(ho:kh X (unaryOp op) r)(ha:PE X a ta):PE X (.UnaryOp op a pos) (rT r ta):=by
 intro pins s σ H Q I h
 exact UnaryOp_ (aj (ha pins s σ H _ I h) λv s1 ⟨x,H1,I1,r1,q1⟩=>ho pins s1 σ H1 x v Q I1 r1 q1)
theorem nX{f:Value->Value->Sem Value}{C:Int->Int->Prop}{g:Int->Int->Int}
 (rule : ∀ (i j:Int) (t u:Tok) (s:Shared) (Q:Value->Shared->Prop) (E:Value->Shared->Prop),C i j->Q (.int (g i j) s.toks) { s with toks:=s.toks+1 }->wpAny (model X.prog X.w) X.A (f (.int i t) (.int j u)) Q E s) :
 aA X f (rI C λi j=>.int (g i j)):=by
 intro pins s σ H x y v u Q I rx ry h
 obtain⟨i,j,rfl,rfl,hc,q⟩:=h
 obtain⟨t,rfl⟩:=rx
 obtain⟨t',rfl⟩:=ry
 exact rule i j t t' s _ _ hc ⟨.int (g i j),H,I.tok _,⟨_,rfl⟩,q⟩
theorem nW{f:Value->Value->Sem Value}{g:Int->Int->Int}
 (rule : ∀ (i j:Int) (t u:Tok) (s:Shared) (Q:Value->Shared->Prop) (E:Value->Shared->Prop),Q (.int (g i j) s.toks) { s with toks:=s.toks+1 }->wpAny (model X.prog X.w) X.A (f (.int i t) (.int j u)) Q E s) :
 aA X f (eG λi j=>.int (g i j)):=by
 intro pins s σ H x y v u Q I rx ry h
 obtain⟨i,j,rfl,rfl,q⟩:=h
 obtain⟨t,rfl⟩:=rx
 obtain⟨t',rfl⟩:=ry
 exact rule i j t t' s _ _ ⟨.int (g i j),H,I.tok _,⟨_,rfl⟩,q⟩
theorem nY{f:Value->Value->Sem Value}{g:Int->Int->Bool}
 (rule : ∀ (i j:Int) (t u:Tok) (s:Shared) (Q:Value->Shared->Prop) (E:Value->Shared->Prop),Q (.bool (g i j)) s->wpAny (model X.prog X.w) X.A (f (.int i t) (.int j u)) Q E s) :
 aA X f (eG λi j=>.bl (g i j)):=by
 intro pins s σ H x y v u Q I rx ry h
 obtain⟨i,j,rfl,rfl,q⟩:=h
 obtain⟨t,rfl⟩:=rx
 obtain⟨t',rfl⟩:=ry
 exact rule i j t t' s _ _ ⟨.bl (g i j),H,I,rfl,q⟩
def HS(i j:Int):Prop:=0 < j/\j < 1073741824
def mN(i j:Int):Prop:=(-(2 ^ 64) < i/\i < 2 ^ 64)\/(-(2 ^ 64) < j/\j < 2 ^ 64)
theorem mN.ok{i j:Int}(h:mN i j):IntMulOk i j:=by
 rcases h with ⟨h1,h2⟩ | ⟨h1,h2⟩
 ·exact .of_left (intBits_le_64 h1 h2)
 ·exact .of_right (intBits_le_64 h1 h2)
theorem B4:aA X (binaryOp .Add) (eG λi j=>.int (i+j)):=nW λ_ _ _ _ _ _ _ q=>add_int q
theorem BT:aA X (binaryOp .Sub) (eG λi j=>.int (i - j)):=nW λ_ _ _ _ _ _ _ q=>sub_int q
theorem BW:aA X (binaryOp .Mult) (rI mN λi j=>.int (i*j)):=nX λ_ _ _ _ _ _ _ hc q=>mul_int q hc.ok
theorem B2:aA X (binaryOp .FloorDiv) (rI HS λi j=>.int (i / j)):=nX λi j _ _ _ _ _ hc q=>by
 have h1:(0:Int) < j:=hc.1
 have h2:j < 1073741824:=hc.2
 exact floordiv_int (by omega) (by rw[Int.fdiv_eq_ediv_of_nonneg i (by omega)]; exact q) (.inl (PyProof.noPylong_small (by omega)))
theorem ux:aA X (binaryOp .Mod) (rI (λ_ j=>0 < j) λi j=>.int (i%j)):=nX λi j _ _ _ _ _ hc q=>by
 have h1:(0:Int) < j:=hc
 exact mod_int' (by omega) (by rw[Int.fmod_eq_emod_of_nonneg i (by omega)]; exact q)
theorem vi:aA X (inplaceOp .Sub) (eG λi j=>.int (i - j)):=nW λ_ _ _ _ _ _ _ q=>isub_int q
theorem xL{f:Value->Sem Value}{g:Int->Int}
 (rule : ∀ (i:Int) (t:Tok) (s:Shared) (Q:Value->Shared->Prop) (E:Value->Shared->Prop),Q (.int (g i) s.toks) { s with toks:=s.toks+1 }->wpAny (model X.prog X.w) X.A (f (.int i t)) Q E s) :
 kh X f (rU λi=>.int (g i)):=by
 intro pins s σ H x v Q I rx h
 obtain⟨i,rfl,q⟩:=h
 obtain⟨t,rfl⟩:=rx
 exact rule i t s _ _ ⟨.int (g i),H,I.tok _,⟨_,rfl⟩,q⟩
theorem xK:kh X (unaryOp .USub) (rU λi=>.int (-i)):=xL λ_ _ _ _ _ q=>neg_int q
end
def sX:V->V->Bool
 | .non,.non=>true | .non,.int _=>true | .int _,.non=>true | .non,.bl _=>true | .bl _,.non=>true | .non,.str _=>true | .str _,.non=>true
 | .int _,.int _=>true | .bl _,.bl _=>true | .str _,.str _=>true | .byt _,.byt _=>true
 | .int _,.str _=>true | .str _,.int _=>true | .bl _,.str _=>true | .str _,.bl _=>true
 | _,_=>false
def zW:R2:=λx y H Q=>sX x y=true/\Q (.bl (decide (x=y))) H
def zR:R2:=λx y H Q=>sX x y=true/\Q (.bl (!decide (x=y))) H
theorem wo{i j:Int}:decide (V.int i=V.int j)=(i == j):=by
 rw[Bool.eq_iff_iff]
 simp
theorem mh{i j:Bool}:decide (V.bl i=V.bl j)=(i == j):=by
 rw[Bool.eq_iff_iff]
 simp
theorem wm{i j:Str}:decide (V.str i=V.str j)=(i == j):=by
 rw[Bool.eq_iff_iff]
 simp
theorem wp{i j:Array UInt8}:decide (V.byt i=V.byt j)=(i.toList == j.toList):=by
 rw[Bool.eq_iff_iff]
 cases i
 cases j
 simp
section
variable {X:Cx}{a b c:Expr}{ta tb tc:TE}{pos:Pos}
theorem bi{pins:List (Addr × Obj)}{σ:St}{H:Hp}{s:Shared}{Q:VK}{k k':Bool}(I:ad X pins σ H s)(q:Q (.bl k) H)(e:k=k'):EP X pins σ Q (.bool k') s:=by
 subst e
 exact⟨.bl k,H,I,rfl,q⟩
theorem uz:aA X (compareOp .Eq) zW:=by
 intro pins s σ H x y v u Q I rx ry h
 obtain⟨hs,q⟩:=h
 cases x with
 | non =>
  cases rx
  cases y with
  | non=>cases ry; exact PySem.EqNone.eq_none_none (bi I q (by simp))
  | bl j=>cases ry; exact PySem.EqNone.eq_none_bool (bi I q (by simp))
  | int j=>obtain⟨t',rfl⟩:=ry; exact PySem.EqNone.eq_none_int (bi I q (by simp))
  | str j=>obtain⟨t',rfl⟩:=ry; exact PySem.EqNone.eq_none_str (bi I q (by simp))
  | _=>exact absurd (show false=true from hs) Bool.false_ne_true
 | bl i =>
  cases rx
  cases y with
  | non=>cases ry; exact PySem.EqNone.eq_bool_none (bi I q (by simp))
  | bl j=>cases ry; exact eq_bool (bi I q mh)
  | str j=>obtain⟨t',rfl⟩:=ry; exact PySem.EqMixed.eq_bool_str (bi I q (by simp))
  | _=>exact absurd (show false=true from hs) Bool.false_ne_true
 | int i =>
  obtain⟨t,rfl⟩:=rx
  cases y with
  | non=>cases ry; exact PySem.EqNone.eq_int_none (bi I q (by simp))
  | int j=>obtain⟨t',rfl⟩:=ry; exact eq_int (bi I q wo)
  | str j=>obtain⟨t',rfl⟩:=ry; exact PySem.EqMixed.eq_int_str (bi I q (by simp))
  | _=>exact absurd (show false=true from hs) Bool.false_ne_true
 | str i =>
  obtain⟨t,rfl⟩:=rx
  cases y with
  | non=>cases ry; exact PySem.EqNone.eq_str_none (bi I q (by simp))
  | bl j=>cases ry; exact PySem.EqMixed.eq_str_bool (bi I q (by simp))
  | int j=>obtain⟨t',rfl⟩:=ry; exact PySem.EqMixed.eq_str_int (bi I q (by simp))
  | str j=>obtain⟨t',rfl⟩:=ry; exact eq_str (bi I q wm)
  | _=>exact absurd (show false=true from hs) Bool.false_ne_true
 | byt i =>
  obtain⟨t,rfl⟩:=rx
  cases y with
  | byt j=>obtain⟨t',rfl⟩:=ry; exact W.eq_bytes (bi I q wp)
  | _=>exact absurd (show false=true from hs) Bool.false_ne_true
 | _=>cases y <;> exact absurd (show false=true from hs) Bool.false_ne_true
theorem uw:aA X (compareOp .NotEq) zR:=by
 intro pins s σ H x y v u Q I rx ry h
 obtain⟨hs,q⟩:=h
 cases x with
 | non =>
  cases rx
  cases y with
  | non=>cases ry; exact PySem.EqNone.ne_none_none (bi I q (by simp))
  | bl j=>cases ry; exact PySem.EqNone.ne_none_bool (bi I q (by simp))
  | int j=>obtain⟨t',rfl⟩:=ry; exact PySem.EqNone.ne_none_int (bi I q (by simp))
  | str j=>obtain⟨t',rfl⟩:=ry; exact PySem.EqNone.ne_none_str (bi I q (by simp))
  | _=>exact absurd (show false=true from hs) Bool.false_ne_true
 | bl i =>
  cases rx
  cases y with
  | non=>cases ry; exact PySem.EqNone.ne_bool_none (bi I q (by simp))
  | bl j=>cases ry; exact ne_bool (bi I q (congrArg not mh))
  | str j=>obtain⟨t',rfl⟩:=ry; exact PySem.EqMixed.ne_bool_str (bi I q (by simp))
  | _=>exact absurd (show false=true from hs) Bool.false_ne_true
 | int i =>
  obtain⟨t,rfl⟩:=rx
  cases y with
  | non=>cases ry; exact PySem.EqNone.ne_int_none (bi I q (by simp))
  | int j=>obtain⟨t',rfl⟩:=ry; exact ne_int (bi I q (congrArg not wo))
  | str j=>obtain⟨t',rfl⟩:=ry; exact PySem.EqMixed.ne_int_str (bi I q (by simp))
  | _=>exact absurd (show false=true from hs) Bool.false_ne_true
 | str i =>
  obtain⟨t,rfl⟩:=rx
  cases y with
  | non=>cases ry; exact PySem.EqNone.ne_str_none (bi I q (by simp))
  | bl j=>cases ry; exact PySem.EqMixed.ne_str_bool (bi I q (by simp))
  | int j=>obtain⟨t',rfl⟩:=ry; exact PySem.EqMixed.ne_str_int (bi I q (by simp))
  | str j=>obtain⟨t',rfl⟩:=ry; exact ne_str (bi I q (congrArg not wm))
  | _=>exact absurd (show false=true from hs) Bool.false_ne_true
 | byt i =>
  obtain⟨t,rfl⟩:=rx
  cases y with
  | byt j=>obtain⟨t',rfl⟩:=ry; exact W.ne_bytes (bi I q (congrArg not wp))
  | _=>exact absurd (show false=true from hs) Bool.false_ne_true
 | _=>cases y <;> exact absurd (show false=true from hs) Bool.false_ne_true
theorem BX:aA X (compareOp .Lt) (eG λi j=>.bl (decide (i < j))):=nY λ_ _ _ _ _ _ _ q=>lt_int q
theorem BY:aA X (compareOp .LtE) (eG λi j=>.bl (decide (i<=j))):=nY λ_ _ _ _ _ _ _ q=>le_int q
theorem B1:aA X (compareOp .Gt) (eG λi j=>.bl (decide (j < i))):=nY λ_ _ _ _ _ _ _ q=>gt_int q
theorem BZ:aA X (compareOp .Is) (λx y H Q=>y=.non/\Q (.bl (decide (x=.non))) H):=by
 intro pins s σ H x y v u Q I rx ry h
 obtain⟨rfl,q⟩:=h
 cases ry
 refine is_none_gen (bi I q ?_)
 cases x <;> first
  | (cases rx; rfl)
  | (obtain⟨t,rfl⟩:=rx; rfl)
theorem BV:aA X (compareOp .IsNot) (λx y H Q=>y=.non/\Q (.bl (!decide (x=.non))) H):=by
 intro pins s σ H x y v u Q I rx ry h
 obtain⟨rfl,q⟩:=h
 cases ry
 refine isnot_none_gen (bi I q ?_)
 cases x <;> first
  | (cases rx; rfl)
  | (obtain⟨t,rfl⟩:=rx; rfl)
theorem bc(b:Expr){op:CmpOp}(h:op ≠ .In:=by decide)(h2:op ≠ .NotIn:=by decide):behindInMarks op b=false:=by
 have e1:(op == CmpOp.In)=false:=by cases op <;> first | rfl | exact absurd rfl h
 have e2:(op == CmpOp.NotIn)=false:=by cases op <;> first | rfl | exact absurd rfl h2
 cases b <;> simp[behindInMarks,e1,e2]
theorem BJ{op:CmpOp}{r:R2}(ho:aA X (compareOp op) r)(ha:PE X a ta)(hb:PE X b tb)(hm:behindInMarks op b=false):PE X (.Compare a [op] [b] pos) (fj r ta tb):=by
 intro pins s σ H Q I h
 exact wpAny_Compare1 (qw ha hb I h λv u s2 x y H2 I2 rx ry q=>ho pins s2 σ H2 x y v u Q I2 rx ry q) hm
def Hj(K:W.Frag)(x:V)(H:Hp)(k:Bool):Prop :=
 match x with
 | .non=>k=false
 | .bl b=>k=b
 | .int i=>k=(i != 0)
 | .str y=>y.length<=sizeLine/\k=((y.length:Int) != 0)
 | .byt y=>y.size<=sizeLine/\k=((y.size:Int) != 0)
 | .ref p=>(∃ xs,ax K H p xs/\k = !xs.isEmpty)\/(∃ xs,bT K H p xs/\k = !xs.isEmpty)\/∃ kvs,H p=some (.dK kvs)/\k = !kvs.isEmpty
 | _=>False
theorem Di{κ:Type}{kvs:List (κ × V)}{vs:List (κ × Value)}(r:KV kvs vs):(!vs.isEmpty) = !kvs.isEmpty:=by
 cases r <;> rfl
theorem vg{xs:List V}{its:List Value}(r:ar xs its):(!its.toArray.isEmpty) = !xs.isEmpty:=by
 cases r <;> simp
theorem lO:(sizeLine:Nat) < 2 ^ 63:=by rw[sizeLine_eq]; decide
theorem jG:Hk X (λx H Q=>∃ k,Hj X.K x H k/\Q k H):=by
 intro pins s σ H x v Q I rx h
 obtain⟨k,e,q⟩:=h
 have hl:=lO
 have hs:sizeLine=16777216:=sizeLine_eq
 cases x with
 | non =>
  cases rx
  have e':k=false:=e
  subst e'
  exact truthy_none ⟨H,I,q⟩
 | bl b =>
  cases rx
  have e':k=b:=e
  subst e'
  exact wpAny_truthy_bool ⟨H,I,q⟩
 | int i =>
  obtain⟨t,rfl⟩:=rx
  have e':k=(i != 0):=e
  subst e'
  exact PySem.P.truthy_int ⟨H,I,q⟩
 | str y =>
  obtain⟨t,rfl⟩:=rx
  obtain⟨hy,e'⟩:y.length<=sizeLine/\k=((y.length:Int) != 0):=e
  subst e'
  exact PySem.P.truthy_str (by omega) ⟨H,I.tok _,q⟩
 | byt y =>
  obtain⟨t,rfl⟩:=rx
  obtain⟨hy,e'⟩:y.size<=sizeLine/\k=((y.size:Int) != 0):=e
  subst e'
  exact W.truthy_bytes (by omega) ⟨H,I.tok _,q⟩
 | ref p =>
  cases rx
  have e':(∃ xs,ax X.K H p xs/\k = !xs.isEmpty)\/(∃ xs,bT X.K H p xs/\k = !xs.isEmpty)\/∃ kvs,H p=some (.dK kvs)/\k = !kvs.isEmpty:=e
  rcases e' with ⟨xs,hx,e'⟩ | ⟨xs,hx,e'⟩ | ⟨kvs,hx,e'⟩
  ·subst e'
   obtain⟨its,r,pl,hz⟩:=I.list hx
   have hlen:=r.length
   exact wpAny_truthy_list pl.isList (by simp only [List.size_toArray]; omega) ⟨H,I.tok _,by rw[vg r]; exact q⟩
  ·subst e'
   obtain⟨its,r,pl,hz⟩:=I.tuple hx
   have hlen:=r.length
   exact truthy_tuple pl (by simp only [List.size_toArray]; omega) ⟨H,I.tok _,by rw[vg r]; exact q⟩
  ·subst e'
   obtain⟨hz,hS,vs,r,m⟩:kvs.length<=sizeLine/\(p == sysModules)=false/\∃ vs,KV kvs vs/\s.heap.DictOf (bB X.prog X.w) p vs:=I.hok p _ hx
   have hlen:kvs.length=vs.length:=Paired.length r
   exact wpAny_truthy_dict hS m (by omega) ⟨H,I.tok _,by rw[Di r]; exact q⟩
 | _=>exact (show False from e).elim
theorem gx{x:V}{us:List Value}(r:ar [x] us) : ∃ u,us=[u]/\aq x u:=by
 cases r with
 | cons r1 r2=>cases r2; exact⟨_,rfl,r1⟩
theorem rK{x y:V}{us:List Value}(r:ar [x,y] us) : ∃ u w',us=[u,w']/\aq x u/\aq y w':=by
 cases r with
 | cons r1 r2 =>
  cases r2 with
  | cons r3 r4=>cases r4; exact⟨_,_,rfl,r1,r3⟩
end
structure ik (h:Heap) (x dx C:Addr) (mA:Str->Option Value):Prop where
 obj:h.get? x=some (W.instObj C dx)
 ns:h.Ns1 dx mA
 ne:dx≠x
theorem CV{h:Heap}{dx:Addr}{mA:Str->Option Value}(n:h.Ns1 dx mA) : ∃ od,h.get? dx=some od/\∀ name,W.lookIn name od=some (mA name):=by
 obtain⟨o,es,ep,ho,hd,hk,_,hm⟩:=n
 refine⟨o,ho,λname=>?_⟩
 have e:=hm name
 unfold nsFind findBy at e
 rw[<- Array.find?_toList]at e
 unfold W.lookIn
 rw[hd]
 dsimp only
 split
 ·rename_i y q
  rw[q]at e
  exact congrArg some e
 ·rename_i q
  rw[q]at e
  have a:es.toList.any (·.refKey)=false:=by
   rw[List.any_eq_false]
   intro y hy
   obtain⟨z,t,hkey⟩:=hk y (Array.mem_toList_iff.mp hy)
   simp[DictEntry.refKey,hkey]
  have a' : ¬ es.toList.any (·.refKey)=true:=by rw[a]; exact Bool.false_ne_true
  rw[if_neg a']
  exact congrArg some e
theorem ik.look{h:Heap}{x dx C:Addr}{mA:Str->Option Value}(I:ik h x dx C mA) : ∃ od,W.InstAt h x (W.instObj C dx) C (some od)/\∀ name,W.lookIn name od=some (mA name) :=
 let ⟨od,ho,hl⟩:=CV I.ns
 ⟨od,⟨I.obj,rfl,rfl,ho⟩,hl⟩
section
variable {prog:Program}{w:World}{A:Around}{E:Value->Shared->Prop}{s:Shared}{K:W.Frag}{x dx C f:Addr}{mA:Str->Option Value}{name:Str}{v:Value}
theorem Ee{expr:Bool}{Q:Value->Shared->Prop}(X:K.In s.heap)(I:ik s.heap x dx C mA)(hg:W.plainGet K C name=true)(hh:W.hasDictIn K C=true)
 (ha:W.findIn K (.ref C) name=some none) (hv:mA name=some v) (hv':W.handedIn v=true) (h:Q v { s with toks:=s.toks+1 }) :
 wpAny (model prog w) A (getAttr (.ref x) name expr) Q E s:=by
 obtain⟨od,J,hl⟩:=I.look
 exact W.get_value X J (W.plainGet_of hg).1 (W.findObj_own hh ha rfl (by rw[hl,hv])) hv' h
theorem Ed{pl:Sem Bool}{Q:Value × List Value->Shared->Prop}(X:K.In s.heap)(I:ik s.heap x dx C mA)(hg:W.plainGet K C name=true)
 (hf:W.findIn K (.ref C) name=some (some (.ref f))) (ht:W.isFn K (.ref f)=true) (hv:mA name=none) (h:Q (.ref f,[.ref x]) s) :
 wpAny (model prog w) A (getMethod (.ref x) name pl) Q E s:=by
 obtain⟨od,J,hl⟩:=I.look
 exact W.method_fn X J (W.plainGet_of hg).1 (W.plainGet_of hg).2 hf (beq_iff_eq.mp ht) (by show (W.lookIn name od).map (·.isSome)=some false; rw[hl,hv]; rfl) h
theorem zf{ns:List Str}{Q:Unit->Shared->Prop}(X:K.In s.heap)(I:ik s.heap x dx C mA)
 (hs:W.findIn K (.ref C) "__setattr__" = some (some (.builtin "object.__setattr__"))) (hp:W.plainOver K C=true) (ht:W.takerIn K C name=some none) (hh:W.hasDictIn K C=true)
 (hw:PySem.Within mA ns) (hsz:ns.length<=sizeLine)
 (h : ∀ h',ik h' x dx C (λy=>if y=name then some v else mA y)->Heap.SameBut dx s.heap h'->Q () { s with heap:=h',toks:=s.toks+2 }) :
 wpAny (model prog w) A (setAttr (.ref x) name v) Q E s:=by
 obtain⟨od,J,hl⟩:=I.look
 refine W.set_plain X J hs (W.osa_open (s:={ s with toks:=s.toks+1 }) (r:=none) X J hp ht λb=>?_)
 obtain⟨cd,hc,hd'⟩:=W.any_some hh
 have hx:s.heap.get? x=some ⟨.ref C,some dx,.plain,#[]⟩:=I.obj
 refine wpAny_bind (wpAny_pure (wpAny_bind (wpAny_bind (wpAny_loadPart hx (wpAny_bind (W.Looks.here (s:={ s with toks:=s.toks+1 }) (W.looks_clsIn X hc) ?_))))))
 rw[hd']
 refine wpAny_pure (a:=some dx) (wpAny_bind (wpAny_pure (wpAny_bind ?_)))
 refine wpAny_nsSet1 (s:={ s with toks:=s.toks+1 }) I.ns λh' hn2 hs2=>?_
 obtain⟨oD,esD,epD,hoD,hdD,hcD⟩:=hn2.count (PySem.Within.cons name v hw)
 refine wpAny_bind (wpAny_lookBehind hoD (by rw[hdD]; exact pastItsLine_dict (Nat.le_trans hcD (by rw[List.length_cons]; omega))) ?_)
 exact wpAny_pure (h _ ⟨(hs2.2 _ (Ne.symm I.ne)).trans I.obj,hn2,I.ne⟩ hs2)
theorem CN{R:Result->Shared->Prop}{vs:List Value}{kw:List (Str × Value)}(X:K.In s.heap)(hm:W.makesIn K C=true)
 (hi:W.findIn K (.ref C) "__init__" = some (some (.ref f))) (hf:W.typeIn K (.ref f)=some (.type "function"))
 (h:codeAny (model prog w) (A.under (.builtin "type.__call__" ⟨.ref C :: vs,kw⟩)) (.call (.ref f) ⟨.ref (s.heap.objs.size+1) :: vs,kw⟩) (W.InitBack (s.heap.objs.size+1) R)
   { s with heap:=(s.heap.push W.emptyDict).push (W.instObj C s.heap.objs.size) }) :
 codeAny (model prog w) A (.call (.ref C) ⟨vs,kw⟩) R s:=by
 obtain⟨hh,g,d,t,os⟩:=s
 exact W.make_core (W.makes_of X hm) (W.looks_findIn X hi) (λself=>W.bind_fn X self hf) (.inl rfl) h
end
def ci(f:Str)(v:V):List (Str × V)->List (Str × V)
 | []=>[(f,v)]
 | (g,x) :: r=>if g=f then (g,v) :: r else (g,x) :: ci f v r
theorem uR(f g:Str)(v:V) : ∀ fs:List (Str × V),(ci f v fs).lookup g=if g=f then some v else fs.lookup g
 | []=>by
  show List.lookup g [(f,v)]=_
  by_cases h:g=f
  ·have hb:(g == f)=true:=beq_iff_eq.mpr h
   simp only [List.lookup,hb,if_pos h]
  ·have hb:(g == f)=false:=beq_eq_false_iff_ne.mpr h
   simp only [List.lookup,hb,if_neg h]
 | (k,x) :: r=>by
  have ih:=uR f g v r
  rw[show ci f v ((k,x) :: r)=(if k=f then (k,v) :: r else (k,x) :: ci f v r) from rfl]
  by_cases hk:k=f
  ·rw[if_pos hk]
   by_cases h:g=k
   ·have hb:(g == k)=true:=beq_iff_eq.mpr h
    simp only [List.lookup,hb,if_pos (h.trans hk)]
   ·have hb:(g == k)=false:=beq_eq_false_iff_ne.mpr h
    simp only [List.lookup,hb,if_neg (λe:g=f=>h (e.trans hk.symm))]
  ·rw[if_neg hk]
   by_cases h:g=k
   ·have hb:(g == k)=true:=beq_iff_eq.mpr h
    simp only [List.lookup,hb,if_neg (λe:g=f=>hk (h.symm.trans e))]
   ·have hb:(g == k)=false:=beq_eq_false_iff_ne.mpr h
    simp only [List.lookup,hb]
    exact ih
theorem ou(f:Str)(v:V) : ∀ fs:List (Str × V),f∈(ci f v fs).map (·.1)/\∀ g,g∈fs.map (·.1)->g∈(ci f v fs).map (·.1)
 | []=>⟨by simp[ci],λg h=>by simp at h⟩
 | (k,x) :: r=>by
  obtain⟨i1,i2⟩:=ou f v r
  rw[show ci f v ((k,x) :: r)=(if k=f then (k,v) :: r else (k,x) :: ci f v r) from rfl]
  by_cases hk:k=f
  ·rw[if_pos hk]
   subst hk
   exact⟨by simp,λg h=>by simpa using h⟩
  ·rw[if_neg hk]
   refine⟨?_,λg h=>?_⟩
   ·rw[List.map_cons]
    exact List.mem_cons_of_mem _ i1
   ·rw[List.map_cons]at h ⊢
    rcases List.mem_cons.mp h with e | e
    ·exact List.mem_cons.mpr (.inl e)
    ·exact List.mem_cons_of_mem _ (i2 g e)
theorem uU(f:Str)(v:V) : ∀ fs:List (Str × V),(ci f v fs).length<=fs.length+1
 | []=>by simp[ci]
 | (k,x) :: r=>by
  have ih:=uU f v r
  rw[show ci f v ((k,x) :: r)=(if k=f then (k,v) :: r else (k,x) :: ci f v r) from rfl]
  by_cases hk:k=f
  ·rw[if_pos hk,List.length_cons,List.length_cons]; omega
  ·rw[if_neg hk,List.length_cons,List.length_cons]; omega
theorem bG.some_of{v:V}{o:Option Value}(r:bG (some v) o) : ∃ u,o=some u/\aq v u:=by
 cases o with
 | none=>exact (show False from r).elim
 | some u=>exact⟨u,rfl,r⟩
theorem bG.none_of{o:Option Value}(r:bG none o):o=none:=by
 cases o with
 | none=>rfl
 | some u=>exact (show False from r).elim
theorem Dx{v:V}{u:Value}(r:aq v u):W.handedIn u=true:=by
 cases v with
 | non=>cases (show u=Value.none from r); rfl
 | bl b=>cases (show u=Value.bool b from r); rfl
 | int i=>obtain⟨t,e⟩:=(show ∃ t,u=Value.int i t from r); cases e; rfl
 | str x=>obtain⟨t,e⟩:=(show ∃ t,u=Value.str x t from r); cases e; rfl
 | byt b=>obtain⟨t,e⟩:=(show ∃ t,u=Value.bytes b t from r); cases e; rfl
 | flt b=>obtain⟨t,e⟩:=(show ∃ t,u=Value.float b t from r); cases e; rfl
 | ref a=>cases (show u=Value.ref a from r); rfl
 | ty n=>cases (show u=Value.type n from r); rfl
section
variable {P:Program}{w:World}{H H':Hp}{h h':Heap}{a C dx:Addr}{fs fs':List (Str × V)}
theorem lS(hok:aT P w H h)(e:H a=some (.ins C dx fs)) : ∃ mA,ik h a dx C mA/\(∀ f,bG (fs.lookup f) (mA f))/\PySem.Within mA (fs.map (·.1))/\fs.length<=1000/\H dx=some (.own a):=by
 obtain⟨d,z,ne,ob,mA,n,r,q⟩:=(show aO P w H h a (.ins C dx fs) from hok a _ e)
 exact⟨mA,⟨ob,n,ne⟩,r,q,z,d⟩
end
structure dt (K:W.Frag) (C:Addr):Prop where
 pg:W.plainGet K C Str.empty=true
 hd:W.hasDictIn K C=true
 po:W.plainOver K C=true
 sa:W.findIn K (.ref C) "__setattr__" = some (some (.builtin "object.__setattr__"))
theorem dt.get{K:W.Frag}{C:Addr}(c:dt K C)(f:Str):W.plainGet K C f=true:=c.pg
def fK(K:W.Frag)(C:Addr)(f:Str):Prop:=W.findIn K (.ref C) f=some none
theorem fK.taker{K:W.Frag}{C:Addr}{f:Str}(n:fK K C f):W.takerIn K C f=some none:=by
 unfold W.takerIn
 rw[show W.findIn K (.ref C) f=some none from n]
 rfl
structure Iq (K:W.Frag) (C:Addr) (f:Str) (v:V) (u:Value):Prop where
 at_:W.findIn K (.ref C) f=some (some u)
 rel:aq v u
 get:W.specialIn K u "__get__" = some none
 cp:W.copiedNames.contains f=false
structure dF (K:W.Frag) (C:Addr) (m:Str) (f:Addr):Prop where
 at_:W.findIn K (.ref C) m=some (some (.ref f))
 fn:W.isFn K (.ref f)=true
 kp:W.keepIn K (.ref f)=true
section
variable {X:Cx}{pins:List (Addr × Obj)}{σ:St}{H:Hp}{s:Shared}{a C dx:Addr}{fs:List (Str × V)}{f:Str}{v:V}{A:Around}{E:Value->Shared->Prop}
theorem Eb{b:Bool}{Q:Value->Shared->Prop}(I:ad X pins σ H s)(e:H a=some (.ins C dx fs))(c:dt X.K C)(n:fK X.K C f)(l:fs.lookup f=some v)
 (h : ∀ u s',ad X pins σ H s'->aq v u->Q u s'):wpAny (model X.prog X.w) A (getAttr (.ref a) f b) Q E s:=by
 obtain⟨mA,O,r,_,_,_⟩:=lS I.hok e
 obtain⟨u,hu,ru⟩:=bG.some_of (v:=v) (o:=mA f) (by rw[<- l]; exact r f)
 exact Ee I.kIn O (c.get f) c.hd n hu (Dx ru) (h u _ (I.tok _) ru)
theorem vE{m:Str}{g:Addr}{pl:Sem Bool}{Q:Value × List Value->Shared->Prop}(I:ad X pins σ H s)(e:H a=some (.ins C dx fs))(c:dt X.K C)(k:dF X.K C m g)(l:fs.lookup m=none)
 (h:Q (.ref g,[.ref a]) s):wpAny (model X.prog X.w) A (getMethod (.ref a) m pl) Q E s:=by
 obtain⟨mA,O,r,_,_,_⟩:=lS I.hok e
 have hn:mA m=none:=bG.none_of (by rw[<- l]; exact r m)
 exact Ed I.kIn O (c.get m) k.at_ k.fn hn h
theorem ze{y:V}{u:Value}{Q:Unit->Shared->Prop}(I:ad X pins σ H s)(e:H a=some (.ins C dx fs))(c:dt X.K C)(n:fK X.K C f)(hl:fs.length < 1000)(ry:aq y u)
 (h : ∀ s',ad X pins σ (upd H a (.ins C dx (ci f y fs))) s'->Q () s'):wpAny (model X.prog X.w) A (setAttr (.ref a) f u) Q E s:=by
 obtain⟨mA,O,r,wi,_,ho⟩:=lS I.hok e
 have hz:(fs.map (·.1)).length<=sizeLine:=by rw[List.length_map,sizeLine_eq]; omega
 refine zf I.kIn O c.sa c.po n.taker c.hd wi hz λh' O' sb=>h _ ?_
 have hd : ∃ o,h'.get? dx=some o:=let ⟨o,_,_,e',_⟩:=O'.ns; ⟨o,e'⟩
 refine I.write (x:=a) (e:=dx) (by rw[e]; exact True.intro) (.inr ho) (λb q hb z=>(sb.2 b hb).trans z) hd ?_
 refine⟨by rw[ak O.ne]; exact ho,?_,O.ne,O'.obj,_,O'.ns,λg=>?_,λg hg=>?_⟩
 ·have:=uU f y fs; omega
 ·show bG ((ci f y fs).lookup g) (if g=f then some u else mA g)
  rw[uR]
  by_cases q:g=f
  ·rw[if_pos q,if_pos q]; exact ry
  ·rw[if_neg q,if_neg q]; exact r g
 ·by_cases q:g=f
  ·rw[q]; exact (ou f y fs).1
  ·refine (ou f y fs).2 g (wi g λz=>hg ?_)
   show (if g=f then some u else mA g)=none
   rw[if_neg q]; exact z
theorem ad.made(I:ad X pins σ H s):ad X pins σ (upd (upd H s.heap.objs.size (.own (s.heap.objs.size+1))) (s.heap.objs.size+1) (.ins C s.heap.objs.size []))
 { s with heap:=(s.heap.push W.emptyDict).push (W.instObj C s.heap.objs.size) }:=by
 have e1:(s.heap.push W.emptyDict).get? s.heap.objs.size=some W.emptyDict:=Heap.get?_push_size s.heap rfl
 have e2:((s.heap.push W.emptyDict).push (W.instObj C s.heap.objs.size)).get? (s.heap.objs.size+1)=some (W.instObj C s.heap.objs.size):=by
  have:=Heap.get?_push_size (s.heap.push W.emptyDict) (o:=W.instObj C s.heap.objs.size) rfl
  rwa [Heap.size_push]at this
 have e3:(s.heap.push W.emptyDict).Ns s.heap.objs.size (λ_=>none):=⟨W.emptyDict,#[],_,e1,rfl,(λe he=>absurd he (by simp)),λ_=>rfl⟩
 have I1:=I.laid (a:=s.heap.objs.size) (o:=.own (s.heap.objs.size+1)) (h':=s.heap.push W.emptyDict) (t':=s.toks) (λb u q=>Heap.get?_push_of_some _ q) (Nat.le_refl _) ⟨_,e1⟩
 refine I1.laid (a:=s.heap.objs.size+1) (o:=.ins C s.heap.objs.size []) (t':=s.toks) (λb u q=>Heap.get?_push_of_some _ q) (Nat.le_of_eq (Heap.size_push _ _)) ?_
 have ne:s.heap.objs.size≠s.heap.objs.size+1:=Nat.ne_of_lt (Nat.lt_succ_self _)
 refine⟨by rw[ak ne,aN],Nat.zero_le _,ne,e2,λ_=>none,(Heap.Ns1.of_empty e3).at λo q=>Heap.get?_push_of_some _ q,λ_=>True.intro,λy hy=>absurd rfl hy⟩
theorem Hc{prog:Program}{w:World}{env:Env}{e:Expr}{f:Str}{pos:Pos}{s:Shared}{Q:Value->Shared->Prop}(hb:attributeBase e f env (eval e env)=eval e env)
 (h:wpAny (model prog w) A (eval e env) (λo s₁=>wpAny (model prog w) A (getAttr o f true) Q E s₁) E s):wpAny (model prog w) A (eval (.Attribute e f pos) env) Q E s :=
 Attribute_any_ h (by rw[arm_eval_Attribute,hb])
end
def sj(K:W.Frag)(ta:TE)(f:Str):TE:=λσ H Q=>ta σ H λx H1=>∃ a C dx fs v,x=.ref a/\H1 a=some (.ins C dx fs)/\dt K C/\fK K C f/\fs.lookup f=some v/\Q v H1
def tp(K:W.Frag)(ta tv:TE)(f:Str):TS:=λD σ H=>tv σ H λy H1=>ta σ H1 λx H2=>∃ a C dx fs,x=.ref a/\H2 a=some (.ins C dx fs)/\dt K C/\fK K C f/\fs.length < 1000 /\
 D.nx σ (upd H2 a (.ins C dx (ci f y fs)))
section
variable {X:Cx}{o e value:Expr}{f:Str}{pos pos' tpos:Pos}{ta tv:TE}
theorem BC(he:PE X e ta)(hb:attributeBase e f X.env (eval e X.env)=eval e X.env):PE X (.Attribute e f pos) (sj X.K ta f):=by
 intro pins s σ H Q I h
 refine Hc hb (aj (he pins s σ H _ I h) λu s1 ⟨x,H1,I1,rx,a,C,dx,fs,v,ex,ea,c,n,l,q⟩=>?_)
 subst ex
 obtain rfl:u=Value.ref a:=rx
 exact Eb I1 ea c n l λu' s2 I2 ru=>⟨v,H1,I2,ru,q⟩
theorem A4(ha:PE X o ta)(hv:PE X value tv)(hs:swapsWith value (some (.Attribute o f pos')) pos.line X.env=pure false):PS X (.Assign [.Attribute o f pos'] value pos) (tp X.K ta tv f):=by
 intro pins s σ H D I h
 refine plainObj_wpAny_Assign_Attribute (aj (hv pins s σ H _ I h) λu s1 ⟨y,H1,I1,ry,q⟩=>aj (ha pins s1 σ H1 _ I1 q) λov s2 ⟨x,H2,I2,rx,a,C,dx,fs,ex,ea,c,n,l,q2⟩=>?_) hs
 subst ex
 obtain rfl:ov=Value.ref a:=rx
 exact ze I2 ea c n l ry λs3 I3=>⟨σ,_,I3,q2⟩
end
section
variable {X:Cx}{pins:List (Addr × Obj)}{σ:St}{H:Hp}{s:Shared}{A:Around}{E:Value->Shared->Prop}{Q:Value->Shared->Prop}{c:Value}{b:Bool}
inductive cz (K:W.Frag) (H:Hp):V->Value->Prop where
 | non:cz K H .non (.type "NoneType")
 | bl (x:Bool):cz K H (.bl x) (.type "bool")
 | int (i:Int):cz K H (.int i) (.type "int")
 | str (x:Str):cz K H (.str x) (.type "str")
 | flt (x:UInt64):cz K H (.flt x) (.type "float")
 | lst {a:Addr} {xs:List V} (e:H a=some (.lst xs)):cz K H (.ref a) (.type "list")
 | frz {a:Addr} {o:Obj} {xs:List V} (e:H a=some (.frz o (.lst xs))):cz K H (.ref a) (.type "list")
 | tup {a:Addr} {xs:List V} (e:H a=some (.tup xs)):cz K H (.ref a) (.type "tuple")
 | dK {a:Addr} {kvs:List (ao × V)} (e:H a=some (.dK kvs)):cz K H (.ref a) (.type "dict")
 | dT {a:Addr} {kvs:List (List ao × V)} (e:H a=some (.dT kvs)):cz K H (.ref a) (.type "dict")
 | ins {a C dx:Addr} {fs:List (Str × V)} (e:H a=some (.ins C dx fs)) (cl:dt K C) (ha:W.findIn K (.ref C) "__class__" = some (some (.builtin "object.__class__")))
  (hn:W.specialIn K (.builtin "object.__class__") "__get__" = some (some (.builtin "getset_descriptor.__get__"))) (htk:W.takesIn K (.builtin "object.__class__")=some true)
  (hm:W.mroIn K C (.type "object")=some true):cz K H (.ref a) (.ref C)
theorem vf{x:V}{u t:Value}(I:ad X pins σ H s)(rx:aq x u)(ty:cz X.K H x t)(e:W.kitOne X.K t c=some b)(h : ∀ tk,Q (.bool b) { s with toks:=tk }) :
 wpAny (model X.prog X.w) A (call (.builtin "isinstance") [u,c]) Q E s:=by
 cases ty with
 | non=>cases (show u=Value.none from rx); exact W.kia_one W.kitx_none I.kIn True.intro e (λz=>nomatch z) h
 | bl y=>cases (show u=Value.bool y from rx); exact W.kia_one W.kitx_bool I.kIn True.intro e (λz=>nomatch z) h
 | int i=>obtain⟨t,q⟩:=(show ∃ t,u=Value.int i t from rx); cases q; exact W.kia_one W.kitx_int I.kIn True.intro e (λz=>nomatch z) h
 | str y=>obtain⟨t,q⟩:=(show ∃ t,u=Value.str y t from rx); cases q; exact W.kia_one W.kitx_str I.kIn True.intro e (λz=>nomatch z) h
 | flt y=>obtain⟨t,q⟩:=(show ∃ t,u=Value.float y t from rx); cases q; exact W.kia_one W.kitx_float I.kIn True.intro e (λz=>nomatch z) h
 | @lst a xs ea =>
  cases (show u=Value.ref a from rx)
  obtain⟨_,_,n,_,h1⟩:=(show aO X.prog X.w H s.heap a (.lst xs) from I.hok a _ ea)
  exact W.kia_one W.kitx_list I.kIn ⟨_,h1,rfl⟩ e (λz=>nomatch z) h
 | @frz a ob xs ea =>
  cases (show u=Value.ref a from rx)
  obtain⟨_,_,_,n,_,h1⟩:=(show aO X.prog X.w H s.heap a (.frz ob (.lst xs)) from I.hok a _ ea)
  exact W.kia_one W.kitx_list I.kIn ⟨_,h1,rfl⟩ e (λz=>nomatch z) h
 | @tup a xs ea =>
  cases (show u=Value.ref a from rx)
  obtain⟨_,_,_,p⟩:=(show aO X.prog X.w H s.heap a (.tup xs) from I.hok a _ ea)
  obtain⟨o,h1,h2,_⟩:=p
  exact W.kia_one W.kitx_tuple I.kIn ⟨o,h1,h2⟩ e (λz=>nomatch z) h
 | @dK a kvs ea =>
  cases (show u=Value.ref a from rx)
  obtain⟨_,_,vs,_,p⟩:=(show aO X.prog X.w H s.heap a (.dK kvs) from I.hok a _ ea)
  obtain⟨o,es,ep,h1,h2,_⟩:=p
  exact W.kia_one W.kitx_dict I.kIn ⟨o,h1,h2.1⟩ e (λz=>nomatch z) h
 | @dT a kvs ea =>
  cases (show u=Value.ref a from rx)
  obtain⟨_,_,xs,_,o,es,ep,h1,h2,_⟩:=(show aO X.prog X.w H s.heap a (.dT kvs) from I.hok a _ ea)
  exact W.kia_one W.kitx_dict I.kIn ⟨o,h1,h2.1⟩ e (λz=>nomatch z) h
 | @ins a C dx fs ea cl ha hn htk hm =>
  cases (show u=Value.ref a from rx)
  obtain⟨mA,O,_⟩:=lS I.hok ea
  obtain⟨od,J,_⟩:=O.look
  exact W.kia_one (W.kitx_own (cl.get _) cl.hd ha hn htk hm) I.kIn J e (λz=>nomatch z) h
end
structure aS (k:Nat) (A:Around):Prop where
 hd:A.handled=none
 dp:A.depth+3*k+5 < recursionLimit
 un:A.units+16*k+200 < cLine
theorem aS.mono{j k:Nat}{A:Around}(r:aS k A)(h:j<=k):aS j A:=⟨r.hd,by have:=r.dp; omega,by have:=r.un; omega⟩
theorem aS.deeper{k:Nat}{A:Around}(r:aS (k+1) A)(env:Env):aS k (A.deeper env) :=
 ⟨r.hd,by have:=r.dp; show A.depth+1+3*k+5 < _; omega,by have:=r.un; show A.units+3+16*k+200 < _; omega⟩
theorem aS.in1{k:Nat}{A:Around}(r:aS (k+1) A):aS k A.in1 :=
 ⟨r.hd,by have:=r.dp; show A.depth+3*k+5 < _; omega,by have:=r.un; show A.units+1+16*k+200 < _; omega⟩
theorem CO {A:Around} {C:Addr} {us:List Value} {kw:List (Str × Value)}:(A.under (.builtin "type.__call__" ⟨.ref C :: us,kw⟩)).depth=A.depth+1:=by
 first | rfl | simp[Around.under,Code.weight,Code.isCreation,Code.isGuard,Code.isCaller,Code.frames,Code.isFrame,guardIds]
theorem CM {A:Around} {C:Addr} {us:List Value} {kw:List (Str × Value)}:(A.under (.builtin "type.__call__" ⟨.ref C :: us,kw⟩)).units=A.units+1:=by
 first | rfl | simp[Around.under,Code.cUnits,Code.frames,Code.isFrame]
theorem aS.make {k:Nat} {A:Around} (r:aS (k+1) A) (C:Addr) (us:List Value) (kw:List (Str × Value)):aS k (A.under (.builtin "type.__call__" ⟨.ref C :: us,kw⟩)) :=
 ⟨r.hd,by have:=r.dp; rw[CO]; omega,by have:=r.un; rw[CM]; omega⟩
theorem aS.depth{k:Nat}{A:Around}(r:aS k A):A.depth < recursionLimit:=by have:=r.dp; omega
theorem aS.units{k:Nat}{A:Around}(r:aS k A):A.units+64 < cLine:=by have:=r.un; omega
def kH:TA:=λ_ H Q=>Q [] H
def mZ(ta:TE)(tr:TA):TA:=λσ H Q=>ta σ H λx H1=>tr σ H1 λxs H2=>Q (x :: xs) H2
section
variable {X:Cx}{e:Expr}{es:List Expr}{te:TE}{t:TA}{pos:Pos}
theorem ur:PA X [] kH:=λ_ _ _ _ H Q I h=>Calls.spliced_nil ⟨[],H,I,.nil,h⟩
theorem BR(ha:PE X e te)(hr:PA X es t)(hs:starEach (e :: es) X.env=(false,eval e X.env) :: starEach es X.env:=by rfl):PA X (e :: es) (mZ te t):=by
 intro pos pins s σ H Q I h
 rw[hs]
 show wpAny _ _ (spliced ((false,eval e X.env) :: backTo pos (starEach es X.env))) _ _ s
 refine Calls.spliced_cons (aj (ha pins s σ H _ I h) λu s1 ⟨x,H1,I1,r1,q1⟩=>?_)
 exact aj (hr pos pins s1 σ H1 _ I1 q1) λus s2 ⟨xs,H2,I2,r2,q2⟩=>⟨x :: xs,H2,I2,.cons r1 r2,q2⟩
end
abbrev Sp:=List V->Hp->VK->XK->Prop
abbrev du:=List Env->Hp->Shared->XK->Value->Shared->Prop
structure dM (P:Program) (w:World) (K:W.Frag) (mg:Str->Option Value) (base:Heap) (A:Around) (outer:List Env) (s:Shared) (H:Hp):Prop where
 frames:A.frames=some outer
 mod:Mod K mg base
 bs : ∀ b o,base.get? b=some o->s.heap.get? b=some o/\H b=none
 bsz:base.objs.size<=s.heap.objs.size
 funs:s.heap.FunFrames base outer
 frf : ∀ b∈cw outer,H b=none
 hok:aT P w H s.heap
 bare:AllBare s.gens
def CE(outer:List Env)(P:Program)(w:World)(H:Hp)(s:Shared)(Q:VK)(u:Value)(s':Shared):Prop :=
 ∃ v H',s'.os=s.os/\AllBare s'.gens/\Un (cw outer) [] H H' s.heap s'.heap/\aT P w H' s'.heap/\aq v u/\Q v H'
def CR(CX:du)(outer:List Env)(P:Program)(w:World)(H:Hp)(s:Shared)(Q:VK)(E:XK)(r:Result)(s':Shared):Prop :=
 match r with
 | .ok (.ret u)=>CE outer P w H s Q u s'
 | .ok _=>False
 | .error e=>CX outer H s E e s'
structure bt (P:Program) (w:World) (K:W.Frag) (mg:Str->Option Value) (base:Heap) (CX:du) (k:Nat) (f:Addr) (fd:FuncData) (ps:List Str) (sp:Sp):Prop where
 len : ∀ vs H Q E,sp vs H Q E->vs.length=ps.length
 run : ∀ (A:Around) (outer:List Env) (s:Shared) (H:Hp) (args:Args) (us:List Value) (vs:List V) (Q:VK) (E:XK),aS k A->dM P w K mg base A outer s H->BindsTo s fd args (ps.zip us)->ar vs us->sp vs H Q E ->
  codeAny (model P w) A (.call (.ref f) args) (CR CX outer P w H s Q E) s
theorem dM.make{P:Program}{w:World}{K:W.Frag}{mg:Str->Option Value}{base:Heap}{A:Around}{outer:List Env}{s:Shared}{H:Hp}(e:dM P w K mg base A outer s H)(C:Addr)(us:List Value)(kw:List (Str × Value)) :
 dM P w K mg base (A.under (.builtin "type.__call__" ⟨.ref C :: us,kw⟩)) outer s H:=⟨by first | exact e.frames | (simpa [Around.under,Code.envs,Code.isFrame,pushEnvs] using e.frames),e.mod,e.bs,e.bsz,e.funs,e.frf,e.hok,e.bare⟩
theorem dM.in1{P:Program}{w:World}{K:W.Frag}{mg:Str->Option Value}{base:Heap}{A:Around}{outer:List Env}{s:Shared}{H:Hp}(e:dM P w K mg base A outer s H) :
 dM P w K mg base A.in1 outer s H:=⟨e.frames,e.mod,e.bs,e.bsz,e.funs,e.frf,e.hok,e.bare⟩
section
variable {X:Cx}{pins:List (Addr × Obj)}{σ:St}{H:Hp}{s s':Shared}
theorem ad.env0(I:ad X pins σ H s):dM X.prog X.w X.K X.mg X.base X.A X.stack s H :=
 ⟨I.ok.frames,I.ok.mod,I.bs,Nat.le_trans I.ok.bsz I.sz,I.stack,I.stkFree,I.hok,I.bare⟩
theorem ad.after{Q:VK}{u:Value}(I:ad X pins σ H s)(h:CE X.stack X.prog X.w H s Q u s'):EP X pins σ Q u s':=by
 obtain⟨v,H',os,bare,un,hok,r,q⟩:=h
 obtain⟨hh,g,d,t,os'⟩:=s'
 obtain rfl:os'=s.os:=os
 exact⟨v,H',I.call (h':=hh) (g':=g) (d':=d) (t':=t) (ch:=[]) un hok bare (λb z=>absurd z (by simp)),r,q⟩
end
def m4(sp:Sp)(dvs:List V)(E:XK)(t:TA):TE:=λσ H Q=>t σ H λvs H1=>sp (vs++dvs) H1 Q E
def jI(C:Addr)(m:Str)(sp:Sp)(dvs:List V)(E:XK)(ta:TE)(t:TA):TE:=λσ H Q=>ta σ H λx H1=>∃ a dx fs,x=.ref a/\H1 a=some (.ins C dx fs)/\fs.lookup m=none /\
 t σ H1 λvs H2=>sp (x :: (vs++dvs)) H2 Q E
def sf(C:Addr)(sp:Sp)(dvs:List V)(E:XK)(t:TA):TE:=λσ H Q=>t σ H λvs H1=>∀ x dx,H1 x=none->H1 dx=none->dx≠x ->
 sp (.ref x :: (vs++dvs)) (upd (upd H1 dx (.own x)) x (.ins C dx [])) (λv H2=>v=.non/\Q (.ref x) H2) E
def ay(K:W.Frag)(fd:FuncData)(ps:List Str)(ds:List Value):Prop :=
 ∀ (s:Shared) (us:List Value),K.In s.heap->(us++ds).length=ps.length->BindsTo s fd ⟨us,[]⟩ (ps.zip (us++ds))
theorem ay.all{K:W.Frag}{fd:FuncData}{ps:List Str}(h : ∀ us:List Value,us.length=ps.length->bindArgs fd ⟨us,[]⟩=pure (ps.zip us)):ay K fd ps []:=λs us _ hl=>by
 rw[List.append_nil]at hl ⊢
 exact .of_eq (h us hl)
def gj(CX:du)(X:Cx)(E:XK):Prop:=∀ (pins:List (Addr × Obj)) (σ:St) (H:Hp) (s:Shared) (e:Value) (s':Shared),ad X pins σ H s->CX X.stack H s E e s'->X.xe e s'
section
variable {X:Cx}{CX:du}{k:Nat}{f C:Addr}{fd:FuncData}{ps:List Str}{sp:Sp}{dvs:List V}{ds:List Value}{E:XK}{x m:Str}{p pos apos:Pos}{e o:Expr}{es:List Expr}{ta:TE}{t:TA}
theorem nz{pins:List (Addr × Obj)}{σ:St}{H:Hp}{s:Shared}{Q:VK}{us:List Value}{vs:List V}(F:bt X.prog X.w X.K X.mg X.base CX k f fd ps sp)(hr:aS k X.A)(hb:ay X.K fd ps ds)(hd:ar dvs ds)(hx:gj CX X E)
 (I:ad X pins σ H s) (r:ar vs us) (h:sp (vs++dvs) H Q E):wpAny (model X.prog X.w) X.A (call (.ref f) us) (EP X pins σ Q) X.xe s:=by
 have r2:ar (vs++dvs) (us++ds):=r.append hd
 have hl:(us++ds).length=ps.length:=by rw[<- r2.length]; exact F.len _ _ _ _ h
 refine wpAny_call (codeAny_mono (F.run X.A X.stack s H ⟨us,[]⟩ (us++ds) (vs++dvs) Q E hr I.env0 (hb s us I.kIn hl) r2 h) λr s' hq=>?_)
 cases r with
 | error e=>exact hx pins σ H s e s' I hq
 | ok fl =>
  cases fl with
  | ret u=>exact I.after hq
  | next=>exact False.elim hq
  | brk=>exact False.elim hq
  | cont=>exact False.elim hq
theorem BM(F:bt X.prog X.w X.K X.mg X.base CX k f fd ps sp)(hr:aS k X.A)(hg:Gl X x)(hm:X.mg x=some (.ref f))(hk:W.keepIn X.K (.ref f)=true)(hb:ay X.K fd ps ds)(hd:ar dvs ds)(hx:gj CX X E)
 (ha:PA X (e :: es) t) (hdb:(x == ("__debug__" : Str))=false:=by decide) (he:starEach (e :: es) X.env=(false,eval e X.env) :: starEach es X.env:=by rfl) (hpl:(backTo pos (starEach es X.env)).any (·.1)=false:=by rfl) :
 PE X (.Call (.Name x p) (e :: es) [] pos) (m4 sp dvs E t):=by
 intro pins s σ H Q I h
 refine wpAny_Call_Name_kw (oq I hg hm ?_ hdb)
 refine W.callWith_K (h₀:=X.base) I.ok.mod.kin hk (aj (ha pos pins s σ H _ I h) λus s1 ⟨vs,H1,I1,r,q⟩=>⟨I1.kIn,?_⟩) he hpl
 exact nz F hr hb hd hx I1 r q
theorem uj{pl:Sem Bool}(he:PE X o ta)(c:dt X.K C)(hm:dF X.K C m f)(F:bt X.prog X.w X.K X.mg X.base CX k f fd ps sp)(hr:aS k X.A)(hb:ay X.K fd ps ds)(hd:ar dvs ds)(hx:gj CX X E)(ha:PA X (e :: es) t)
 (hst:starEach (e :: es) X.env=(false,eval e X.env) :: starEach es X.env:=by rfl) (hpl:(backTo pos (starEach es X.env)).any (·.1)=false:=by rfl)
 (ht:eval (.Call (.Attribute o m apos) (e :: es) [] pos) X.env=(do
   let ov <- eval o X.env
   standAt apos.atName
   let (f,first) <- holding [ov] (getMethod ov m pl)
   callWith pos f first (backTo pos (starEach (e :: es) X.env)) (backToKw pos (keywordEach [] X.env))):=by rfl) :
 PE X (.Call (.Attribute o m apos) (e :: es) [] pos) (jI C m sp dvs E ta t):=by
 intro pins s σ H Q I h
 refine W.methodCall_KW (pl:=pl) (aj (he pins s σ H _ I h) λu s1 ⟨x,H1,I1,rx,a,dx,fs,ex,ea,l,q⟩=>?_) ht
 subst ex
 obtain rfl:u=Value.ref a:=rx
 refine vE I1 ea c hm l ?_
 refine W.callWith_K (first:=[.ref a]) (h₀:=X.base) I.ok.mod.kin hm.kp (aj (ha pos pins s1 σ H1 _ I1 q) λus s2 ⟨vs,H2,I2,r,q2⟩=>⟨I2.kIn,?_⟩) hst hpl
 exact nz (us:=.ref a :: us) (vs:=.ref a :: vs) F hr hb hd hx I2 (.cons rfl r) q2
theorem Bx{pl:Sem Bool}(he:PE X o ta)(c:dt X.K C)(hm:dF X.K C m f)(F:bt X.prog X.w X.K X.mg X.base CX k f fd ps sp)(hr:aS k X.A)(hb:ay X.K fd ps ds)(hd:ar dvs ds)(hx:gj CX X E)
 (ht:eval (.Call (.Attribute o m apos) [] [] pos) X.env=(do
   let ov <- eval o X.env
   standAt apos.atName
   let (f,first) <- holding [ov] (getMethod ov m pl)
   callWith pos f first (backTo pos (starEach [] X.env)) (backToKw pos (keywordEach [] X.env))):=by rfl) :
 PE X (.Call (.Attribute o m apos) [] [] pos) (jI C m sp dvs E ta kH):=by
 intro pins s σ H Q I h
 refine W.methodCall_KW (pl:=pl) (aj (he pins s σ H _ I h) λu s1 ⟨x,H1,I1,rx,a,dx,fs,ex,ea,l,q⟩=>?_) ht
 subst ex
 obtain rfl:u=Value.ref a:=rx
 refine vE I1 ea c hm l ?_
 exact W.callWith_K0 (first:=[.ref a]) I1.kIn hm.kp (nz (us:=[.ref a]) (vs:=[.ref a]) F hr hb hd hx I1 (.cons rfl .nil) q)
structure Mk (K:W.Frag) (C f:Addr):Prop where
 makes:W.makesIn K C=true
 init:W.findIn K (.ref C) "__init__" = some (some (.ref f))
 fn:W.isFn K (.ref f)=true
 kp:W.keepIn K (.ref C)=true
theorem zG{pins:List (Addr × Obj)}{σ:St}{H:Hp}{s:Shared}{Q:VK}{us:List Value}{vs:List V}(M:Mk X.K C f)(F:bt X.prog X.w X.K X.mg X.base CX k f fd ps sp)(hr:aS (k+1) X.A)(hb:ay X.K fd ps ds)(hd:ar dvs ds)
 (hx:gj CX X E) (I:ad X pins σ H s) (r:ar vs us)
 (h : ∀ x dx,H x=none->H dx=none->dx≠x->sp (.ref x :: (vs++dvs)) (upd (upd H dx (.own x)) x (.ins C dx [])) (λv H2=>v=.non/\Q (.ref x) H2) E) :
 wpAny (model X.prog X.w) X.A (call (.ref C) us) (EP X pins σ Q) X.xe s:=by
 have hq:=h (s.heap.objs.size+1) s.heap.objs.size (I.hok.fresh (Nat.le_succ _)) (I.hok.fresh (Nat.le_refl _)) (Nat.ne_of_lt (Nat.lt_succ_self _))
 have I2:=ad.made (C:=C) I
 have r2:ar (V.ref (s.heap.objs.size+1) :: (vs++dvs)) (Value.ref (s.heap.objs.size+1) :: (us++ds)):=.cons rfl (r.append hd)
 have hl:(Value.ref (s.heap.objs.size+1) :: us++ds).length=ps.length:=by
  have e:=r2.length
  rw[F.len _ _ _ _ hq]at e
  exact e.symm
 refine wpAny_call (CN (f:=f) I.kIn M.makes M.init (beq_iff_eq.mp M.fn) (codeAny_mono (F.run _ X.stack _ _ ⟨Value.ref (s.heap.objs.size+1) :: us,[]⟩ (Value.ref (s.heap.objs.size+1) :: (us++ds)) _ _ E (hr.make C us [])
  (I2.env0.make C us []) (hb _ (Value.ref (s.heap.objs.size+1) :: us) I2.kIn hl) r2 hq) λr s' hq'=>?_))
 cases r with
 | error e=>exact hx pins σ _ _ e s' I2 hq'
 | ok fl =>
  cases fl with
  | ret u =>
   obtain⟨v,H',I3,rv,ev,q3⟩:=I2.after hq'
   subst ev
   exact⟨rv,⟨V.ref (s.heap.objs.size+1),H',I3,rfl,q3⟩⟩
  | next=>exact False.elim hq'
  | brk=>exact False.elim hq'
  | cont=>exact False.elim hq'
theorem By(M:Mk X.K C f)(F:bt X.prog X.w X.K X.mg X.base CX k f fd ps sp)(hr:aS (k+1) X.A)(hg:Gl X x)(hm:X.mg x=some (.ref C))(hb:ay X.K fd ps ds)(hd:ar dvs ds)(hx:gj CX X E)
 (ha:PA X (e :: es) t) (hdb:(x == ("__debug__" : Str))=false:=by decide) (he:starEach (e :: es) X.env=(false,eval e X.env) :: starEach es X.env:=by rfl) (hpl:(backTo pos (starEach es X.env)).any (·.1)=false:=by rfl) :
 PE X (.Call (.Name x p) (e :: es) [] pos) (sf C sp dvs E t):=by
 intro pins s σ H Q I h
 refine wpAny_Call_Name_kw (oq I hg hm ?_ hdb)
 refine W.callWith_K (h₀:=X.base) I.ok.mod.kin M.kp (aj (ha pos pins s σ H _ I h) λus s1 ⟨vs,H1,I1,r,q⟩=>⟨I1.kIn,?_⟩) he hpl
 exact zG M F hr hb hd hx I1 r q
end
section
variable {X:Cx}{CX:du}{k:Nat}{f C:Addr}{fd:FuncData}{ps ks:List Str}{sp:Sp}{E:XK}{x m:Str}{p pos apos kpos:Pos}{e o:Expr}{es:List Expr}{kws:List Keyword}{te ta:TE}{t tk:TA}{nm:Option Str}
structure Id (K:W.Frag) (fd:FuncData) (ps ks:List Str) (g:List Value->List Value->List Value) (gV:List V->List V->List V):Prop where
 to : ∀ (s:Shared) (us ws:List Value),K.In s.heap->(g us ws).length=ps.length->BindsTo s fd ⟨us,ks.zip ws⟩ (ps.zip (g us ws))
 rel : ∀ {vs:List V} {us:List Value} {zs:List V} {ws:List Value},ar vs us->ar zs ws->ar (gV vs zs) (g us ws)
variable {g:List Value->List Value->List Value}{gV:List V->List V->List V}
end
structure aQ (N P:List Str) (sc:Scope):Prop where
 kind:sc.kind=.function
 co:sc.isCoroutine=false
 gen:sc.isGenerator=false
 nd:N.Nodup
 pre:N.take P.length=P
 par : ∀ x∈P,sc.names.lookup x=some .local\/sc.names.lookup x=some .cell
 nofree : ∀ y∈sc.names,y.2 ≠ .free
theorem wJ{kindOf:Str->Option NameKind}{x:Str} : ∀ {binds:List (Str × Value)} {m:Str->Option Value},(∀ v,(x,v)∉binds)->bindL kindOf binds m x=m x
 | [],_,_=>rfl
 | (n,v) :: r,m,h=>by
  unfold bindL
  rw[wJ λw hw=>h w (List.mem_cons_of_mem _ hw)]
  split
  ·have:x≠n:=by rintro rfl; exact h v List.mem_cons_self
   simp[this]
  ·rfl
theorem wL{kindOf:Str->Option NameKind}{x:Str} : ∀ {binds:List (Str × Value)} {m:Str->Option Value},(∀ v,(x,v)∉binds)->bindC kindOf binds m x=m x
 | [],_,_=>rfl
 | (n,v) :: r,m,h=>by
  unfold bindC
  rw[wL λw hw=>h w (List.mem_cons_of_mem _ hw)]
  split
  ·rfl
  ·have:x≠n:=by rintro rfl; exact h v List.mem_cons_self
   simp[this]
theorem wK{kindOf:Str->Option NameKind}{x:Str}{v:Value} : ∀ {P:List Str} {vs:List Value} {i:Nat} {m:Str->Option Value},P.Nodup->P[i]? = some x->vs[i]? = some v->kindOf x=some .local ->
 bindL kindOf (P.zip vs) m x=some v
 | [],_,_,_,_,h,_,_=>by simp at h
 | _ :: _,[],_,_,_,_,h,_=>by simp at h
 | p :: P,w :: vs,0,m,nd,h1,h2,hk=>by
  simp at h1 h2; subst h1; subst h2
  show bindL kindOf ((p,w) :: P.zip vs) m p=_
  unfold bindL
  rw[wJ λv hv=>(List.nodup_cons.mp nd).1 (List.of_mem_zip hv).1,if_pos hk]
  simp
 | p :: P,w :: vs,i+1,m,nd,h1,h2,hk=>by
  show bindL kindOf ((p,w) :: P.zip vs) m x=_
  unfold bindL
  exact wK (i:=i) (List.nodup_cons.mp nd).2 (by simpa using h1) (by simpa using h2) hk
theorem wM{kindOf:Str->Option NameKind}{x:Str}{v:Value} : ∀ {P:List Str} {vs:List Value} {i:Nat} {m:Str->Option Value},P.Nodup->P[i]? = some x->vs[i]? = some v->kindOf x≠some .local ->
 bindC kindOf (P.zip vs) m x=some v
 | [],_,_,_,_,h,_,_=>by simp at h
 | _ :: _,[],_,_,_,_,h,_=>by simp at h
 | p :: P,w :: vs,0,m,nd,h1,h2,hk=>by
  simp at h1 h2; subst h1; subst h2
  show bindC kindOf ((p,w) :: P.zip vs) m p=_
  unfold bindC
  rw[wL λv hv=>(List.nodup_cons.mp nd).1 (List.of_mem_zip hv).1,if_neg hk]
  simp
 | p :: P,w :: vs,i+1,m,nd,h1,h2,hk=>by
  show bindC kindOf ((p,w) :: P.zip vs) m x=_
  unfold bindC
  exact wM (i:=i) (List.nodup_cons.mp nd).2 (by simpa using h1) (by simpa using h2) hk
def dX(N:List Str)(vs:List V):St:=vs.map some++List.replicate (N.length - vs.length) none
def fH(CX:du)(P:Program)(w:World)(K:W.Frag)(mg:Str->Option Value)(base:Heap)(N:List Str)(qual:Str)(scope:Scope)(f:Addr)(cd:Value)(A:Around)(outer:List Env)(s:Shared)(H:Hp)(E:XK):Cx where
 prog:=P
 w:=w
 K:=K
 mg:=mg
 base:=base
 A:=A.deeper (envOfC qual scope s.heap.objs.size f cd)
 N:=N
 s₀:=s
 H₀:=H
 env:=envOfC qual scope s.heap.objs.size f cd
 outer:=outer
 stack:=envOfC qual scope s.heap.objs.size f cd :: outer
 ex:=[]
 calm:=true
 fn:=λ_=>true
 pn:=[]
 xe:=λe s'=>wpAny (model P w) (A.deeper (envOfC qual scope s.heap.objs.size f cd)) (leaving (envOfC qual scope s.heap.objs.size f cd) e) (λ_ s''=>CX outer H s E e s'') (λe' s''=>CX outer H s E e' s'') s'
theorem wF{sc:Scope}{n:Nat}{x:Str}(h:sc.names.lookup x=some .cell) : ∃ c,(cellsFrom n sc.names []).lookup x=some c:=by
 have q:=W.cellsFrom_some sc.names n [] (.inl h)
 exact Option.isSome_iff_exists.mp q
theorem Dk{CX:du}{P:Program}{w:World}{K:W.Frag}{mg:Str->Option Value}{base:Heap}{N ps:List Str}{qual:Str}{scope:Scope}{f:Addr}{cd:Value}{A:Around}{outer:List Env}{s s1:Shared}{H:Hp}{E:XK}{us:List Value}{vs:List V}
 (S:aQ N ps scope) (hd:A.handled=none) (e0:dM P w K mg base A outer s H) (hl:vs.length=ps.length) (r:ar vs us)
 (x:InCallC s s.heap.objs.size (bindL (envOfC qual scope s.heap.objs.size f cd).kindOf (ps.zip us) λ_=>none) (cellsFrom (s.heap.objs.size+1) scope.names []) (bindC (envOfC qual scope s.heap.objs.size f cd).kindOf (ps.zip us) λ_=>none) s1) :
 ad (fH CX P w K mg base N qual scope f cd A outer s H E) [] (dX N vs) H s1:=by
 have hpl:ps.length<=N.length:=by have:=congrArg List.length S.pre; rw[List.length_take]at this; omega
 obtain⟨h1,tk,rfl,hk⟩:=x.done
 have noA : ∀ b:Addr,b∉(fH CX P w K mg base N qual scope f cd A outer s H E).ex:=λb z=>absurd (show b∈([]:List Addr) from z) (by simp)
 refine⟨⟨e0.mod,S.kind,rfl,rfl,Nat.le_refl _,λy z c h1 h2=>?_,λy hy=>?_,λy c _ h=>?_,λ_=>hd,Around.frames_deeper e0.frames,.inr ⟨rfl,rfl⟩,λb z=>absurd z (noA b),e0.bs,e0.bsz,λb _ _=>noA b,λb z=>absurd z (noA b),e0.funs,e0.frf⟩,
  rfl,e0.bare,Un.kept hk,⟨_,x.toInCall.ns,λi y v h1 h2 h3=>?_⟩,λy c h=>⟨_,x.cell y c h⟩,e0.hok.fresh (Nat.le_refl _),λy c h=>?_,λp hp=>absurd (show p∈([]:List (Addr × Obj)) from hp) (by simp),e0.hok.kept hk,?_⟩
 ·exact name_of_addr x.apart (PySem.mem_of_lookup h1) (PySem.mem_of_lookup h2)
 ·have hy:scope.names.lookup y=some .cell\/scope.names.lookup y=some .free:=hy
  rcases hy with hy | hy
  ·exact wF hy
  ·exact absurd rfl (S.nofree _ (PySem.mem_of_lookup hy))
 ·exact Nat.le_of_lt (x.above y c (PySem.mem_of_lookup h))
 ·have hi:i < vs.length:=by
   unfold dX at h2
   by_cases hi:i < vs.length
   ·exact hi
   ·rw[List.getElem?_append_right (by simpa using hi)]at h2
    rw[List.getElem?_replicate]at h2
    split at h2 <;> cases h2
  have ha:vs[i]? = some v:=by
   unfold dX at h2
   rw[List.getElem?_append_left (by simpa using hi),List.getElem?_map]at h2
   cases e:vs[i]? with
   | none=>rw[e]at h2; cases h2
   | some a=>rw[e]at h2; cases h2; rfl
  obtain⟨u,hu,rv⟩:=r.get ha
  have hp:ps[i]? = some y:=by
   rw[<- S.pre,List.getElem?_take_of_lt (by omega)]; exact h1
  have ndP:ps.Nodup:=by rw[<- S.pre]; exact S.nd.sublist (List.take_sublist _ _)
  refine⟨u,rv,?_⟩
  rcases S.par y (List.mem_of_getElem? hp) with k | k
  ·exact .inl ⟨k,wK ndP hp hu k⟩
  ·obtain⟨c,e⟩:=wF (n:=s.heap.objs.size+1) k
   refine .inr ⟨.inl k,c,e,?_⟩
   have q:=x.cell y c e
   rw[wM ndP hp hu (by show scope.names.lookup y≠_; rw[k]; decide)]at q
   exact q
 ·exact e0.hok.fresh (Nat.le_of_lt (x.above y c (PySem.mem_of_lookup h)))
 ·unfold dX
  show _=N.length
  rw[List.length_append,List.length_map,List.length_replicate]
  omega
theorem oW{CX:du}{P:Program}{w:World}{K:W.Frag}{mg:Str->Option Value}{base:Heap}{k:Nat}{f:Addr}{name qual:Str}{params:Arguments}{body:List Stmt}{scope:Scope}{dV kV doc pm cdv ct oc:Value}{an od:Option Addr}
 {osl:Array (Option Value)} {N ps:List Str} {sp:Sp} (lk:K.lookup f=some ⟨oc,od,.func (W.fnOf name qual params body scope dV kV doc pm an cdv ct),osl⟩) (hcd:W.codeIn K cdv qual=true) (S:aQ N ps scope)
 (len : ∀ vs H Q E,sp vs H Q E->vs.length=ps.length)
 (hbody : ∀ (A:Around) (outer:List Env) (s:Shared) (H:Hp) (vs:List V) (Q:VK) (E:XK),aS k (A.deeper (envOfC qual scope s.heap.objs.size f cdv))->sp vs H Q E ->
   ∃ t,dk (fH CX P w K mg base N qual scope f cdv A outer s H E) body t/\t { nx:=λ_ H'=>Q .non H',rt:=Q } (dX N vs) H) :
 bt P w K mg base CX (k+1) f (W.fnOf name qual params body scope dV kV doc pm an cdv ct) ps sp:=by
 refine⟨len,λA outer s H args us vs Q E hr e0 hb r hsp=>?_⟩
 have hl:=len _ _ _ _ hsp
 have KX:K.In s.heap:=e0.mod.kin.keeps λb o e=>(e0.bs b o e).1
 have lim:s.heap.NoLimit:=e0.mod.nolimit.keeps λb o e=>(e0.bs b o e).1
 have hkind : ∀ y∈ps.zip us,scope.names.lookup y.1=some .local\/(scope.names.lookup y.1=some .cell/\((cellsFrom (s.heap.objs.size+1) scope.names []).lookup y.1).isSome=true):=λ⟨n,v⟩ hy=>by
  rcases S.par n (List.of_mem_zip hy).1 with q | q
  ·exact .inl q
  ·exact .inr ⟨q,W.cellsFrom_some _ _ _ (.inl q)⟩
 refine codeAny_call_function hr.depth (KX _ _ lk) rfl S.co S.gen rfl (W.codeRec_of KX hcd) (hb _ _ _ _ ?_)
 refine wpAny_newFunctionEnv_cells S.kind hkind λenv he s1 x=>?_
 subst he
 refine⟨lim.keeps x.toInCall.keep,codeAny_func ?_⟩
 obtain⟨t,ht,hq⟩:=hbody A outer s H vs Q E (hr.deeper _) hsp
 have I:ad (fH CX P w K mg base N qual scope f cdv A outer s H E) [] (dX N vs) H s1:=Dk S hr.hd e0 hl r x
 refine wpAny_mono (ht [] s1 (dX N vs) H _ I hq) (λfl s' hs=>?_) λe s' hs=>hs
 have fin : ∀ {σ':St} {H':Hp} {v:V} {u:Value},ad (fH CX P w K mg base N qual scope f cdv A outer s H E) [] σ' H' s'->aq v u->Q v H'->CE outer P w H s Q u s' :=
  λ{σ' H' v u} J rv q=>⟨v,H',J.os,J.bare,J.base,J.hok,rv,q⟩
 cases fl with
 | ret u =>
  obtain⟨v,σ',H',J,rv,q⟩:=hs
  exact fin J rv q
 | next =>
  obtain⟨σ',H',J,q⟩:=hs
  exact fin (v:=V.non) (u:=Value.none) J rfl q
 | brk =>
  obtain⟨_,_,_,q⟩:=hs
  exact False.elim q
 | cont =>
  obtain⟨_,_,_,q⟩:=hs
  exact False.elim q
section
variable {X:Cx}{x:Str}{p pos:Pos}{e:Expr}{es:List Expr}{t:TA}{id T:String}{r:List V->Hp->VK->Prop}
def ix(r:List V->Hp->VK->Prop)(t:TA):TE:=λσ H Q=>t σ H λvs H1=>r vs H1 Q
theorem BL (hc:bA X (.builtin id) r) (hg:Gl X x) (hm:X.mg x=none) (hv:bootBuiltins x=some (.builtin id)) (ha:PA X (e :: es) t) (hn:x ≠ "__name__":=by decide) (hdb:(x == ("__debug__" : Str))=false:=by decide)
 (he:starEach (e :: es) X.env=(false,eval e X.env) :: starEach es X.env:=by rfl) (hpl:(backTo pos (starEach es X.env)).any (·.1)=false:=by rfl):PE X (.Call (.Name x p) (e :: es) [] pos) (ix r t):=by
 intro pins s σ H Q I h
 refine wpAny_Call_Name_kw (fA I hg hm hv ?_ hn hdb)
 exact PyProof.Rows.callWith_builtin1 (aj (ha pos pins s σ H _ I h) λus s1 ⟨vs,H1,I1,r1,q1⟩=>hc pins s1 σ H1 vs us Q I1 r1 q1) he hpl
theorem BK (hc:bA X (.type T) r) (hg:Gl X x) (hm:X.mg x=none) (hv:bootBuiltins x=some (.type T)) (ha:PA X (e :: es) t) (hn:x ≠ "__name__":=by decide) (hdb:(x == ("__debug__" : Str))=false:=by decide)
 (he:starEach (e :: es) X.env=(false,eval e X.env) :: starEach es X.env:=by rfl) (hpl:(backTo pos (starEach es X.env)).any (·.1)=false:=by rfl):PE X (.Call (.Name x p) (e :: es) [] pos) (ix r t):=by
 intro pins s σ H Q I h
 refine wpAny_Call_Name_kw (fA I hg hm hv ?_ hn hdb)
 exact PyProof.Rows.callWith_type1 (aj (ha pos pins s σ H _ I h) λus s1 ⟨vs,H1,I1,r1,q1⟩=>hc pins s1 σ H1 vs us Q I1 r1 q1) he hpl
end
section
variable {κ:Type}[DecidableEq κ]
def aR(kvs:List (κ × V))(k:κ):Option V:=(kvs.find? λkv=>decide (kv.1=k)).map (·.2)
def aW(kvs:List (κ × V))(k:κ)(v:V):List (κ × V) :=
 if (kvs.any λkv=>decide (kv.1=k))=true then kvs.map (λkv=>if kv.1=k then (kv.1,v) else kv) else kvs++[(k,v)]
theorem dw{p:κ × V}{r:List (κ × V)}{k:κ}(e:p.1=k):aR (p :: r) k=some p.2:=by simp[aR,List.find?_cons,e]
theorem dy{p:κ × V}{r:List (κ × V)}{k:κ}(e : ¬ p.1=k):aR (p :: r) k=aR r k:=by simp[aR,List.find?_cons,e]
theorem jE(k:κ) : ∀ kvs:List (κ × V),(kvs.any λkv=>decide (kv.1=k))=(aR kvs k).isSome
 | []=>rfl
 | p :: r=>by
  rw[List.any_cons]
  by_cases e:p.1=k
  ·simp only [dw e,decide_eq_true e,Bool.true_or,Option.isSome_some]
  ·rw[dy e,decide_eq_false e,Bool.false_or]; exact jE k r
theorem rN(k j:κ)(y:V) : ∀ kvs:List (κ × V),aR (kvs.map λkv=>if kv.1=k then (kv.1,y) else kv) j=(aR kvs j).map λx=>if j=k then y else x
 | []=>rfl
 | p :: r=>by
  have ih:=rN k j y r
  rw[List.map_cons]
  by_cases h:p.1=k
  ·rw[if_pos h]
   by_cases e:p.1=j
   ·rw[dw (p:=(p.1,y)) e,dw e,Option.map_some,if_pos (e.symm.trans h)]
   ·rw[dy (p:=(p.1,y)) e,dy e,ih]
  ·rw[if_neg h]
   by_cases e:p.1=j
   ·rw[dw (p:=p) e,dw e,Option.map_some,if_neg (λz=>h (e.trans z))]
   ·rw[dy (p:=p) e,dy e,ih]
theorem rM(k j:κ)(y:V) : ∀ kvs:List (κ × V),aR kvs k=none->aR (kvs++[(k,y)]) j=if j=k then some y else aR kvs j
 | [],_=>by
  by_cases e:k=j
  ·rw[if_pos e.symm]; exact dw (p:=(k,y)) e
  ·rw[if_neg (λz=>e z.symm)]; exact dy (p:=(k,y)) e
 | p :: r,hn=>by
  rw[List.cons_append]
  have hk : ¬ p.1=k:=λz=>by rw[dw z]at hn; cases hn
  rw[dy hk]at hn
  have ih:=rM k j y r hn
  by_cases e:p.1=j
  ·rw[dw e,dw e,if_neg (λz=>hk (e.trans z))]
  ·rw[dy e,dy e,ih]
theorem dO(kvs:List (κ × V))(k j:κ)(y:V):aR (aW kvs k y) j=if j=k then some y else aR kvs j:=by
 unfold aW
 by_cases a:(kvs.any λkv=>decide (kv.1=k))=true
 ·rw[if_pos a,rN]
  rw[jE]at a
  by_cases e:j=k
  ·obtain⟨x,hx⟩:=Option.isSome_iff_exists.mp a
   rw[if_pos e,e,hx,Option.map_some,if_pos rfl]
  ·rw[if_neg e]
   cases aR kvs j with
   | none=>rfl
   | some x=>rw[Option.map_some,if_neg e]
 ·rw[if_neg a]
  refine rM k j y kvs ?_
  rw[jE]at a
  cases q:aR kvs k with
  | none=>rfl
  | some x=>rw[q]at a; exact (a rfl).elim
theorem hE(kvs:List (κ × V))(k:κ)(v:V):(aW kvs k v).length<=kvs.length+1:=by
 unfold aW
 split
 ·rw[List.length_map]; omega
 ·rw[List.length_append,List.length_cons,List.length_nil]; omega
theorem nU{kvs:List (κ × V)}{k:κ}(v:V)(h:aR kvs k=none):aW kvs k v=kvs++[(k,v)]:=by
 unfold aW
 rw[jE,h]
 exact if_neg (by decide)
theorem bG.isSome_eq{o:Option V}{u:Option Value}(r:bG o u):o.isSome=u.isSome:=by
 cases o with
 | none=>cases u with
  | none=>rfl
  | some _=>exact (show False from r).elim
 | some _=>cases u with
  | none=>exact (show False from r).elim
  | some _=>rfl
theorem bG.getD{o:Option V}{u:Option Value}{d:V}{d':Value}(r:bG o u)(rd:aq d d'):aq (o.getD d) (u.getD d'):=by
 cases o with
 | none=>cases u with
  | none=>exact rd
  | some _=>exact (show False from r).elim
 | some _=>cases u with
  | none=>exact (show False from r).elim
  | some _=>exact r
theorem KV.val{kvs:List (κ × V)}{vs:List (κ × Value)}(r:KV kvs vs)(k:κ):bG (aR kvs k) (valueAt vs k):=by
 unfold KV at r
 induction r with
 | nil=>exact True.intro
 | @cons p q ps qs h t ih =>
  obtain⟨h1,h2⟩:=h
  by_cases e:p.1=k
  ·have e':q.1=k:=h1.symm.trans e
   have b:valueAt (q :: qs) k=some q.2:=by simp[valueAt,List.find?_cons,e']
   rw[dw e,b]; exact h2
  ·have e' : ¬ q.1=k:=λz=>e (h1.trans z)
   have b:valueAt (q :: qs) k=valueAt qs k:=by simp[valueAt,List.find?_cons,e']
   rw[dy e,b]; exact ih
theorem KV.any{kvs:List (κ × V)}{vs:List (κ × Value)}(r:KV kvs vs)(k:κ):(kvs.any λkv=>decide (kv.1=k))=vs.any λkv=>decide (kv.1=k):=by
 unfold KV at r
 induction r with
 | nil=>rfl
 | cons h t ih=>rw[List.any_cons,List.any_cons,ih,h.1]
theorem KV.repl{kvs:List (κ × V)}{vs:List (κ × Value)}(r:KV kvs vs)(k:κ){y:V}{u:Value}(ry:aq y u) :
 KV (kvs.map λkv=>if kv.1=k then (kv.1,y) else kv) (vs.map λkv=>if kv.1=k then (kv.1,u) else kv):=by
 unfold KV at r ⊢
 induction r with
 | nil=>exact .nil
 | @cons p q ps qs h t ih =>
  rw[List.map_cons,List.map_cons]
  refine .cons ?_ ih
  obtain⟨h1,h2⟩:=h
  by_cases e:p.1=k
  ·rw[if_pos e,if_pos (h1.symm.trans e)]; exact⟨h1,ry⟩
  ·rw[if_neg e,if_neg (λz=>e (h1.trans z))]; exact⟨h1,h2⟩
theorem KV.put{kvs:List (κ × V)}{vs:List (κ × Value)}(r:KV kvs vs)(k:κ){y:V}{u:Value}(ry:aq y u):KV (aW kvs k y) (stored vs k u):=by
 unfold aW stored
 rw[r.any k]
 by_cases e:(vs.any λkv=>decide (kv.1=k))=true
 ·rw[if_pos e,if_pos e]; exact r.repl k ry
 ·rw[if_neg e,if_neg e]; exact Paired.snoc r ⟨rfl,ry⟩
theorem KV.length{kvs:List (κ × V)}{vs:List (κ × Value)}(r:KV kvs vs):kvs.length=vs.length:=Paired.length r
end
theorem j0{P:Program}{w:World}{k:ao}{u:Value}(r:aq (kV k) u):(bB P w).is k u=true:=by
 cases k with
 | inl i=>obtain⟨t,e⟩:=(show ∃ t,u=Value.int i t from r); subst e; exact Cs P w i t
 | inr x=>obtain⟨t,e⟩:=(show ∃ t,u=Value.str x t from r); subst e; exact Cq P w x t
theorem ve{P:Program}{w:World} : ∀ {ks:List ao} {us:List Value},ar (ks.map kV) us->ItemsAre (bB P w) ks us
 | [],_,r=>by rw[List.map_nil]at r; cases r; exact .nil
 | k :: ks,_,r=>by
  rw[List.map_cons]at r
  cases r with
  | cons h t=>exact .cons (j0 h) (ve t)
abbrev KT(H:Hp):List (List ao × V)->List (List ao × Addr × Value)->Prop:=Paired λp q=>p.1=q.1/\H q.2.1=some (.tup (p.1.map kV))/\aq p.2 q.2.2
theorem KT.val{H:Hp}{kvs:List (List ao × V)}{xs:List (List ao × Addr × Value)}(r:KT H kvs xs)(k:List ao):bG (aR kvs k) ((atKey xs k).map (·.2)):=by
 induction r with
 | nil=>exact True.intro
 | @cons p q ps qs h t ih =>
  obtain⟨h1,_,h2⟩:=h
  by_cases e:p.1=k
  ·have e':q.1=k:=h1.symm.trans e
   have b:atKey (q :: qs) k=some q.2:=by simp[atKey,List.find?_cons,e']
   rw[dw e,b]; exact h2
  ·have e' : ¬ q.1=k:=λz=>e (h1.trans z)
   have b:atKey (q :: qs) k=atKey qs k:=by simp[atKey,List.find?_cons,e']
   rw[dy e,b]; exact ih
theorem KT.repl{H:Hp}{kvs:List (List ao × V)}{xs:List (List ao × Addr × Value)}(r:KT H kvs xs)(k:List ao){y:V}{u:Value}(ry:aq y u) :
 KT H (kvs.map λkv=>if kv.1=k then (kv.1,y) else kv) (xs.map (putAt k u)):=by
 induction r with
 | nil=>exact .nil
 | @cons p q ps qs h t ih =>
  rw[List.map_cons,List.map_cons]
  refine .cons ?_ ih
  obtain⟨h1,h2,h3⟩:=h
  unfold putAt
  by_cases e:p.1=k
  ·rw[if_pos e,if_pos (h1.symm.trans e)]; exact⟨h1,h2,ry⟩
  ·rw[if_neg e,if_neg (λz=>e (h1.trans z))]; exact⟨h1,h2,h3⟩
theorem KT.put{H:Hp}{kvs:List (List ao × V)}{xs:List (List ao × Addr × Value)}(r:KT H kvs xs)(k:List ao){b:Addr}{y:V}{u:Value}(hb:H b=some (.tup (k.map kV)))(ry:aq y u) :
 KT H (aW kvs k y) (storedH xs k b u):=by
 have e:(kvs.any λkv=>decide (kv.1=k))=(atKey xs k).isSome:=by
  rw[jE,(r.val k).isSome_eq,Option.isSome_map]
 unfold aW storedH
 rw[e]
 by_cases q:(atKey xs k).isSome=true
 ·rw[if_pos q,if_pos q]; exact r.repl k ry
 ·rw[if_neg q,if_neg q]; exact Paired.snoc r ⟨rfl,hb,ry⟩
theorem KT.keeps{H H':Hp}{kvs:List (List ao × V)}{xs:List (List ao × Addr × Value)}(r:KT H kvs xs)(ht : ∀ b ys,H b=some (.tup ys)->H' b=some (.tup ys)):KT H' kvs xs :=
 Paired.mapP r λ_ _ z=>⟨z.1,ht _ _ z.2.1,z.2.2⟩
section
variable {P:Program}{w:World}{H:Hp}{h:Heap}{a:Addr}
theorem tE{u:HO}(ok:aT P w H h)(e:Rd H a u):aO P w H h a u:=e.ok ok
theorem jn{kvs:List (ao × V)}(ok:aT P w H h)(e:Rd H a (.dK kvs)):kvs.length<=sizeLine/\(a == sysModules)=false/\∃ vs,KV kvs vs/\h.DictOf (bB P w) a vs :=
 show aO P w H h a (.dK kvs) from tE ok e
theorem mf{kvs:List (ao × V)}(ok:aT P w H h)(e:H a=some (.dK kvs)):kvs.length<=sizeLine/\(a == sysModules)=false/\∃ vs,KV kvs vs/\h.DictOf (bB P w) a vs:=jn ok (.inl e)
theorem jZ{ks:List ao}(ok:aT P w H h)(e:H a=some (.tup (ks.map kV))):(tupleKind (bB P w)).is h ks a:=by
 obtain⟨_,its,r,o,h1,h2,n,h3⟩:=(show aO P w H h a (.tup (ks.map kV)) from ok a _ e)
 exact⟨o,its.toArray,n,h1,h2,h3,by simpa using ve r⟩
theorem jk{kvs:List (List ao × V)}(ok:aT P w H h)(e:Rd H a (.dT kvs)):kvs.length<=sizeLine/\(a == sysModules)=false /\
 ∃ xs,KT H kvs xs/\h.DictOfH (tupleKind (bB P w)) a xs:=by
 obtain⟨z,y,xs,r,o,es,ep,h1,h2,h3,h4,h5⟩:=(show aO P w H h a (.dT kvs) from tE ok e)
 refine⟨z,y,xs,r,o,es,ep,h1,h2,h3,h4,λx hx=>?_,h5⟩
 have all : ∀ {l:List (List ao × V)} {m:List (List ao × Addr × Value)},KT H l m->∀ x∈m,(tupleKind (bB P w)).is h x.1 x.2.1:=by
  intro l m q
  induction q with
  | nil=>intro x hx; exact nomatch hx
  | @cons p q ps qs hq t ih =>
   intro x hx
   rcases List.mem_cons.mp hx with e | hx
   ·subst e
    exact jZ ok (by rw[<- hq.1]; exact hq.2.1)
   ·exact ih x hx
 exact all r x hx
theorem Fk{kvs:List (List ao × V)}(ok:aT P w H h)(e:H a=some (.dT kvs)):kvs.length<=sizeLine/\(a == sysModules)=false /\
 ∃ xs,KT H kvs xs/\h.DictOfH (tupleKind (bB P w)) a xs:=jk ok (.inl e)
end
def cC(H:Hp)(a:Addr)(y:V)(r:Option V):Prop :=
 (∃ kvs k,Rd H a (.dK kvs)/\y=kV k/\r=aR kvs k)\/∃ kvs k b,Rd H a (.dT kvs)/\y=.ref b/\H b=some (.tup (k.map kV))/\r=aR kvs k
def eA(H:Hp)(a:Addr)(y v:V)(H':Hp):Prop :=
 (∃ kvs k,H a=some (.dK kvs)/\y=kV k/\kvs.length < sizeLine/\H'=upd H a (.dK (aW kvs k v))) \/
 ∃ kvs k b,H a=some (.dT kvs)/\y=.ref b/\H b=some (.tup (k.map kV))/\kvs.length < sizeLine/\H'=upd H a (.dT (aW kvs k v))
theorem cC.k{H:Hp}{a:Addr}{kvs:List (ao × V)}{k:ao}(e:H a=some (.dK kvs)):cC H a (kV k) (aR kvs k):=.inl ⟨kvs,k,.inl e,rfl,rfl⟩
theorem cC.t{H:Hp}{a b:Addr}{kvs:List (List ao × V)}{k:List ao}(e:H a=some (.dT kvs))(eb:H b=some (.tup (k.map kV))):cC H a (.ref b) (aR kvs k):=.inr ⟨kvs,k,b,.inl e,rfl,eb,rfl⟩
theorem eA.k{H:Hp}{a:Addr}{kvs:List (ao × V)}{k:ao}{v:V}(e:H a=some (.dK kvs))(hl:kvs.length < sizeLine):eA H a (kV k) v (upd H a (.dK (aW kvs k v))):=.inl ⟨kvs,k,e,rfl,hl,rfl⟩
theorem eA.t{H:Hp}{a b:Addr}{kvs:List (List ao × V)}{k:List ao}{v:V}(e:H a=some (.dT kvs))(eb:H b=some (.tup (k.map kV)))(hl:kvs.length < sizeLine) :
 eA H a (.ref b) v (upd H a (.dT (aW kvs k v))):=.inr ⟨kvs,k,b,e,rfl,eb,hl,rfl⟩
section
variable {X:Cx}{pins:List (Addr × Obj)}{σ:St}{H:Hp}{s:Shared}{a:Addr}{y v:V}{u r:Value}{o:Option V}{A:Around}{E:Value->Shared->Prop}
theorem ad.big(I:ad X pins σ H s):sysModules < s.heap.objs.size:=by
 have h:mainGlobals < s.heap.objs.size:=(I.mod.glob.keeps I.bk).lt
 exact Nat.lt_trans (by decide) h
theorem Fx{Q:Value->Shared->Prop}(hu:A.units+1 < cLine)(I:ad X pins σ H s)(g:cC H a y (some v))(ry:aq y u)(h : ∀ w' s',ad X pins σ H s'->aq v w'->Q w' s') :
 wpAny (model X.prog X.w) A (getItem (.ref a) u) Q E s:=by
 rcases g with ⟨kvs,k,e,ey,l⟩ | ⟨kvs,k,b,e,ey,eb,l⟩
 ·subst ey
  obtain⟨z,hd,vs,rel,dd⟩:=jn I.hok e
  obtain⟨w',hw,rw'⟩:=bG.some_of (v:=v) (o:=valueAt vs k) (by rw[l]; exact rel.val k)
  exact wpAny_getItem_of (j0 ry) dd.mapOf hw (h w' _ (I.tok _) rw')
 ·subst ey
  cases (show u=Value.ref b from ry)
  obtain⟨z,hd,xs,rel,dd⟩:=jk I.hok e
  obtain⟨w',hw,rw'⟩:=bG.some_of (v:=v) (o:=(atKey xs k).map (·.2)) (by rw[l]; exact rel.val k)
  obtain⟨p,hp,hp2⟩:=Option.map_eq_some_iff.mp hw
  refine wpAny_getItem_heap (tupleKind_room_in1 hu) (jZ I.hok eb) dd hp ?_
  rw[hp2]
  exact h w' _ (I.tok _) rw'
theorem Fw{Q:Value->Shared->Prop}(hu:A.units+1 < cLine)(I:ad X pins σ H s)(g:cC H a y o)(ry:aq y u)(h : ∀ s',ad X pins σ H s'->Q (.bool o.isSome) s') :
 wpAny (model X.prog X.w) A (compareOp .In u (.ref a)) Q E s:=by
 rcases g with ⟨kvs,k,e,ey,l⟩ | ⟨kvs,k,b,e,ey,eb,l⟩
 ·subst ey
  obtain⟨z,hd,vs,rel,dd⟩:=jn I.hok e
  refine wpAny_in_of (j0 ry) hd dd.mapOf ?_
  rw[<- (rel.val k).isSome_eq,<- l]
  exact h _ (I.tok _)
 ·subst ey
  cases (show u=Value.ref b from ry)
  obtain⟨z,hd,xs,rel,dd⟩:=jk I.hok e
  refine wpAny_in_heap (tupleKind_room_in1 hu) (jZ I.hok eb) hd dd ?_
  have q:=(rel.val k).isSome_eq
  rw[Option.isSome_map]at q
  rw[<- q,<- l]
  exact h _ (I.tok _)
theorem j8{h':Heap}{t':Nat}{ob:HO}(I:ad X pins σ H s)(mu:kr (H a))(hs:Heap.SameBut a s.heap h')(he : ∃ q,h'.get? a=some q)(new:aO X.prog X.w (upd H a ob) h' a ob) :
 ad X pins σ (upd H a ob) { s with heap:=h',toks:=t' } :=
 I.write (x:=a) (e:=a) mu (.inl rfl) (λb q hb z=>(hs.2 b hb).trans z) he new
theorem Fr{P:Program}{w:World}{H':Hp}{h':Heap}{kvs:List (ao × V)}{vs:List (ao × Value)}(z:kvs.length<=sizeLine)(hd:(a == sysModules)=false)(rel:KV kvs vs)(dd:h'.DictOf (bB P w) a vs) :
 aO P w H' h' a (.dK kvs):=⟨z,hd,vs,rel,dd⟩
theorem Fv{H':Hp}{Q:Unit->Shared->Prop}(hu:A.units+1 < cLine)(I:ad X pins σ H s)(g:eA H a y v H')(ry:aq y u)(rv:aq v r)(h : ∀ s',ad X pins σ H' s'->Q () s') :
 wpAny (model X.prog X.w) A (setItem (.ref a) u r) Q E s:=by
 rcases g with ⟨kvs,k,e,ey,l,eH⟩ | ⟨kvs,k,b,e,ey,eb,l,eH⟩
 ·subst ey eH
  obtain⟨z,hd,vs,rel,dd⟩:=mf I.hok e
  have hz:vs.length<=sizeLine:=by rw[<- rel.length]; exact z
  have hl:(aW kvs k v).length<=sizeLine:=by have:=hE kvs k v; omega
  refine wpAny_setItem_pairs (hsz:=hz) (j0 ry) dd λh' dd' hs=>h _ ?_
  have he : ∃ q,h'.get? a=some q:=let ⟨q,_,_,hq,_⟩:=dd'; ⟨q,hq⟩
  exact j8 I (by rw[e]; exact True.intro) hs he (Fr hl hd (rel.put k rv) dd')
 ·subst ey eH
  cases (show u=Value.ref b from ry)
  obtain⟨z,hd,xs,rel,dd⟩:=Fk I.hok e
  have hz:xs.length<=sizeLine:=by rw[<- Paired.length rel]; exact z
  have hl:(aW kvs k v).length<=sizeLine:=by have:=hE kvs k v; omega
  refine wpAny_setItem_heap (hsz:=hz) (tupleKind_room_in1 hu) (jZ I.hok eb) dd λh' dd' hs=>h _ ?_
  obtain⟨q,es,ep,hq,h2,h3,h4,_,h5⟩:=dd'
  refine j8 I (by rw[e]; exact True.intro) hs ⟨q,hq⟩ ⟨hl,hd,_,(rel.put k eb rv).keeps λc ys ec=>?_,q,es,ep,hq,h2,h3,h4,h5⟩
  rw[ak (jT ec e (λz=>nomatch z))]
  exact ec
end
def jv(i:Expr):Prop:=∀ ov iv,subscripted i false ov iv=operate [ov,iv] (getItem ov iv)
theorem kK{prog:Program}{w:World}{A:Around}{E:Value->Shared->Prop}{s:Shared}{env:Env}{value slice:Expr}{pos:Pos}{T id:String}{Q:Value->Shared->Prop}
 (hl:typeLookup (.type T) "__getitem__" = pure (some (.builtin id))) (hs:jv slice)
 (h:wpAny (model prog w) A (eval value env) (λo s₁=>wpAny (model prog w) A (eval slice env) (λi s₂=>s₂.TypeIs o T/\wpAny (model prog w) A (getItem o i) Q E s₂) E s₁) E s) :
 wpAny (model prog w) A (eval (.Subscript value slice pos) env) Q E s:=by
 refine Subscript_ (wpAny_mono h (λo s₁ h₁=>wpAny_mono h₁ (λi s₂ h₂=>?_) λ_ _ x=>x) λ_ _ x=>x)
 obtain⟨hT,h₂⟩:=h₂
 unfold subscriptTail
 refine wpAny_bind ?_
 rw[getitemInPython_of_ne hT.not_modules]
 refine wpAny_bind (wpAny_specialOf hT hl ?_)
 have fin:wpAny (model prog w) A (subscripted slice false o i) (λr s₃=>wpAny (model prog w) A (letTemporaryGo value o r >>= λ_=>pure r) Q E s₃) E s₂:=by
  rw[hs o i]
  exact wpAny_operating (wpAny_mono h₂ (λr s₃ h₃=>wpAny_bind (wpAny_letTemporaryGo (wpAny_pure h₃))) λ_ _ x=>x)
 first
  | exact wpAny_pure (wpAny_bind fin)
  | exact wpAny_bind (wpAny_pure (wpAny_bind fin))
  | exact wpAny_bind fin
theorem Fu {X:Cx} {pins:List (Addr × Obj)} {σ:St} {H:Hp} {s:Shared} {a:Addr} {y:V} {o:Option V} (I:ad X pins σ H s) (g:cC H a y o):s.TypeIs (.ref a) "dict":=by
 rcases g with ⟨kvs,k,e,_,_⟩ | ⟨kvs,k,b,e,_,_,_⟩
 ·obtain⟨_,_,vs,_,dd⟩:=jn I.hok e
  exact dd.typeIs
 ·obtain⟨_,_,xs,_,dd⟩:=jk I.hok e
  exact dd.typeIs
def sr(td ty:TE):TE:=λσ H Q=>td σ H λx H1=>ty σ H1 λy H2=>∃ a v,x=.ref a/\cC H2 a y (some v)/\Q v H2
def tw(td ty tv:TE):TS:=λD σ H=>tv σ H λv H1=>td σ H1 λx H2=>ty σ H2 λy H3=>∃ a H4,x=.ref a/\eA H3 a y v H4/\D.nx σ H4
section
variable {X:Cx}{o i e value:Expr}{pos pos' tpos:Pos}{td ty tv:TE}
theorem BG(hu:X.A.units+1 < cLine)(ho:PE X o td)(hi:PE X i ty)(hs:jv i):PE X (.Subscript o i pos) (sr td ty):=by
 intro pins s σ H Q I h
 refine kK PySem.F.slot_dict_getitem.lookup hs (aj (ho pins s σ H _ I h) λu s1 ⟨x,H1,I1,rx,q1⟩=>aj (hi pins s1 σ H1 _ I1 q1) λiv s2 ⟨y,H2,I2,ry,a,v,ex,g,q2⟩=>?_)
 subst ex
 obtain rfl:u=Value.ref a:=rx
 exact⟨Fu I2 g,Fx hu I2 g ry λw' s3 I3 rw'=>⟨v,H2,I3,rw',q2⟩⟩
theorem A6(hu:X.A.units+1 < cLine)(ho:PE X o td)(hi:PE X i ty)(hv:PE X value tv)(hs:swapsWith value (some (.Subscript o i pos')) pos.line X.env=pure false) :
 PS X (.Assign [.Subscript o i pos'] value pos) (tw td ty tv):=by
 intro pins s σ H D I h
 refine wpAny_Assign_Subscript (aj (hv pins s σ H _ I h) λr s1 ⟨v,H1,I1,rv,q1⟩=>aj (ho pins s1 σ H1 _ I1 q1) λu s2 ⟨x,H2,I2,rx,q2⟩=>aj (hi pins s2 σ H2 _ I2 q2) λiv s3 ⟨y,H3,I3,ry,a,H4,ex,g,q3⟩=>?_) hs
 subst ex
 obtain rfl:u=Value.ref a:=rx
 exact Fv hu I3 g ry rv λs4 I4=>⟨σ,H4,I4,q3⟩
end
theorem Fs{P:Program}{w:World}{H:Hp}(h:Heap)(hb:sysModules < h.objs.size):aO P w H (h.push { cls:=.type "dict",data:=.dict #[] }) h.objs.size (.dK []) :=
 ⟨Nat.zero_le _,beq_eq_false_iff_ne.mpr (Ne.symm (Nat.ne_of_lt hb)),[],.nil,Heap.DictOf.new h⟩
theorem Fl{P:Program}{w:World}{H:Hp}(h:Heap)(hb:sysModules < h.objs.size):aO P w H (h.push { cls:=.type "dict",data:=.dict #[] }) h.objs.size (.dT []) :=
 ⟨Nat.zero_le _,beq_eq_false_iff_ne.mpr (Ne.symm (Nat.ne_of_lt hb)),[],.nil,_,#[],0,Heap.get?_push_size _ rfl,⟨rfl,rfl,rfl⟩,rfl,rfl,List.nodup_nil⟩
def yr:TE:=λ_ H Q=>∀ p,H p=none->Q (.ref p) (upd H p (.dK []))
def yq:TE:=λ_ H Q=>∀ p,H p=none->Q (.ref p) (upd H p (.dT []))
section
variable {X:Cx}{pos:Pos}
theorem BE:PE X (.Dict [] [] pos) yr:=λpins s σ H Q I h =>
 wpAny_Dict_empty ⟨.ref s.heap.objs.size,_,I.laid (a:=s.heap.objs.size) (o:=.dK []) (t':=s.toks) (λ_ _ q=>Heap.get?_push_of_some _ q) (Nat.le_refl _) (Fs s.heap I.big),rfl,h _ (I.hok.fresh (Nat.le_refl _))⟩
theorem BD:PE X (.Dict [] [] pos) yq:=λpins s σ H Q I h =>
 wpAny_Dict_empty ⟨.ref s.heap.objs.size,_,I.laid (a:=s.heap.objs.size) (o:=.dT []) (t':=s.toks) (λ_ _ q=>Heap.get?_push_of_some _ q) (Nat.le_refl _) (Fl s.heap I.big),rfl,h _ (I.hok.fresh (Nat.le_refl _))⟩
end
structure M1 (X:Cx) (o:Expr) (m:Str) (apos:Pos) (e:Expr) (cpos:Pos):Prop where
 base:attributeBase o m X.env (eval o X.env)=eval o X.env
 few:((backTo cpos (starEach [e] X.env)).all (λx=>!x.1) && (backToKw cpos (keywordEach [] X.env)).all (λx=>x.1.isSome)
  && decide (([e]:List Expr).length+([]:List Keyword).length+(if ([]:List Keyword).isEmpty then 0 else 1) < 30))=true
 line:(apos.endLine == cpos.line)=true
 trees:backTo cpos (starEach [e] X.env)=[(false,eval e X.env)]
structure M2 (X:Cx) (o:Expr) (m:Str) (apos:Pos) (e f:Expr) (cpos:Pos):Prop where
 base:attributeBase o m X.env (eval o X.env)=eval o X.env
 few:((backTo cpos (starEach [e,f] X.env)).all (λx=>!x.1) && (backToKw cpos (keywordEach [] X.env)).all (λx=>x.1.isSome)
  && decide (([e,f]:List Expr).length+([]:List Keyword).length+(if ([]:List Keyword).isEmpty then 0 else 1) < 30))=true
 line:(apos.endLine == cpos.line)=true
 trees:backTo cpos (starEach [e,f] X.env)=[(false,eval e X.env),(false,eval f X.env)]
def w4(H:Hp)(a:Addr):Prop:=(∃ kvs,Rd H a (.dK kvs))\/∃ kvs,Rd H a (.dT kvs)
theorem Dj{X:Cx}{pins:List (Addr × Obj)}{σ:St}{H:Hp}{s:Shared}{a:Addr}(I:ad X pins σ H s)(d:w4 H a) :
 s.TypeIs (.ref a) "dict"/\(∀ b,Value.ref a=.ref b->∃ ob,s.heap.get? b=some ob/\ob.dict=none)/\(a == sysModules)=false:=by
 rcases d with ⟨kvs,e⟩ | ⟨kvs,e⟩
 ·obtain⟨_,hd,vs,_,dd⟩:=jn I.hok e
  refine⟨dd.typeIs,λb q=>?_,hd⟩
  cases q
  obtain⟨ob,_,_,h1,h2,_⟩:=dd
  exact⟨ob,h1,h2.2.1⟩
 ·obtain⟨_,hd,xs,_,dd⟩:=jk I.hok e
  refine⟨dd.typeIs,λb q=>?_,hd⟩
  cases q
  obtain⟨ob,_,_,h1,h2,_⟩:=dd
  exact⟨ob,h1,h2.2.1⟩
section
variable {X:Cx}{pins:List (Addr × Obj)}{σ:St}{H:Hp}{s:Shared}{a:Addr}{y d:V}{u r:Value}{o:Option V}{A:Around}{E:Value->Shared->Prop}
theorem Fy{Q:Value->Shared->Prop}(hu:A.units+1 < cLine)(I:ad X pins σ H s)(g:cC H a y o)(ry:aq y u)(h : ∀ w' s',ad X pins σ H s'->aq (o.getD .non) w'->Q w' s') :
 wpAny (model X.prog X.w) A (call (.builtin "dict.get") [.ref a,u]) Q E s:=by
 rcases g with ⟨kvs,k,e,ey,l⟩ | ⟨kvs,k,b,e,ey,eb,l⟩
 ·subst ey
  obtain⟨z,hd,vs,rel,dd⟩:=jn I.hok e
  refine call_meetsIn PySem.F.slot_dict_get dd.typeIs PySem.F.entry_dict_get (PySem.F.args_dict_get_2 _ _) (meets_dict_get (bB X.prog X.w) a (j0 ry) hd) ⟨_,dd.mapOf,h _ _ (I.tok _) ?_⟩
  rw[l]
  exact (rel.val k).getD rfl
 ·subst ey
  cases (show u=Value.ref b from ry)
  obtain⟨z,hd,xs,rel,dd⟩:=jk I.hok e
  refine call_meetsIn PySem.F.slot_dict_get dd.typeIs PySem.F.entry_dict_get (PySem.F.args_dict_get_2 _ _) (meetsH_dict_get (tupleKind (bB X.prog X.w)) a b hd) ⟨tupleKind_room_in1 hu,k,xs,jZ I.hok eb,dd,h _ _ (I.tok _) ?_⟩
  rw[l]
  exact (rel.val k).getD rfl
end
def sn(td ty:TE):TE:=λσ H Q=>td σ H λx H1=>∃ a,x=.ref a/\w4 H1 a/\ty σ H1 λy H2=>∃ o,cC H2 a y o/\Q (o.getD .non) H2
section
variable {X:Cx}{o e f:Expr}{apos cpos:Pos}{td ty tx:TE}
theorem BF (hu:X.A.units+1 < cLine) (ho:PE X o td) (he:PE X e ty) (m:M1 X o "get" apos e cpos):PE X (.Call (.Attribute o "get" apos) [e] [] cpos) (sn td ty):=by
 intro pins s σ H Q I h
 refine wpAny_Call_method m.base m.few m.line PySem.F.plainAttrs_dict PySem.F.slot_dict_get PySem.F.type_dict_get (aj (ho pins s σ H _ I h) λu s1 ⟨x,H1,I1,rx,a,ex,d,q1⟩=>?_)
 subst ex
 obtain rfl:u=Value.ref a:=rx
 obtain⟨t1,t2,_⟩:=Dj I1 d
 refine⟨t1,t2,?_⟩
 rw[m.trees]
 refine Calls.callWith_builtin rfl (Calls.evalArgs_plain (Calls.spliced_cons (aj (he pins s1 σ H1 _ I1 q1) λiv s2 ⟨y,H2,I2,ry,ov,g,q2⟩=>Calls.spliced_nil ?_)))
 exact Fy hu I2 g ry λw' s3 I3 rw'=>⟨_,H2,I3,rw',q2⟩
end
end L2
namespace HT
open PySem PyProof.Rows
def lexLt:List Int->List Int->Bool
 | [],[]=>false
 | [],_ :: _=>true
 | _ :: _,[]=>false
 | x :: xs,y :: ys=>if x=y then lexLt xs ys else decide (x < y)
section
variable {prog:Program}{w:World}{A:Around}{E:Value->Shared->Prop}{s:Shared}
theorem cat_tup{t b:Addr}{vs ws:List Value}{Q:Value->Shared->Prop}(ht:IsTup s.heap t vs.toArray)(hb:IsTup s.heap b ws.toArray)(hv:vs≠[])
 (h1:ws=[]->Q (.ref t) s) (h2:ws≠[]->Q (.ref s.heap.objs.size) { s with heap:=s.heap.push { cls:=.type "tuple",data:=.seq (vs++ws).toArray } })
 (hsz:vs.length+ws.length<=sizeLine):wpAny (model prog w) A (binaryOp .Add (.ref t) (.ref b)) Q E s:=by
 obtain⟨⟨cls,dd,data,sl⟩,ho,hc,n,hd⟩:=id ht
 obtain⟨⟨cls2,dd2,data2,sl2⟩,ho2,hc2,n2,hd2⟩:=id hb
 simp only at hc hd hc2 hd2
 subst hc hd hc2 hd2
 have e:vs.toArray++ws.toArray=(vs++ws).toArray:=by simp
 by_cases hw:ws=[]
 ·exact concat_meets ⟨_,ho,rfl⟩ ⟨_,ho2,rfl⟩ noFill_tuple_add seq_tuple_add PySem.F.slot_tuple_add PySem.F.entry_tuple_add (PySem.F.args_tuple_add_2 _ _)
   (tuple_addW1 t b vs.toArray ws.toArray n n2 dd dd2 sl sl2 (by simpa using hv) (by simp[hw])) ⟨ho,ho2,h1 hw⟩
 ·refine concat_meets ⟨_,ho,rfl⟩ ⟨_,ho2,rfl⟩ noFill_tuple_add seq_tuple_add PySem.F.slot_tuple_add PySem.F.entry_tuple_add (PySem.F.args_tuple_add_2 _ _)
   (tuple_addW2 t b vs.toArray ws.toArray n n2 dd dd2 sl sl2 (by simpa using hv) (by simpa using hw) (by rw[List.size_toArray,List.size_toArray]; exact hsz)) ⟨ho,ho2,?_⟩
  rw[e]
  exact h2 hw
def sIx(n d:Nat):Option Int->Nat
 | none=>d
 | some v=>if v < 0 then (v+(n:Int)).toNat else min v.toNat n
theorem zB(n d:Nat)(hd:d<=n)(o:Option Int):sIx n d o<=n:=by
 cases o with
 | none=>exact hd
 | some v =>
  show (if v < 0 then (v+(n:Int)).toNat else min v.toNat n)<=n
  by_cases hv:v < 0
  ·rw[if_pos hv]; omega
  ·rw[if_neg hv]; exact Nat.min_le_right _ _
theorem wD(v:Int)(n d:Nat):(if v < 0 then max (v+(n:Int)) 0 else min v (n:Int))=((sIx n d (some v):Nat):Int):=by
 show (if v < 0 then max (v+(n:Int)) 0 else min v (n:Int))=(((if v < 0 then (v+(n:Int)).toNat else min v.toNat n):Nat):Int)
 by_cases hv:v < 0
 ·simp only [if_pos hv]; omega
 ·simp only [if_neg hv]; omega
theorem Hg(lo hi:Option Int)(n:Nat):Builtin.Slice.sliceAdjust lo hi 1 (n:Int)=(((sIx n 0 lo:Nat):Int),((sIx n n hi:Nat):Int)):=by
 have h1 : ¬ ((1:Int) < 0):=by omega
 unfold Builtin.Slice.sliceAdjust
 simp only [h1,if_false]
 refine Prod.ext ?_ ?_
 ·cases lo with
  | none=>rfl
  | some v=>exact wD v n 0
 ·cases hi with
  | none=>rfl
  | some v=>exact wD v n n
theorem Be(i j:Nat):Builtin.Slice.slicePlaces (i:Int) (j:Int) 1=j - i:=by
 unfold Builtin.Slice.slicePlaces
 have h1:(1:Int) > 0:=by omega
 simp only [h1,if_true,Int.ediv_one]
 split <;> omega
theorem sP{v:Value}{o:Option Int}{Q:Option Int->Shared->Prop}(p:IsPart v o)(h:Q o s):wpAny (model prog w) A (Builtin.Slice.slicePartIndex v) Q E s:=by
 cases p with
 | none=>exact slicePart_none h
 | int i t=>exact slicePart_int h
theorem sR{sl:Addr}{vl vu:Value}{lo hi:Option Int}{n:Nat}{Q:Int × Int × Nat->Shared->Prop}(hs:s.heap.IsSliceOf sl vl vu .none)(pl:IsPart vl lo)(pu:IsPart vu hi)
 (h:Q (((sIx n 0 lo:Nat):Int),1,sIx n n hi - sIx n 0 lo) s):wpAny (model prog w) A (Builtin.Slice.sliceApplied (.ref sl) (pure (n:Int))) Q E s:=by
 obtain⟨os,hos,hcs,hds⟩:=id hs
 unfold Builtin.Slice.sliceApplied Builtin.Slice.sliceFields
 refine wpAny_bind (wpAny_bind (wpAny_field hos hds (x:=vl) rfl (wpAny_bind (wpAny_field hos hds (x:=vu) rfl (wpAny_bind (wpAny_field hos hds (x:=.none) rfl (wpAny_pure ?_)))))))
 refine wpAny_bind (slicePart_none ?_)
 show wpAny _ _ (if ((1:Int) == 0)=true then _ else _) _ _ s
 rw[if_neg (by decide)]
 refine wpAny_bind (sP pl (wpAny_bind (sP pu (wpAny_bind (wpAny_pure ?_)))))
 show wpAny _ _ (match Builtin.Slice.sliceAdjust lo hi 1 (n:Int) with | (lo,hi)=>pure (lo,(1:Int),Builtin.Slice.slicePlaces lo hi 1)) _ _ s
 rw[Hg lo hi n]
 show wpAny _ _ (pure (((sIx n 0 lo:Nat):Int),(1:Int),Builtin.Slice.slicePlaces ((sIx n 0 lo:Nat):Int) ((sIx n n hi:Nat):Int) 1)) _ _ s
 rw[Be]
 exact wpAny_pure h
theorem Bf(xs:Array Value)(i k:Nat):((List.range k).filterMap λ(m:Nat)=>xs[((i:Int)+(m:Int)*1).toNat]?).toArray=((xs.toList.drop i).take k).toArray:=by
 have e:(λ(m:Nat)=>xs[((i:Int)+(m:Int)*1).toNat]?)=λm=>xs[i+m]?:=by
  funext m
  have:((i:Int)+(m:Int)*1).toNat=i+m:=by omega
  rw[this]
 rw[e]
 have:=pick_run xs i k
 rw[List.filterMap_map]at this
 have e2:((λx=>xs[x]?) ∘ λx=>i+x)=λm=>xs[i+m]?:=rfl
 rw[e2]at this
 rw[this]
theorem getItem_tuple_cut{t sl:Addr}{items:Array Value}{vl vu:Value}{lo hi:Option Int}{Q:Value->Shared->Prop}(ht:IsTup s.heap t items)(hs:s.heap.IsSliceOf sl vl vu .none)(pl:IsPart vl lo)(pu:IsPart vu hi)
 (hw : ¬ (sIx items.size 0 lo=0/\sIx items.size items.size hi=items.size))
 (h:Q (.ref s.heap.objs.size) { s with heap:=s.heap.push { cls:=.type "tuple",data:=.seq ((items.toList.drop (sIx items.size 0 lo)).take (sIx items.size items.size hi - sIx items.size 0 lo)).toArray } })
 (hsz:items.size<=sizeLine):wpAny (model prog w) A (getItem (.ref t) (.ref sl)) Q E s:=by
 have htake:sizeOk (.seq ((items.toList.drop (sIx items.size 0 lo)).take (sIx items.size items.size hi - sIx items.size 0 lo)).toArray):=by
  show ((items.toList.drop (sIx items.size 0 lo)).take (sIx items.size items.size hi - sIx items.size 0 lo)).toArray.size<=sizeLine
  rw[List.size_toArray,List.length_take,List.length_drop,Array.length_toList]
  omega
 have hj:sIx items.size items.size hi<=items.size:=zB _ _ (Nat.le_refl _) hi
 obtain⟨os,hos,hcs,hds⟩:=id hs
 have hTs:s.TypeIs (.ref sl) "slice":=⟨os,hos,hcs⟩
 unfold getItem
 try with_reducible refine wpAny_holding ?_
 first | refine wpAny_bind (wpAny_pure ?_) | skip
 refine wpAny_bind (wpAny_sequenceKey ht.typeIs (by decide) ?_)
 refine wpAny_bind (wpAny_callSpecial?_slot (name:=Str.ofString "__getitem__") ht.typeIs PyProof.Rows.slot_tuple_getitem
  (wpAny_call_entry PyProof.Rows.slot_tuple_getitem ht.typeIs entry_tuple_getitem ?_ (args_tuple_getitem _ _)))
 show wpAny _ _ (Builtin.Tuple.tupleItemsOf (.ref t) >>= _) _ _ s
 refine wpAny_bind (tupleItemsOf_ ht ?_)
 refine wpAny_bind (wpAny_typeOf hTs ?_)
 rw[if_pos (by decide)]
 refine wpAny_bind (sR hs pl pu ?_)
 have hno : ¬ ((((sIx items.size 0 lo:Nat):Int) == 0 && (1:Int) == 1 && (sIx items.size items.size hi - sIx items.size 0 lo) == items.size)=true):=by
  intro q
  rw[Bool.and_eq_true,Bool.and_eq_true]at q
  have q1:((sIx items.size 0 lo:Nat):Int)=0:=eq_of_beq q.1.1
  have q2:sIx items.size items.size hi - sIx items.size 0 lo=items.size:=eq_of_beq q.2
  exact hw ⟨by omega,by omega⟩
 show wpAny _ _ (if (((sIx items.size 0 lo:Nat):Int) == 0 && (1:Int) == 1 && (sIx items.size items.size hi - sIx items.size 0 lo) == items.size)=true then _ else _) _ _ s
 rw[if_neg hno,Bf]
 first
  | exact wpAny_bind (m:=Builtin.Tuple.tupleExact _) (wpAny_newObj_type (wpAny_pure ⟨_,rfl,wpAny_pure h⟩) htake)
  | exact wpAny_bind (m:=Builtin.Tuple.tupleExact _) (wpAny_newObj_type (wpAny_bind (wpAny_pure (wpAny_pure ⟨_,rfl,wpAny_pure h⟩))) htake)
  | exact wpAny_bind (wpAny_bind (m:=Builtin.Tuple.tupleExact _) (wpAny_newObj_type (wpAny_pure (wpAny_pure ⟨_,rfl,wpAny_pure h⟩)) htake))
  | exact wpAny_bind (wpAny_bind (m:=Builtin.Tuple.tupleExact _) (wpAny_newObj_type (wpAny_pure ⟨_,rfl,wpAny_pure h⟩) htake))
end
end HT
namespace L2
open PySem PySem.Spec PyProof.Rows
abbrev TO:=St->Hp->(Option Int->Hp->Prop)->Prop
def PO(X:Cx)(e:Option Expr)(t:TO):Prop :=
 ∀ (pins:List (Addr × Obj)) (s:Shared) (σ:St) (H:Hp) (Q:Option Int->Hp->Prop),ad X pins σ H s->t σ H Q ->
  wpAny (model X.prog X.w) X.A (evalPart e X.env) (λu s'=>∃ o H',ad X pins σ H' s'/\IsPart u o/\Q o H') X.xe s
def sd:TO:=λ_ H Q=>Q none H
def rY(t:TE):TO:=λσ H Q=>t σ H λx H1=>∃ i,x=.int i/\Q (some i) H1
section
variable {X:Cx}{e:Expr}{te:TE}{lo hi:Option Expr}{tl th:TO}{pos p2:Pos}
theorem Bd:PO X none sd:=by
 intro pins s σ H Q I h
 rw[evalPart_none]
 exact wpAny_pure ⟨none,H,I,.none,h⟩
theorem Bc(h:PE X e te):PO X (some e) (rY te):=by
 intro pins s σ H Q I hw
 rw[evalPart_some]
 refine aj (h pins s σ H _ I hw) λu s1 ⟨x,H1,I1,r1,q1⟩=>?_
 obtain⟨i,rfl,q⟩:=q1
 obtain⟨t,rfl⟩:=r1
 exact⟨some i,H1,I1,.int i t,q⟩
def gf(X:Cx)(r:V->Option Int->Option Int->Hp->VK->Prop):Prop :=
 ∀ (pins:List (Addr × Obj)) (s:Shared) (σ:St) (H:Hp) (x:V) (v vl vu:Value) (lo hi:Option Int) (sl:Addr) (Q:VK),ad X pins σ H s->aq x v->s.heap.IsSliceOf sl vl vu .none->IsPart vl lo->IsPart vu hi->r x lo hi H Q ->
  ∃ T id,typeLookup (.type T) "__getitem__" = pure (some (.builtin id))/\s.TypeIs v T/\wpAny (model X.prog X.w) X.A (getItem v (.ref sl)) (EP X pins σ Q) X.xe s
def rW(r:V->Option Int->Option Int->Hp->VK->Prop)(te:TE)(tl th:TO):TE:=λσ H Q=>te σ H λx H1=>tl σ H1 λl H2=>th σ H2 λu H3=>r x l u H3 Q
theorem Bu{r:V->Option Int->Option Int->Hp->VK->Prop}(hr:gf X r)(he:PE X e te)(hl:PO X lo tl)(hu:PO X hi th):PE X (.Subscript e (.Slice lo hi none p2) pos) (rW r te tl th):=by
 intro pins s σ H Q I h
 refine Subscript_ (aj (he pins s σ H _ I h) λv s1 ⟨x,H1,I1,r1,q1⟩=>?_)
 refine wpAny_Slice (aj (hl pins s1 σ H1 _ I1 q1) λvl s2 ⟨l,H2,I2,pl,q2⟩=>aj (hu pins s2 σ H2 _ I2 q2) λvu s3 ⟨u,H3,I3,pu,q3⟩=>?_)
 rw[evalPart_none]
 refine wpAny_pure ?_
 have I4:ad X pins σ H3 { s3 with heap:=s3.heap.push { cls:=.type "slice",data:=.fields #[vl,vu,.none] } }:=I3.kept (t':=s3.toks) λb ob q=>Heap.get?_push_of_some _ q
 obtain⟨T,id,hT,ht,hg⟩:=hr pins { s3 with heap:=s3.heap.push { cls:=.type "slice",data:=.fields #[vl,vu,.none] } } σ H3 x v vl vu l u s3.heap.objs.size Q I4 r1 (Heap.IsSliceOf.new ..) pl pu q3
 show wpAny (model X.prog X.w) X.A (subscriptTail e (.Slice lo hi none p2) v (.ref s3.heap.objs.size)) (EP X pins σ Q) X.xe { s3 with heap:=s3.heap.push { cls:=.type "slice",data:=.fields #[vl,vu,.none] } }
 exact tail_any (ops:=[.ref s3.heap.objs.size,v]) ht hT hg (by with_unfolding_all rfl)
def cy(xs:List V)(lo hi:Option Int):List V:=(xs.drop (HT.sIx xs.length 0 lo)).take (HT.sIx xs.length xs.length hi - HT.sIx xs.length 0 lo)
theorem ww(xs:List V)(lo hi:Option Int):(cy xs lo hi).length<=xs.length:=by
 unfold cy
 rw[List.length_take,List.length_drop]
 omega
def zN(K:W.Frag):V->Option Int->Option Int->Hp->VK->Prop:=λx lo hi H Q=>∃ a xs,x=.ref a/\bT K H a xs /\
 ¬ (HT.sIx xs.length 0 lo=0/\HT.sIx xs.length xs.length hi=xs.length)/\∀ p,H p=none->Q (.ref p) (upd H p (.tup (cy xs lo hi)))
theorem zb:gf X (zN X.K):=by
 intro pins s σ H x v vl vu lo hi sl Q I rx hs pl pu h
 obtain⟨a,xs,rfl,hx,hw,q⟩:=h
 cases rx
 obtain⟨its,r,ht,hz⟩:=I.tuple hx
 have hlen:its.toArray.size=xs.length:=by rw[List.size_toArray]; exact r.length.symm
 refine⟨"tuple",_,PyProof.Rows.slot_tuple_getitem.lookup,ht.typeIs,?_⟩
 refine HT.getItem_tuple_cut ht hs pl pu (by rw[hlen]; exact hw) ?_ (by rw[hlen]; exact hz)
 rw[hlen]
 refine⟨.ref s.heap.objs.size,_,I.laid (t':=s.toks) (o:=.tup (cy xs lo hi)) (λb ob q=>Heap.get?_push_of_some _ q) (Nat.le_refl _) ?_,rfl,q _ (I.hok.fresh (Nat.le_refl _))⟩
 exact⟨Nat.le_trans (ww xs lo hi) hz,_,(r.drop (HT.sIx xs.length 0 lo)).take (HT.sIx xs.length xs.length hi - HT.sIx xs.length 0 lo),IsTup.new _ _⟩
def zX(K:W.Frag):R2:=λx y H Q=>∃ a b xs ys,x=.ref a/\y=.ref b/\bT K H a xs/\bT K H b ys/\xs≠[]/\xs.length+ys.length<=sizeLine /\
 (ys=[]->Q (.ref a) H)/\(ys≠[]->∀ p,H p=none->Q (.ref p) (upd H p (.tup (xs++ys))))
theorem ar.nil_iff{xs:List V}{us:List Value}(r:ar xs us):us=[] ↔ xs=[]:=by
 cases r with
 | nil=>simp
 | cons _ _=>simp
theorem B3:aA X (binaryOp .Add) (zX X.K):=by
 intro pins s σ H x y v u Q I rx ry h
 obtain⟨a,b,xs,ys,rfl,rfl,ha,hb,hx,hz,q1,q2⟩:=h
 cases rx
 cases ry
 obtain⟨its,r1,p1,_⟩:=I.tuple ha
 obtain⟨its2,r2,p2,_⟩:=I.tuple hb
 refine HT.cat_tup p1 p2 (λz=>hx (r1.nil_iff.mp z)) (λz=>⟨.ref a,H,I,rfl,q1 (r2.nil_iff.mp z)⟩) (λz=>?_) (by rw[<- r1.length,<- r2.length]; exact hz)
 refine⟨.ref s.heap.objs.size,_,I.laid (t':=s.toks) (o:=.tup (xs++ys)) (λb ob q=>Heap.get?_push_of_some _ q) (Nat.le_refl _) ?_,rfl,q2 (λw=>z (r2.nil_iff.mpr w)) _ (I.hok.fresh (Nat.le_refl _))⟩
 exact⟨by rw[List.length_append]; exact hz,_,r1.append r2,IsTup.new _ _⟩
end
def fW(n:Nat)(i:Int):Option Nat:=if 0<=i then (if i < n then some i.toNat else none) else if -(n:Int)<=i then some (i+n).toNat else none
def eX{α:Type}(xs:List α)(i:Int):Option α:=(fW xs.length i).bind λj=>xs[j]?
theorem Dg{n:Nat}{i:Int}{j:Nat}(h:fW n i=some j):seqIndex? i n=some j/\j < n/\-(n:Int)<=i/\i < n:=by
 unfold fW at h
 by_cases h0:0<=i
 ·rw[if_pos h0]at h
  by_cases h1:i < n
  ·rw[if_pos h1]at h
   have e:i.toNat=j:=Option.some.inj h
   exact⟨by rw[seqIndex_of h0 h1,e],by omega,by omega,h1⟩
  ·rw[if_neg h1]at h; cases h
 ·rw[if_neg h0]at h
  by_cases h1 : -(n:Int)<=i
  ·rw[if_pos h1]at h
   have e:(i+n).toNat=j:=Option.some.inj h
   exact⟨by rw[seqIndex_neg (by omega) h1,e],by omega,h1,by omega⟩
  ·rw[if_neg h1]at h; cases h
theorem wO{α:Type}{xs:List α}{i:Int}{v:α}(h:eX xs i=some v) : ∃ j,seqIndex? i xs.length=some j/\xs[j]? = some v/\j < xs.length/\-(xs.length:Int)<=i/\i < xs.length:=by
 unfold eX at h
 cases e:fW xs.length i with
 | none=>rw[e]at h; cases h
 | some j =>
  rw[e]at h
  obtain⟨h1,h2,h3,h4⟩:=Dg e
  exact⟨j,h1,h,h2,h3,h4⟩
theorem aZ{α:Type}{xs:List α}{j:Nat}{v:α}(h:xs[j]? = some v):eX xs (j:Int)=some v:=by
 have hj:j < xs.length:=(List.getElem?_eq_some_iff.mp h).1
 have e:fW xs.length (j:Int)=some j:=by
  unfold fW
  rw[if_pos (by omega),if_pos (by omega)]; simp
 unfold eX; rw[e]; exact h
def wU(b:Expr):Prop:=∀ o i,subscripted b false o i=operate [o,i] (getItem o i)
def dJ(X:Cx)(r:R2):Prop :=
 ∀ (value slice:Expr) (pins:List (Addr × Obj)) (s:Shared) (σ:St) (H:Hp) (x y:V) (v u:Value) (Q:VK),ad X pins σ H s->aq x v->aq y u->r x y H Q ->
  subscripted slice false v u=operate [v,u] (getItem v u)->wpAny (model X.prog X.w) X.A (subscriptTail value slice v u) (EP X pins σ Q) X.xe s
def eZ(X:Cx)(id:String)(r:V->List V->Hp->VK->Prop):Prop :=
 ∀ (pins:List (Addr × Obj)) (s:Shared) (σ:St) (H:Hp) (x:V) (xs:List V) (v:Value) (us:List Value) (Q:VK),ad X pins σ H s->aq x v->ar xs us->r x xs H Q ->
  wpAny (model X.prog X.w) X.A (call (.builtin id) (v :: us)) (EP X pins σ Q) X.xe s
section
variable {X:Cx}{a b:Expr}{ta tb:TE}{pos:Pos}
theorem dJ.or{r r':R2}(h:dJ X r)(h':dJ X r'):dJ X (λx y H Q=>r x y H Q\/r' x y H Q):=by
 intro value slice pins s σ H x y v u Q I rx ry q hs
 rcases q with q | q
 ·exact h value slice pins s σ H x y v u Q I rx ry q hs
 ·exact h' value slice pins s σ H x y v u Q I rx ry q hs
theorem Bz{r:R2}(hr:dJ X r)(ha:PE X a ta)(hb:PE X b tb)(hs:wU b):PE X (.Subscript a b pos) (fj r ta tb):=by
 intro pins s σ H Q I h
 exact Subscript_ (qw ha hb I h λv u s2 x y H2 I2 rx ry q=>hr a b pins s2 σ H2 x y v u Q I2 rx ry q (hs _ _))
def zT(K:W.Frag):R2:=λx y H Q=>∃ p xs i v,x=.ref p/\y=.int i/\ax K H p xs/\eX xs i=some v/\Q v H
def zS(K:W.Frag):R2:=λx y H Q=>∃ p xs i v,x=.ref p/\y=.int i/\bT K H p xs/\eX xs i=some v/\Q v H
theorem Df:dJ X (zT X.K):=by
 intro value slice pins s σ H x y v u Q I rx ry h hs
 obtain⟨p,xs,i,z,rfl,rfl,hq,he,q⟩:=h
 cases rx
 obtain⟨t,rfl⟩:=ry
 obtain⟨its,r,pl,hz⟩:=I.list hq
 obtain⟨j,h1,h2,h3,h4,h5⟩:=wO he
 obtain⟨w,ew,rw'⟩:=r.get h2
 have hl:=r.length
 have hn:=lO
 have fin:EP X pins σ Q w s:=⟨z,H,I,rw',q⟩
 by_cases h0:0<=i
 ·have hj:i.toNat=j:=by
   rw[seqIndex_of h0 h5]at h1
   exact Option.some.inj h1
  exact item_listR pl.isList h0 (by omega) (by rw[hj]; simpa using ew) fin hs
 ·have hj:(i+(its.toArray.size:Int)).toNat=j:=by
   rw[seqIndex_neg (by omega) h4]at h1
   rw[List.size_toArray,<- hl]
   exact Option.some.inj h1
  exact subscriptTail_builtinR (x:=w) pl.isList.typeIs slot_list_getitem.lookup
   (wpAny_getItem_list_neg (Q:=λr s'=>r=w/\EP X pins σ Q r s') pl.isList (by omega) (by rw[List.size_toArray] <;> omega) (by omega) (by rw[hj]; simpa using ew) ⟨rfl,fin⟩) hs
theorem De:dJ X (zS X.K):=by
 intro value slice pins s σ H x y v u Q I rx ry h hs
 obtain⟨p,xs,i,z,rfl,rfl,hq,he,q⟩:=h
 cases rx
 obtain⟨t,rfl⟩:=ry
 obtain⟨its,r,pl,hz⟩:=I.tuple hq
 obtain⟨j,h1,h2,h3,h4,h5⟩:=wO he
 obtain⟨w,ew,rw'⟩:=r.get h2
 have hl:=r.length
 have hn:=lO
 have fin:EP X pins σ Q w s:=⟨z,H,I,rw',q⟩
 exact subscriptTail_builtinR (x:=w) pl.typeIs slot_tuple_getitem.lookup
  (getItem_tuple (j:=j) (Q:=λr s'=>r=w/\EP X pins σ Q r s') pl (by omega) (by omega) (by rw[List.size_toArray,<- hl]; exact h1) (by simpa using ew) ⟨rfl,fin⟩) hs
theorem y9(lo hi:Option Int)(n:Nat):(sliceBounds lo hi none n).1=((HT.sIx n 0 lo:Nat):Int)/\(sliceBounds lo hi none n).2.1=((HT.sIx n n hi:Nat):Int)/\(sliceBounds lo hi none n).2.2=1:=by
 refine⟨?_,?_,rfl⟩
 ·cases lo with
  | none=>simp[sliceBounds,HT.sIx]
  | some i =>
   simp only [sliceBounds,HT.sIx,Option.getD_none,show (1:Int) > 0 by decide,if_true]
   by_cases h:i < 0
   ·simp only [h,if_true] <;> omega
   ·simp only [h,if_false] <;> omega
 ·cases hi with
  | none=>simp[sliceBounds,HT.sIx]
  | some i =>
   simp only [sliceBounds,HT.sIx,Option.getD_none,show (1:Int) > 0 by decide,if_true]
   by_cases h:i < 0
   ·simp only [h,if_true] <;> omega
   ·simp only [h,if_false] <;> omega
theorem za(its:List Value)(lo hi:Option Int):slicePick its.toArray lo hi none=((its.drop (HT.sIx its.length 0 lo)).take (HT.sIx its.length its.length hi - HT.sIx its.length 0 lo)).toArray:=by
 obtain⟨h1,h2,h3⟩:=y9 lo hi its.toArray.size
 unfold slicePick
 rw[h1,h2,h3]
 simp only [sliceRange_one,pick_run,List.size_toArray] <;> rfl
def zO(K:W.Frag):V->Option Int->Option Int->Hp->VK->Prop:=λx lo hi H Q=>∃ a xs,x=.ref a/\ax K H a xs/\∀ p,H p=none->Q (.ref p) (upd H p (.lst (cy xs lo hi)))
theorem zc:gf X (zO X.K):=by
 intro pins s σ H x v vl vu lo hi sl Q I rx hs pl pu h
 obtain⟨a,xs,rfl,hx,q⟩:=h
 cases rx
 obtain⟨its,r,ht,hz⟩:=I.list hx
 have hlen:=r.length
 refine⟨"list",_,slot_list_getitem.lookup,ht.isList.typeIs,?_⟩
 refine wpAny_getItem_list_slice ht.isList hs pl pu .none (by simp) ?_ (by rw[List.size_toArray] <;> omega)
 rw[za,<- hlen]
 refine⟨.ref s.heap.objs.size,_,I.laid (t':=s.toks) (o:=.lst (cy xs lo hi)) (λb ob q=>Heap.get?_push_of_some _ q) (Nat.le_refl _) ?_,rfl,q _ (I.hok.fresh (Nat.le_refl _))⟩
 exact⟨Nat.le_trans (ww xs lo hi) hz,_,0,(r.drop (HT.sIx xs.length 0 lo)).take (HT.sIx xs.length xs.length hi - HT.sIx xs.length 0 lo),Heap.get?_push_size _ rfl⟩
def dZ:V->Bool
 | .non=>true
 | .bl _=>true
 | .int _=>true
 | .str _=>true
 | _=>false
def fF:V->V->Bool
 | .non,.non=>true
 | .bl a,.bl b=>a == b
 | .bl a,.int b=>(if a then 1 else 0) == b
 | .int a,.bl b=>a == (if b then 1 else 0)
 | .int a,.int b=>a == b
 | .str a,.str b=>a == b
 | _,_=>false
theorem Ff{A:Around}{s:Shared}{y x:V}{u v:Value}(ry:aq y u)(rx:aq x v)(fy:dZ y=true)(fx:dZ x=true):SeqAt.EqAt A s u v (fF y x):=by
 cases y with
 | non =>
  cases ry
  cases x with
  | non=>cases rx; exact SeqAt.EqAt.same _
  | bl b=>cases rx; exact SeqAt.EqAt.none_bool b
  | int b=>obtain⟨t,rfl⟩:=rx; exact SeqAt.EqAt.none_int b t
  | str b=>obtain⟨t,rfl⟩:=rx; exact SeqAt.EqAt.none_str b t
  | _=>exact absurd (show false=true from fx) Bool.false_ne_true
 | bl a =>
  cases ry
  cases x with
  | non=>cases rx; exact SeqAt.EqAt.bool_none a
  | bl b=>cases rx; exact SeqAt.EqAt.bool_bool a b
  | int b=>obtain⟨t,rfl⟩:=rx; exact SeqAt.EqAt.bool_int a b t
  | str b=>obtain⟨t,rfl⟩:=rx; exact SeqAt.EqAt.bool_str a b t
  | _=>exact absurd (show false=true from fx) Bool.false_ne_true
 | int a =>
  obtain⟨t',rfl⟩:=ry
  cases x with
  | non=>cases rx; exact SeqAt.EqAt.int_none a t'
  | bl b=>cases rx; exact SeqAt.EqAt.int_bool a t' b
  | int b=>obtain⟨t,rfl⟩:=rx; exact SeqAt.EqAt.int_int a t' b t
  | str b=>obtain⟨t,rfl⟩:=rx; exact SeqAt.EqAt.int_str a t' b t
  | _=>exact absurd (show false=true from fx) Bool.false_ne_true
 | str a =>
  obtain⟨t',rfl⟩:=ry
  cases x with
  | non=>cases rx; exact SeqAt.EqAt.str_none a t'
  | bl b=>cases rx; exact SeqAt.EqAt.str_bool a t' b
  | int b=>obtain⟨t,rfl⟩:=rx; exact SeqAt.EqAt.str_int a t' b t
  | str b=>obtain⟨t,rfl⟩:=rx; exact SeqAt.EqAt.str_str a t' b t
  | _=>exact absurd (show false=true from fx) Bool.false_ne_true
 | _=>exact absurd (show false=true from fy) Bool.false_ne_true
def fG(x:V)(u:Value):Bool:=match u with
 | .none=>fF .non x
 | .bool b=>fF (.bl b) x
 | .int i _=>fF (.int i) x
 | .str z _=>fF (.str z) x
 | _=>false
theorem wc{x y:V}{u:Value}(r:aq y u)(f:dZ y=true):fG x u=fF y x:=by
 cases y with
 | non=>cases r; rfl
 | bl b=>cases r; rfl
 | int i=>obtain⟨t,rfl⟩:=r; rfl
 | str z=>obtain⟨t,rfl⟩:=r; rfl
 | _=>exact absurd (show false=true from f) Bool.false_ne_true
theorem qz{x:V} : ∀ {xs:List V} {us:List Value},ar xs us->xs.all dZ=true->us.any (fG x)=xs.any λy=>fF y x
 | _,_,.nil,_=>rfl
 | y :: xs,u :: us,.cons r t,f=>by
  rw[List.all_cons,Bool.and_eq_true]at f
  rw[List.any_cons,List.any_cons,wc r f.1,qz t f.2]
theorem og{A:Around}{s:Shared}{x:V}{v:Value}(rx:aq x v)(fx:dZ x=true) : ∀ {xs:List V} {us:List Value},ar xs us->xs.all dZ=true->∀ u∈us,SeqAt.EqAt A s u v (fG x u)
 | _,_,.nil,_=>λu hu=>by cases hu
 | y :: xs,u :: us,.cons r t,f=>λu' hu=>by
  rw[List.all_cons,Bool.and_eq_true]at f
  rcases List.mem_cons.mp hu with rfl | hu
  ·rw[wc r f.1]; exact Ff r rx f.1 fx
  ·exact og rx fx t f.2 u' hu
def hV(x:V)(xs:List V):Bool:=xs.any λy=>fF y x
def zU(K:W.Frag)(neg:Bool):R2:=λx y H Q=>∃ p xs,y=.ref p/\(ax K H p xs\/bT K H p xs)/\dZ x=true/\xs.all dZ=true/\Q (.bl (if neg then !hV x xs else hV x xs)) H
theorem B0:aA X (compareOp .In) (zU X.K false):=by
 intro pins s σ H x y v u Q I rx ry h
 obtain⟨p,xs,rfl,hq,fx,fs,q⟩:=h
 cases ry
 rcases hq with hq | hq
 ·obtain⟨its,r,pl,hz⟩:=I.list hq
  refine SeqAt.in_listAt (fG x) pl.isList (λw hw=>og rx fx r fs w (by simpa using hw)) ⟨.bl _,H,I,rfl,?_⟩
  rw[show its.toArray.any (fG x)=its.any (fG x) by simp,qz r fs]
  exact q
 ·obtain⟨its,r,pl,hz⟩:=I.tuple hq
  refine SeqAt.in_tupleAt (fG x) pl (λw hw=>og rx fx r fs w (by simpa using hw)) ⟨.bl _,H,I,rfl,?_⟩
  rw[show its.toArray.any (fG x)=its.any (fG x) by simp,qz r fs]
  exact q
theorem FT:bA X (.builtin "len") (λxs H Q=>∃ p ys,xs=[.ref p]/\(ax X.K H p ys\/bT X.K H p ys)/\Q (.int ys.length) H):=by
 intro pins s σ H xs us Q I r h
 obtain⟨p,ys,rfl,hq,q⟩:=h
 obtain⟨u,rfl,rx⟩:=gx r
 cases rx
 have hn:=lO
 rcases hq with hq | hq
 ·obtain⟨its,r',pl,hz⟩:=I.list hq
  have hlen:=r'.length
  exact Calls.call_len_list pl.isList (by simp only [List.size_toArray] <;> omega) ⟨.int ys.length,H,I.tok _,⟨s.toks+1,by rw[List.size_toArray,hlen]⟩,q⟩
 ·obtain⟨its,r',pl,hz⟩:=I.tuple hq
  have hlen:=r'.length
  exact len_tuple pl (by simp only [List.size_toArray] <;> omega) ⟨.int ys.length,H,I.tok _,⟨s.toks+1,by rw[List.size_toArray,hlen]⟩,q⟩
theorem FS:bA X (.type "list") (λxs H Q=>∃ p ys,xs=[.ref p]/\(ax X.K H p ys\/bT X.K H p ys)/\∀ l,H l=none->Q (.ref l) (upd H l (.lst ys))):=by
 intro pins s σ H xs us Q I r h
 obtain⟨p,ys,rfl,hq,q⟩:=h
 obtain⟨u,rfl,rx⟩:=gx r
 cases rx
 have fin : ∀ (its:List Value),ar ys its->ys.length<=sizeLine->∀ (h':Heap) (c':Nat),(∀ b o',s.heap.get? b=some o'->h'.get? b=some o') ->
  h'.get? s.heap.objs.size=some { cls:=.type "list",dict:=none,data:=.seq its.toArray c',slots:=#[] }->EP X pins σ Q (.ref s.heap.objs.size) { s with heap:=h' }:=λits r' hz h' c' kp e =>
  ⟨.ref s.heap.objs.size,_,I.laid (t':=s.toks) kp (Nat.le_refl _) (show aO X.prog X.w _ h' _ (.lst ys) from ⟨hz,its,c',r',e⟩),rfl,q _ (I.hok.fresh (Nat.le_refl _))⟩
 rcases hq with hq | hq
 ·obtain⟨its,r',pl,hz⟩:=I.list hq
  have hlen:=r'.length
  obtain⟨o,ho,hc,n,hd⟩:=pl.isList
  exact call_list_seq p (.inl rfl) ho hc hd (λh' c' kp e=>fin its r' hz h' c' kp e) (by simp only [List.size_toArray] <;> omega)
 ·obtain⟨its,r',pl,hz⟩:=I.tuple hq
  have hlen:=r'.length
  obtain⟨o,ho,hc,n,hd⟩:=pl
  exact call_list_seq p (.inr rfl) ho hc hd (λh' c' kp e=>fin its r' hz h' c' kp e) (by simp only [List.size_toArray] <;> omega)
theorem FR:bA X (.type "tuple") (λxs H Q=>∃ p ys,xs=[.ref p]/\((ax X.K H p ys/\∀ l,H l=none->Q (.ref l) (upd H l (.tup ys)))\/(bT X.K H p ys/\Q (.ref p) H))):=by
 intro pins s σ H xs us Q I r h
 obtain⟨p,ys,rfl,h⟩:=h
 obtain⟨u,rfl,rx⟩:=gx r
 cases rx
 rcases h with ⟨hq,q⟩ | ⟨hq,q⟩
 ·obtain⟨its,r',pl,hz⟩:=I.list hq
  have hlen:=r'.length
  refine call_tuple_list pl.isList (λh' kp=>?_) (by simp only [List.size_toArray] <;> omega)
  have I1:ad X pins σ H { s with heap:=h' }:=I.kept (t':=s.toks) kp
  have I2:ad X pins σ (upd H h'.objs.size (.tup ys)) { s with heap:=h'.push { cls:=.type "tuple",data:=.seq its.toArray } } :=
   I1.laid (t':=s.toks) (λb o e=>Heap.get?_push_of_some _ e) (Nat.le_refl _) (show aO X.prog X.w _ _ _ (.tup ys) from ⟨hz,its,r',IsTup.new _ _⟩)
  exact⟨.ref h'.objs.size,_,I2,rfl,q _ (I1.hok.fresh (Nat.le_refl _))⟩
 ·obtain⟨its,r',pl,hz⟩:=I.tuple hq
  exact call_tuple_same pl ⟨.ref p,H,I,rfl,q⟩
def mT(K:W.Frag)(T:String)(x:V)(H:Hp):Prop:=match x with
 | .str _=>T = "str"
 | .int _=>T = "int"
 | .ref p=>(T = "list"/\∃ xs,ax K H p xs)\/(T = "tuple"/\∃ o,K.lookup p=some o/\o.cls=.type "tuple"/\o.dict=none) \/
  (T = "dict"/\((∃ kvs,H p=some (.dK kvs))\/∃ kvs,H p=some (.dT kvs)))\/(T = "set"/\∃ S n,H p=some (.set S n))
 | _=>False
theorem rP{pins:List (Addr × Obj)}{σ:St}{H:Hp}{s:Shared}{T:String}{x:V}{v:Value}(I:ad X pins σ H s)(r:aq x v)(ty:mT X.K T x H) :
 s.TypeIs v T/\∀ a,v=.ref a->∃ ob,s.heap.get? a=some ob/\ob.dict=none:=by
 cases x with
 | str z =>
  obtain⟨t,rfl⟩:=r
  cases (show T = "str" from ty)
  exact⟨typeIs_str s z t,λ_ e=>nomatch e⟩
 | int i =>
  obtain⟨t,rfl⟩:=r
  cases (show T = "int" from ty)
  exact⟨typeIs_int s i t,λ_ e=>nomatch e⟩
 | ref p =>
  cases r
  rcases ty with ⟨rfl,xs,hq⟩ | ⟨rfl,o,hk,hc,hd⟩ | ⟨rfl,hk⟩ | ⟨rfl,S,n,hk⟩
  ·obtain⟨its,_,pl,_⟩:=I.list hq
   refine⟨pl.isList.typeIs,λa e=>?_⟩
   cases e
   obtain⟨o,n,e,c,hd,_⟩:=pl
   exact⟨o,e,hd⟩
  ·refine⟨⟨o,I.kIn p o hk,hc⟩,λa e=>?_⟩
   cases e
   exact⟨o,I.kIn _ o hk,hd⟩
  ·have z : ∃ o,s.heap.get? p=some o/\o.ExactDict:=by
    rcases hk with ⟨kvs,hk⟩ | ⟨kvs,hk⟩
    ·obtain⟨_,_,_,_,o,_,_,e,ex,_⟩:=I.hok p _ hk
     exact⟨o,e,ex⟩
    ·obtain⟨_,_,_,_,o,_,_,e,ex,_⟩:=I.hok p _ hk
     exact⟨o,e,ex⟩
   obtain⟨o,e,ex⟩:=z
   refine⟨⟨o,e,ex.1⟩,λa e2=>?_⟩
   cases e2
   exact⟨o,e,ex.2.1⟩
  ·obtain⟨o,_,_,_,e,ex,_⟩:=I.hok p _ hk
   refine⟨⟨o,e,ex.1⟩,λa e2=>?_⟩
   cases e2
   exact⟨o,e,ex.2.1⟩
 | _=>exact False.elim ty
def m5(K:W.Frag)(T:String)(r:V->List V->Hp->VK->Prop)(to:TE):TE:=λσ H Q=>to σ H λx H1=>mT K T x H1/\r x [] H1 Q
def m7(K:W.Frag)(T:String)(r:V->List V->Hp->VK->Prop)(to:TE)(t:TA):TE:=λσ H Q=>to σ H λx H1=>mT K T x H1/\t σ H1 λxs H2=>r x xs H2 Q
variable {o e:Expr}{es:List Expr}{to:TE}{t:TA}{name:Str}{apos cpos:Pos}{T id:String}{r:V->List V->Hp->VK->Prop}
theorem BN (pa:PlainAttrs T) (slot:Slot T name id) (hty:typeOf (.builtin id)=pure (.type "method_descriptor")) (hm:eZ X id r) (ho:PE X o to)
 (hbase:attributeBase o name X.env (eval o X.env)=eval o X.env:=by rfl) (hline:(apos.endLine == cpos.line)=true:=by rfl):PE X (.Call (.Attribute o name apos) [] [] cpos) (m5 X.K T r to):=by
 intro pins s σ H Q I h
 refine wpAny_Call_method0_late hbase hline (aj (ho pins s σ H _ I h) λv s1 ⟨x,H1,I1,r1,ty,q1⟩=>?_)
 obtain⟨h1,h2⟩:=rP I1 r1 ty
 exact⟨T,id,pa,slot,hty,h1,h2,Calls.callWith_builtin rfl (PySem.evalArgs_none (hm pins s1 σ H1 x [] v [] Q I1 r1 .nil q1))⟩
theorem BO (pa:PlainAttrs T) (slot:Slot T name id) (hty:typeOf (.builtin id)=pure (.type "method_descriptor")) (hm:eZ X id r) (ho:PE X o to) (ha:PA X (e :: es) t)
 (hbase:attributeBase o name X.env (eval o X.env)=eval o X.env:=by rfl)
 (hfew:((backTo cpos (starEach (e :: es) X.env)).all (λx=>!x.1) && (backToKw cpos (keywordEach [] X.env)).all (λx=>x.1.isSome)
   && decide ((e :: es).length+([]:List Keyword).length+(if ([]:List Keyword).isEmpty then 0 else 1) < 30))=true:=by rfl)
 (hline:(apos.endLine == cpos.line)=true:=by rfl) (hs:starEach (e :: es) X.env=(false,eval e X.env) :: starEach es X.env:=by rfl) (hplain:(backTo cpos (starEach es X.env)).any (·.1)=false:=by rfl) :
 PE X (.Call (.Attribute o name apos) (e :: es) [] cpos) (m7 X.K T r to t):=by
 intro pins s σ H Q I h
 refine wpAny_Call_method_late hbase hfew hline rfl (aj (ho pins s σ H _ I h) λv s1 ⟨x,H1,I1,r1,ty,q1⟩=>?_)
 obtain⟨h1,h2⟩:=rP I1 r1 ty
 refine⟨T,id,pa,slot,hty,h1,h2,?_⟩
 have hA:=ha cpos pins s1 σ H1 _ I1 q1
 rw[hs]at hA ⊢
 refine Calls.callWith_builtin (by show (false || (backTo cpos (starEach es X.env)).any (·.1))=false; rw[hplain] <;> rfl) (Calls.evalArgs_plain ?_)
 exact aj hA λus s2 ⟨vs,H2,I2,r2,q2⟩=>hm pins s2 σ H2 x vs v us Q I2 r1 r2 q2
/- xs.append(e),list.index on a module's tuple .. are eZ facts of 06m -/
end
def rD(X:Cx)(id:String)(r:V->List V->Hp->VK->Prop):Prop :=
 ∀ (pins:List (Addr × Obj)) (s:Shared) (σ:St) (H:Hp) (x:V) (xs:List V) (v:Value) (us:List Value) (Q:VK),ad X pins σ H s->aq x v->ar xs us->r x xs H Q ->
  wpAny (model X.prog X.w) X.A (call (.builtin id) (v :: us)) (EP X pins σ Q) X.xe s
theorem ar.one : ∀ {x:V} {us:List Value},ar [x] us->∃ u,us=[u]/\aq x u
 | _,_,.cons r .nil=>⟨_,rfl,r⟩
theorem ar.zero : ∀ {us:List Value},ar [] us->us=[]
 | _,.nil=>rfl
theorem ar.dropLast{xs:List V}{us:List Value}(h:ar xs us):ar xs.dropLast us.dropLast:=by
 induction h with
 | nil=>exact .nil
 | cons r t ih =>
  cases t with
  | nil=>exact .nil
  | cons q t'=>exact .cons r ih
theorem ar.rep{xs:List V}{us:List Value}(h:ar xs us) : ∀ k:Nat,ar (List.replicate k xs).flatten (List.replicate k us).flatten
 | 0=>.nil
 | k+1=>by
  rw[List.replicate_succ,List.replicate_succ,List.flatten_cons,List.flatten_cons]
  exact ar.append h (ar.rep h k)
theorem Fe{α:Type}(l:List α):l.eraseIdx (l.length - 1)=l.dropLast:=by
 induction l with
 | nil=>rfl
 | cons a r ih =>
  cases r with
  | nil=>rfl
  | cons b r =>
   have e:(a :: b :: r).length - 1=((b :: r).length - 1)+1:=by
    have h1:(a :: b :: r).length=r.length+2:=rfl
    have h2:(b :: r).length=r.length+1:=rfl
    omega
   rw[e,List.eraseIdx_cons_succ,ih]
   all_goals rfl
theorem vX(its:List Value) : ∀ (k:Nat) (acc:List Value),
 List.foldl (λx1 x2=>x1++x2) acc.toArray (List.replicate k its.toArray)=(acc++(List.replicate k its).flatten).toArray
 | 0,acc=>by simp
 | k+1,acc=>by
  have e:acc.toArray++its.toArray=(acc++its).toArray:=by simp
  have e2:(acc++its)++(List.replicate k its).flatten=acc++(List.replicate (k+1) its).flatten:=by
   rw[List.replicate_succ,List.flatten_cons,List.append_assoc]
  rw[<- e2,<- vX its k (acc++its),<- e,List.replicate_succ,List.foldl_cons]
section
variable {X:Cx}{pins:List (Addr × Obj)}{σ:St}{H:Hp}{s:Shared}{l b:Addr}{xs ys zs:List V}
theorem ad.lset{its its':List Value}{n:Nat}{f:Array Value->Array Value}{t':Nat}(I:ad X pins σ H s)(hH:H l=some (.lst xs))
 (e:s.heap.get? l=some { cls:=.type "list",data:=.seq its.toArray n }) (hf:f its.toArray=its'.toArray) (hv:ar ys its') (hz:ys.length<=sizeLine) :
 ad X pins σ (upd H l (.lst ys)) { s with heap:=s.heap.update l (Obj.mapSeq f),toks:=t' }:=by
 have q:=PySem.IsL.update e f
 rw[hf]at q
 refine I.write (x:=l) (e:=l) (by rw[hH]; exact trivial) (.inl rfl) (λb' u hb hu=>(Heap.get?_update_other s.heap (Obj.mapSeq f) (Ne.symm hb)).trans hu) ⟨_,q⟩ ?_
 exact⟨hz,its',_,hv,q⟩
theorem ad.lnew{its:List Value}{t':Nat}(I:ad X pins σ H s)(hv:ar ys its)(hz:ys.length<=sizeLine) :
 ad X pins σ (upd H s.heap.objs.size (.lst ys)) { s with heap:=s.heap.push { cls:=.type "list",data:=.seq its.toArray },toks:=t' } :=
 I.laid (λ_ _ q=>Heap.get?_push_of_some _ q) (Nat.le_refl _) ⟨hz,its,0,hv,Heap.get?_push_size _ rfl⟩
theorem ad.fresh(I:ad X pins σ H s):H s.heap.objs.size=none:=I.hok.fresh (Nat.le_refl _)
theorem ad.lstM(I:ad X pins σ H s)(hH:H l=some (.lst xs)):xs.length<=sizeLine/\∃ (its:List Value) (n:Nat),ar xs its/\xs.length=its.length/\s.heap.get? l=some { cls:=.type "list",data:=.seq its.toArray n }:=by
 obtain⟨z,its,n,r,e⟩:=I.hok l _ hH
 exact⟨z,its,n,r,r.length,e⟩
theorem lG{n:Nat}(h:n<=sizeLine):Builtin.List.listTooLong n=false:=by
 unfold Builtin.List.listTooLong
 exact decide_eq_false (by omega)
end
section
variable {X:Cx}
def zY:V->List V->Hp->VK->Prop:=λx vs H Q=>∃ l xs y,x=.ref l/\vs=[y]/\H l=some (.lst xs)/\xs.length < sizeLine/\Q .non (upd H l (.lst (xs++[y])))
theorem Ci:rD X "list.append" zY:=by
 intro pins s σ H x vs v us Q I rx rv h
 obtain⟨l,xs,y,rfl,rfl,hH,hz,q⟩:=h
 cases rx
 obtain⟨u,rfl,ru⟩:=rv.one
 obtain⟨z,its,n,r,hl,e⟩:=I.lstM hH
 refine call_meets F.slot_list_append ⟨_,e,rfl⟩ F.entry_list_append (F.args_list_append_2 _ _) (PySem.list_append l its.toArray n u (by rw[List.size_toArray]; omega)) ⟨e,?_⟩
 refine⟨.non,_,I.lset (its':=its++[u]) hH e (by simp) (r.append (.cons ru .nil)) ?_,rfl,q⟩
 rw[List.length_append,List.length_singleton]
 omega
def zV:V->List V->Hp->VK->Prop:=λx vs H Q=>∃ l b xs zs,x=.ref l/\vs=[.ref b]/\H l=some (.lst xs)/\H b=some (.lst zs)/\xs.length+zs.length<=sizeLine/\Q .non (upd H l (.lst (xs++zs)))
theorem Cf:rD X "list.extend" zV:=by
 intro pins s σ H x vs v us Q I rx rv h
 obtain⟨l,b,xs,zs,rfl,rfl,hH,hB,hz,q⟩:=h
 cases rx
 obtain⟨u,rfl,ru⟩:=rv.one
 cases ru
 obtain⟨z,its,n,r,hl,e⟩:=I.lstM hH
 obtain⟨z2,its2,n2,r2,hl2,e2⟩:=I.lstM hB
 have hsz:its.toArray.size+its2.toArray.size<=sizeLine:=by rw[List.size_toArray,List.size_toArray]; omega
 have hlong : ¬ (!its.toArray.isEmpty && Builtin.List.listTooLong (its.toArray.size+its2.toArray.size))=true:=by
  rw[lG hsz,Bool.and_false]
  exact Bool.false_ne_true
 refine call_meets F.slot_list_extend ⟨_,e,rfl⟩ F.entry_list_extend (F.args_list_extend_2 _ _)
  (AutoSeq1.list_extend_list_list_0 l its.toArray n b its2.toArray n2 hlong (by rw[List.size_toArray]; omega) (by omega)) ⟨e,e2,?_⟩
 refine⟨.non,_,I.lset (its':=its++its2) hH e (by simp) (r.append r2) ?_,rfl,q⟩
 rw[List.length_append]
 omega
def zQ:V->List V->Hp->VK->Prop:=λx vs H Q=>∃ l xs y,x=.ref l/\vs=[]/\H l=some (.lst xs)/\xs[xs.length - 1]? = some y/\Q y (upd H l (.lst xs.dropLast))
theorem Ce:rD X "list.pop" zQ:=by
 intro pins s σ H x vs v us Q I rx rv h
 obtain⟨l,xs,y,rfl,rfl,hH,hy,q⟩:=h
 cases rx
 have hus:=rv.zero
 subst hus
 obtain⟨z,its,n,r,hl,e⟩:=I.lstM hH
 obtain⟨u,hu,ru⟩:=r.get hy
 have hy':its.toArray[its.toArray.size - 1]? = some u:=by
  show its.toArray[its.length - 1]? = some u
  rw[<- Array.getElem?_toList,<- hl]
  exact hu
 refine call_meets F.slot_list_pop ⟨_,e,rfl⟩ F.entry_list_pop (F.args_list_pop_1 _) (MeetsSeq.list_pop_last l its.toArray n u hy' (by rw[List.size_toArray]; omega)) ⟨e,?_⟩
 refine⟨y,_,I.lset (its':=its.dropLast) hH e ?_ r.dropLast ?_,ru,q⟩
 ·show its.toArray.eraseIdxIfInBounds (its.toArray.size - 1)=its.dropLast.toArray
  rw[List.size_toArray,List.eraseIdxIfInBounds_toArray,Fe]
 ·rw[List.length_dropLast]
  omega
def zP:R2:=λx y H Q=>∃ l k xs,x=.ref l/\y=.int k/\H l=some (.lst xs)/\-(2 ^ 63)<=k/\k < 2 ^ 63/\xs.length*k.toNat<=sizeLine /\
 ∀ p,H p=none->Q (.ref p) (upd H p (.lst (List.replicate k.toNat xs).flatten))
theorem CY{α:Type}(xs:List α)(k:Nat):(List.replicate k xs).flatten.length=k*xs.length:=by
 induction k with
 | zero=>simp
 | succ k ih=>rw[List.replicate_succ,List.flatten_cons,List.length_append,ih,Nat.succ_mul,Nat.add_comm]
theorem BU:aA X (binaryOp .Mult) zP:=by
 intro pins s σ H x y v u Q I rx ry h
 obtain⟨l,k,xs,rfl,rfl,hH,h1,h2,hz,q⟩:=h
 cases rx
 obtain⟨t,rfl⟩:=ry
 obtain⟨z,its,n,r,hl,e⟩:=I.lstM hH
 have hlen:its.toArray.size*k.toNat<=sizeLine:=by rw[List.size_toArray,<- hl]; exact hz
 have hcap : ¬ its.toArray.size*k.toNat > (2 ^ 63 - 1) / 8:=by
  have:(sizeLine:Nat)<=(2 ^ 63 - 1) / 8:=by decide
  omega
 have hfit : ¬ (!Builtin.List.listFitsIndex k)=true:=by
  rw[fitsIndex_both h1 h2]
  exact Bool.false_ne_true
 have hlong : ¬ Builtin.List.listTooLong (its.toArray.size*k.toNat)=true:=by
  rw[lG hlen]
  exact Bool.false_ne_true
 have hnew:List.foldl (λx1 x2=>x1++x2) #[] (List.replicate (if its.toArray.isEmpty=true then 0 else k.toNat) its.toArray)=(List.replicate k.toNat its).flatten.toArray:=by
  have f0 : ∀ m:Nat,List.foldl (λx1 x2=>x1++x2) #[] (List.replicate m its.toArray)=(List.replicate m its).flatten.toArray:=λm=>by
   have:=vX its m []
   rw[List.nil_append]at this
   exact this
  rw[f0]
  cases its with
  | nil=>simp
  | cons a r'=>rw[if_neg (by simp)]
 refine wpAny_binaryOp_repeat_ref (T := "list") (U := "int") (by decide) ⟨_,e,rfl⟩ (λs'=>typeIs_int s' k t) noFill_list_mul F.fills_int_mul F.slot_int_rmul repeat_list F.slot_int_index.lookup
  (call_meets F.slot_int_rmul (typeIs_int s k t) F.entry_int_rmul (F.args_int_rmul_2 _ _) (int___rmul___int_list k t l its.toArray n)
    ⟨e,rfl,⟨_,e,rfl⟩,call_meets F.slot_list_mul ⟨_,e,rfl⟩ F.entry_list_mul (F.args_list_mul_2 _ _) (AutoListH.list___mul___list_int_3 l its.toArray n k t hfit hcap hlong) ⟨e,?_⟩⟩)
 rw[hnew]
 exact⟨.ref _,_,I.lnew (t':=s.toks) (r.rep k.toNat) (by rw[CY,Nat.mul_comm]; exact hz),rfl,q _ I.fresh⟩
end
section
variable {prog:Program}{w:World}{A:Around}{E:Value->Shared->Prop}{s:Shared}
theorem Gu{a c n:Nat}(hac:a<=c)(hc:c<=n):sliceBounds (some (a:Int)) (some (c:Int)) none n=((a:Int),(c:Int),1):=by
 simp only [sliceBounds,Option.getD_none]
 have h1 : ¬ ((a:Int) < 0):=by omega
 have h2 : ¬ ((c:Int) < 0):=by omega
 simp only [h1,h2,if_false,show (1:Int) > 0 by decide,if_true]
 congr 1
 ·omega
 ·congr 1; omega
set_option maxRecDepth 100000 in
theorem HV{l b sl:Addr}{items new:Array Value}{n n2:Nat}{vl vu:Value}{a c:Nat}{Q:Unit->Shared->Prop}
 (e:s.heap.get? l=some { cls:=.type "list",data:=.seq items n }) (e2:s.heap.get? b=some { cls:=.type "list",data:=.seq new n2 }) (hne:l≠b)
 (hs:s.heap.IsSliceOf sl vl vu .none) (pl:IsPart vl (some (a:Int))) (pu:IsPart vu (some (c:Int))) (hac:a<=c) (hc:c<=items.size)
 (hsz:items.size+new.size<=sizeLine) (h:Q () { s with heap:=s.heap.update l (Obj.mapSeq λxs=>xs.extract 0 a++new++xs.extract c xs.size) }) :
 wpAny (model prog w) A (setItem (.ref l) (.ref sl) (.ref b)) Q E s:=by
 have hl:s.heap.IsList l items:=PySem.IsL.isList e
 have hb:s.heap.IsList b new:=PySem.IsL.isList e2
 obtain⟨os,hos,hcs,hds⟩:=id hs
 have hTs:s.TypeIs (.ref sl) "slice":=⟨os,hos,hcs⟩
 have hstep : ¬ ((rawPart none == rawInt 0)=true):=Bool.false_ne_true
 have hsame:Builtin.List.listSameRef (.ref l) (.ref b)=false:=by
  unfold Builtin.List.listSameRef
  exact beq_eq_false_iff_ne.mpr hne
 have hmax:(max (a:Int) (c:Int)).toNat=c:=by omega
 have hz':((λxs:Array Value=>xs.extract 0 a++new++xs.extract c xs.size) items).size<=sizeLine+1:=by
  simp only [Array.size_append,Array.size_extract]
  omega
 unfold setItem
 try with_reducible refine wpAny_holding ?_
 first | refine wpAny_bind (wpAny_pure ?_) | skip
 refine wpAny_bind (wpAny_sequenceKey hl.typeIs (by decide) ?_)
 refine wpAny_bind (wpAny_callSpecial?_slot (name:=Str.ofString "__setitem__") hl.typeIs slot_list_setitem
  (wpAny_call_entry slot_list_setitem hl.typeIs entry_list_setitem ?_ (args_list_setitem _ _ _)))
 show wpAny _ _ (Builtin.List.listSubscript? (.ref sl) >>= _) _ _ s
 refine wpAny_bind ?_
 unfold Builtin.List.listSubscript?
 refine wpAny_bind (wpAny_specialOf hTs slice_no_index ?_)
 simp only [Option.isNone_none,if_true]
 refine wpAny_pure ?_
 show wpAny _ _ (typeOf (.ref sl) >>= _) _ _ s
 refine wpAny_bind (wpAny_typeOf hTs ?_)
 first
  | rw[if_neg (by decide)]
  | refine W.KFB.if_not (by decide) ?_
 rw[listSliceParts_eq]
 refine wpAny_bind (wpAny_bind (wpAny_field hos hds (x:=.none) rfl (wpAny_bind (wpAny_listPart .none ?_))))
 rw[if_neg hstep]
 refine wpAny_bind (wpAny_field hos hds (x:=vl) rfl (wpAny_bind (wpAny_listPart pl ?_)))
 refine wpAny_bind (wpAny_field hos hds (x:=vu) rfl (wpAny_bind (wpAny_listPart pu (wpAny_pure ?_))))
 first
  | simp only [hsame,Bool.false_eq_true,if_false]
  | refine W.KFB.if_not hsame ?_
  | (dsimp only
     rw[if_neg (by rw[hsame]; exact Bool.false_ne_true)])
 refine wpAny_bind (m:=Builtin.List.listAllItems (.ref b) "must assign iterable to extended slice") ?_
 unfold Builtin.List.listAllItems
 refine wpAny_bind (wpAny_typeOf hb.typeIs ?_)
 first
  | refine W.KFB.if_so (by decide) ?_
  | rw[if_pos (by decide)]
  | simp only [beq_self_eq_true,Bool.true_or,if_true]
 unfold Builtin.List.listItems
 refine wpAny_bind (wpAny_seqItems e2 rfl (wpAny_pure ?_))
 refine wpAny_bind (wpAny_bind (wpAny_seqItems e rfl (wpAny_pure ?_)))
 refine wpAny_bind (wpAny_of_eq ((sliceIndices_raw (some (a:Int)) (some (c:Int)) none items.size (by simp)).trans (congrArg (pure:Int × Int × Int->Sem (Int × Int × Int)) (Gu hac hc))) ?_)
 show wpAny _ _ (if ((1:Int) == 1)=true then _ else _) _ _ s
 rw[if_pos (by decide)]
 refine wpAny_bind (wpAny_rule ?_)
 first
  | simp only [lG hsz,Bool.false_eq_true,if_false]
  | refine W.KFB.if_not (lG hsz) ?_
 first | refine wpAny_bind (wpAny_pure ?_) | skip
 show wpAny _ _ (updateSeq l (λxs=>xs.extract 0 ((a:Int)).toNat++new++xs.extract (max (a:Int) (c:Int)).toNat xs.size) >>= _) _ _ s
 rw[hmax,Int.toNat_natCast]
 refine wpAny_bind (wpAny_updateSeq (hz:=Nat.le_trans (Nat.le_add_right _ _) hsz) (_hz':=hz') e rfl ?_)
 refine wpAny_bind (wpAny_letGo ?_)
 first
  | exact wpAny_bind (wpAny_pure (wpAny_pure ⟨.none,rfl,wpAny_pure h⟩))
  | exact wpAny_pure ⟨.none,rfl,wpAny_pure h⟩
end
end L2
namespace Att
open PySem PySem.W PySem.Calls PyProof.Rows
theorem Dm{P:Params}{h:Heap} : ∀ (ns:List Int) (vs:List Value),WellAll P h vs (ns.map WData.int)->IntsAre vs ns:=by
 intro ns
 induction ns with
 | nil =>
  intro vs w
  rw[List.map_nil]at w
  cases w
  exact .nil
 | cons n ns ih =>
  intro vs w
  rw[List.map_cons]at w
  cases w with
  | cons a b =>
   cases a
   exact .cons _ _ (ih _ b)
theorem zh{l:OpenLaw}{n:Nat}(hn:l.most=some n){P:Params}{h:Heap}{args:List WData}{vals:List Value}
 (hpre:l.row.toRowW.claim.pre args=true) (hwl:WellAll P h vals args) :
 ∃ a vs ns,vals=[Value.ref a]/\args=[WData.list (ns.map WData.int)]/\h.get? a=some { cls:=.type "list",data:=.seq vs.toArray }/\IntsAre vs ns/\ns.length<=n:=by
 have hsh:WShape.hasAll [] args [.list .int]=true:=(pre_splitW hpre).1
 have hc:l.pre.holds [] { args:=args }=true:=(pre_splitW hpre).2
 obtain⟨d,r,rfl,h1,h2⟩:=hasAllW_cons hsh
 obtain rfl:=hasAllW_nil h2
 obtain⟨xs,rfl,h3⟩:=hasW_list h1
 obtain⟨ns,rfl⟩:=items_int h3
 have hlen:ns.length<=n:=by
  unfold OpenLaw.pre at hc
  have h4:(WTm.not (.lt (.lit (.int (n:Int))) (.len (.arg 0)))).holds [] { args:=[.list (ns.map .int)] }=true:=by
   have h4:=(holds_andW hc).1
   rw[hn]at h4
   exact h4
  have h5:=condW_of h4 (w_not (w_lt w_lit (w_len_list (w_arg rfl))))
  rw[List.length_map]at h5
  refine Nat.le_of_not_lt λq=>?_
  have q':(n:Int) < ((ns.length:Nat):Int):=by omega
  first
   | (rw[decide_eq_true q']at h5; exact absurd h5 (by decide))
   | (simp at h5; omega)
 cases hwl with
 | cons w1 w2 =>
  cases w2
  cases w1 with
  | list ho hall=>exact⟨_,_,ns,rfl,rfl,ho,Dm ns _ hall,hlen⟩
theorem Bb(l:OpenLaw)(args:List WData):l.row.toRowW.claim.post args (.bool true) args=true :=
 postW_of (r:=l.row.toRowW) (X:=(true == true))
  (show WShape.has [] (.bool true) .bool=true by first | rfl | decide | simp[WShape.has,WShape.arms,WShape.armsAll])
  (show (WTm.eq .res (.lit (.bool true))).value [] { args:=args,res:=some (.bool true),after:=args }=some (.bool (true == true)) from w_eq_bool (w_res rfl) w_lit) rfl
theorem attach_call{l:OpenLaw}{n:Nat}{q:Program}{loose:List Str}{XP:(Str->Option Value)->Heap->Prop}{YP:World->Heap->Prop}{d:DefRec}
 (hn:l.most=some n) (hdf:d.params.defaults=[])
 (call : ∀ (w:World) (s₀ s₁:Shared) (mg mb:Str->Option Value) (fa:Addr) (o:Obj) (pm cd doc:Value) (a:Addr) (vs:List Value) (ns:List Int),
   Ground q loose [] XP w s₀ mg mb s₁.heap->YP w s₁.heap ->
   s₁.heap.get? fa=some o->o.data=.func (docDef d.name d.params d.body d.scope pm cd doc)->s₁.heap.CodeRec cd d.name->mg d.name=some (.ref fa) ->
   s₁.heap.get? a=some { cls:=.type "list",data:=.seq vs.toArray }->IntsAre vs ns->ns.length<=n->s₁.gens = #[] ->
   codeAny (model l.prog w) callerA (.call (.ref fa) ⟨[.ref a],[]⟩) (λr s'=>r=.ok (.ret (.bool true))/\OldK s₁.heap s'.heap/\s'.os=s₁.os/\AllBare s'.gens) s₁) :
 WalkO q loose XP YP l.row.toRowW d [] (λf vs=>PySem.call f vs):=by
 intro w s₀ s₁ mg mb G Y fa o pm cd doc dV kV ho hd hcd hD hmg hg args vals as hpre hlay hrd hwl hlo
 obtain rfl:dV=.none:=Dflts.none hD hdf
 obtain rfl:kV=.none:=Dflts.noKw hD
 obtain⟨a,vs,ns,rfl,rfl,hobj,hints,hlen⟩:=zh hn hpre hwl
 refine enter_call (codeAny_mono (call w s₀ s₁ mg mb fa o pm cd doc a vs ns G Y ho (fd_plain hd) hcd hmg hobj hints hlen hg) λr s' hq=>?_)
 obtain⟨rfl,h2,h3,h4⟩:=hq
 exact⟨.inl ⟨.bool true,.bool true,[],rfl,λ_=>rfl,.bool true,Bb l _,λ_=>⟨List.Pairwise.nil,λ_ hm=>(nomatch hm)⟩⟩,h2,h3,h4⟩
end Att
namespace L2
open PySem PySem.Spec PyProof.Rows
theorem mP : ∀ {vs:List Value} {ns:List Int},IntsAre vs ns->ar (ns.map V.int) vs
 | _,_,.nil=>.nil
 | _,_,.cons n t h=>.cons ⟨t,rfl⟩ (mP h)
def rB(H:Hp):Prop:=∀ b,H b=none\/∃ o xs,H b=some (.frz o (.lst xs))
theorem C1{P:Program}{w:World}{K:W.Frag}{mg mb:Str->Option Value}{CX:du}{k:Nat}{fa a:Addr}{fd:FuncData}{x:Str}{sp:Sp}{s₁:Shared}{vs:List Value}{ns:List Int}
 (KX:K.In s₁.heap) (hns:s₁.heap.Ns mainGlobals mg) (hb:s₁.heap.Ns builtinsNs mb) (hbb : ∀ x:Str,x ≠ "__name__"->mb x=bootBuiltins x) (hlim:s₁.heap.NoLimit) (hg:s₁.gens = #[])
 (ha:s₁.heap.get? a=some { cls:=.type "list",data:=.seq vs.toArray }) (hi:IntsAre vs ns) (hl:ns.length<=sizeLine) (hr:aS k callerA)
 (F : ∀ base:Heap,K.In base->base.Ns mainGlobals mg->bt P w K mg base CX k fa fd [x] sp) (hbind : ∀ (s:Shared) (u:Value),BindsTo s fd ⟨[u],[]⟩ [(x,u)])
 (hsp : ∀ H:Hp,rB H->ax K H a (ns.map V.int)->sp [.ref a] H (λv _=>v=.bl true) λ_ _ _=>False)
 (hCX : ∀ H e s',CX [] H s₁ (λ_ _ _=>False) e s'->False) :
 codeAny (model P w) callerA (.call (.ref fa) ⟨[.ref a],[]⟩) (λr s'=>r=.ok (.ret (.bool true))/\OldK s₁.heap s'.heap/\s'.os=s₁.os/\AllBare s'.gens) s₁:=by
 have rv:=mP hi
 have lenV:=hi.length
 have core : ∀ H:Hp,rB H->ax K H a (ns.map V.int)->aT P w H s₁.heap->(∀ b,H b≠none->b=a)->(H a≠none->K.lookup a=none) ->
  codeAny (model P w) callerA (.call (.ref fa) ⟨[.ref a],[]⟩) (λr s'=>r=.ok (.ret (.bool true))/\OldK s₁.heap s'.heap/\s'.os=s₁.os/\AllBare s'.gens) s₁:=by
  intro H hO hS hok hA hK
  have base_of : ∀ {b:Addr} {o:Obj},s₁.heap.get? b=some o->H b=none->(cU s₁.heap H).get? b=some o:=λe n=>vx e n
  have noA : ∀ {b:Addr} {o:Obj} {es:Array DictEntry} {ep:Nat},s₁.heap.get? b=some o->o.data=.dict es ep->H b=none:=λ{b o es ep} e d=>by
   cases q:H b with
   | none=>rfl
   | some u =>
    have e':b=a:=hA b (by rw[q]; simp)
    subst e'
    rw[ha]at e; cases e
    have d':Data.seq vs.toArray _=Data.dict es ep:=d
    cases d'
  have nsK : ∀ {b:Addr} {m:Str->Option Value},s₁.heap.Ns b m->(cU s₁.heap H).Ns b m:=λ{b m} ⟨o,es,ep,e,d,r⟩=>⟨o,es,ep,base_of e (noA e d),d,r⟩
  have hKb:K.In (cU s₁.heap H):=λb o e=>base_of (KX b o e) (by
   cases q:H b with
   | none=>rfl
   | some u =>
    have e':b=a:=hA b (by rw[q]; simp)
    subst e'
    rw[hK (by rw[q]; simp)]at e; cases e)
  have hM:Mod K mg (cU s₁.heap H):=⟨hKb,nsK hns,⟨mb,nsK hb,hbb⟩,let ⟨mc,h1,h2⟩:=hlim; ⟨mc,nsK h1,h2⟩⟩
  have e0:dM P w K mg (cU s₁.heap H) callerA [] s₁ H:=⟨rfl,hM,λb o e=>uB e,Nat.le_of_eq (vw _ _),trivial,λb hb=>absurd (show b∈([]:List Addr) from hb) (by simp),hok,.of_eq hg⟩
  refine codeAny_mono ((F _ hKb (nsK hns)).run callerA [] s₁ H ⟨[.ref a],[]⟩ [.ref a] [.ref a] _ _ hr e0 (hbind s₁ (.ref a)) (.cons rfl .nil) (hsp H hO hS)) λr s' h=>?_
  cases r with
  | error e=>exact (hCX H e s' h).elim
  | ok fl =>
   cases fl with
   | next=>exact False.elim h
   | brk=>exact False.elim h
   | cont=>exact False.elim h
   | ret u =>
    obtain⟨v,H',os,bare,un,hok',r',q⟩:=h
    have q':v=.bl true:=q
    subst q'
    obtain rfl:u=Value.bool true:=r'
    refine⟨rfl,OldK.of_keep λb o e=>?_,os,bare⟩
    cases q:H b with
    | none=>exact un.keep b o e q (by intro z; exact absurd (show b∈([]:List Addr) from z) (by simp)) (by simp)
    | some u =>
     rcases hO b with z | ⟨ob,xs,z⟩
     ·rw[q]at z; cases z
     ·have z2:=un.frzs b ob _ z
      obtain⟨e1,_⟩:=hok b _ z
      obtain⟨e2,_⟩:=hok' b _ z2
      rw[e]at e1; cases e1
      exact e2
 cases hk:K.lookup a with
 | some o =>
  have e:=KX a o hk
  rw[ha]at e
  cases e
  refine core (λ_=>none) (λ_=>.inl rfl) (.inr ⟨_,vs.toArray,_,hk,rfl,rfl,rfl,by rw[List.size_toArray,lenV]; exact hl,by simpa using rv⟩) (λb u z=>by have z':(none:Option HO)=some u:=z; cases z') (λb z=>absurd rfl z) λz=>absurd rfl z
 | none =>
  refine core (λb=>if b=a then some (.frz { cls:=.type "list",data:=.seq vs.toArray } (.lst (ns.map V.int))) else none) (λb=>?_) (.inl (.inr ⟨{ cls:=.type "list",data:=.seq vs.toArray },if_pos rfl⟩)) (λb u z=>?_) (λb z=>?_) λ_=>hk
  ·by_cases hb:b=a
   ·exact .inr ⟨_,_,if_pos hb⟩
   ·exact .inl (if_neg hb)
  ·by_cases hb:b=a
   ·have z':=(if_pos hb).symm.trans z
    cases z'
    subst hb
    exact⟨ha,by rw[List.length_map]; exact hl,vs,_,rv,ha⟩
   ·have z':=(if_neg hb).symm.trans z
    cases z'
  ·by_cases hb:b=a
   ·exact hb
   ·exact absurd (if_neg hb) z
abbrev KOf{K:W.Frag}{h:Heap}(_:K.In h):W.Frag:=K
theorem walk_of{l:W.OpenLaw}{n k:Nat}{q:Program}{loose:List Str}{XP:(Str->Option Value)->Heap->Prop}{YP:World->Heap->Prop}{d:DefRec}{K:Params->W.Frag}{CX:World->du}{sp:World->Sp}{x:Str}
 (hn:l.most=some n) (hn2:n<=sizeLine) (hdf:d.params.defaults=[]) (hr:aS k callerA)
 (hY : ∀ (w:World) (h:Heap),YP w h->(K w.params).In h)
 (F : ∀ (w:World) (mg:Str->Option Value) (fa:Addr) (h:Heap),(K w.params).In h->h.Ns mainGlobals mg->mg d.name=some (.ref fa) ->
   ∃ fd:FuncData,(∀ (s:Shared) (u:Value),BindsTo s fd ⟨[u],[]⟩ [(x,u)]) /\
    ∀ base:Heap,(K w.params).In base->base.Ns mainGlobals mg->bt l.prog w (K w.params) mg base (CX w) k fa fd [x] (sp w))
 (hsp : ∀ (w:World) (H:Hp) (a:Addr) (ns:List Int),ns.length<=n->rB H->ax (K w.params) H a (ns.map V.int)->sp w [.ref a] H (λv _=>v=.bl true) λ_ _ _=>False)
 (hCX : ∀ (w:World) (H:Hp) (s:Shared) (e:Value) (s':Shared),CX w [] H s (λ_ _ _=>False) e s'->False) :
 W.WalkO q loose XP YP l.row.toRowW d [] (λf vs=>PySem.call f vs):=by
 refine Att.attach_call hn hdf λw s₀ s₁ mg mb fa o pm cd doc a vs ns G Y ho hd hcd hmg hobj hints hlen hg=>?_
 have KX:=hY w _ Y
 obtain⟨fd,hb,hF⟩:=F w mg fa _ KX G.T.g hmg
 exact C1 KX G.T.g G.T.b G.T.builtins G.T.nolimit hg hobj hints (Nat.le_trans hlen hn2) hr hF hb (λH hO hS=>hsp w H a ns hlen hO hS) λH e s'=>hCX w H s₁ e s'
end L2
/- THE LAST THEOREM (shape; LID,My.* are yours):
 My.Adr: a structure of the addresses that your layer names (classes,functions); My.Txt K t: a structure (Prop) of the equations over K;
 My.txt_mk : {K} {implicit addresses ..} (e1:nsIn K mainGlobals "law" = some (some (.ref f))) (e2:K.lookup f=some ⟨oc,od,.func (fnOf "law" "law" params body scope dV kV doc pm an cdv ct),sl⟩) (e3:codeIn K cdv "law" = true) .. : ∃ t,My.Txt K t
set_option maxRecDepth 100000 in
set_option maxHeartbeats 0 in
theorem PySem.Challenge.cw_LID_holds : PySem.Challenge.rw_LID.Holds := by
 w_on; o_law; k_head; (case hw=>w_witness2)
 k_fill
 refine L2.walk_of (l:=PySem.Challenge.rw_LID) (n:=63) (k:=40) (x := "script") (CX:=λw=>..) (sp:=λ_=>My.m9) rfl (by decide) rfl ⟨rfl,by decide,by decide⟩ (λw h Y=>W.kIn_of Y) ?F ?S ?C
 case F =>
  intro w mg fa h KX G hmg
  have T : ∃ t,My.Txt (L2.KOf KX) t:=by
   dsimp only [L2.KOf]                          -- K must stand as «<heap const> w.params» for k_is
   refine' My.txt_mk ?e1 ?e2 ?e3 ..
   (case e1=>W.k_is)                    -- in the order: a name->its address->its object->its parts
   (case e2=>W.k_is)
   ..
  obtain⟨t,T⟩:=T
  have e0:=hmg.symm.trans (W.mg_of KX G T.law)
  cases e0                                       -- fa is the law's own address
  exact⟨_,λs u=>.of_eq rfl,λbase kb nb=>My.law_fn T kb nb⟩     -- if «.of_eq rfl» comes too early: refine' ⟨_,?b,λbase kb nb=>My.law_fn T kb nb⟩; exact λs u=>.of_eq rfl
 case S=>exact λw H a ns hl hO hS=>..
 case C=>exact ..
(the tactic k_is has no namespace: write k_is) -/
namespace L2
open PySem PySem.Spec PyProof.Rows
def fY(s:Stmt)(j:Nat):Stmt:=match s with
 | .ClassDef _ _ _ body _ _ _ _ _ _ _=>body.getD j (.Pass ⟨0,0,0,0⟩)
 | _=>.Pass ⟨0,0,0,0⟩
def aI(s:Stmt):Arguments:=match s with
 | .FunctionDef _ a _ _ _ _ _ _ _ _=>a
 | _=>{ posonlyargs:=[],args:=[],vararg:=none,kwonlyargs:=[],kw_defaults:=[],kwarg:=none,defaults:=[] }
def aC(s:Stmt):List Stmt:=match s with
 | .FunctionDef _ _ b _ _ _ _ _ _ _=>b
 | _=>[]
def am(s:Stmt):Scope:=match s with
 | .FunctionDef _ _ _ _ _ _ sc _ _ _=>sc
 | _=>{ kind:=.function,names:=[],isGenerator:=false,isCoroutine:=false }
abbrev bI:du:=λ_ _ _ _ _ _=>False
abbrev E0:XK:=λ_ _ _=>False
theorem BQ{X:Cx}:gj bI X E0:=λ_ _ _ _ _ _ _ h=>h.elim
structure aU (K:W.Frag) (x qual:Str) (st:Stmt) (f:Addr) (fd:FuncData):Prop where
 ex : ∃ (oc:Value) (od:Option Addr) (kV doc pm:Value) (an:Option Addr) (cdv ct:Value) (osl:Array (Option Value)),
  fd=W.fnOf x qual (aI st) (aC st) (am st) .none kV doc pm an cdv ct/\K.lookup f=some ⟨oc,od,.func fd,osl⟩/\W.codeIn K cdv qual=true
 kp:W.keepIn K (.ref f)=true
section
variable {P:Program}{w:World}{K:W.Frag}{mg:Str->Option Value}{base:Heap}
theorem aU.ok{x qual:Str}{st:Stmt}{f:Addr}{fd:FuncData}{N ps:List Str}{k:Nat}{sp:Sp}(F:aU K x qual st f fd)(S:aQ N ps (am st))(len : ∀ vs H Q E,sp vs H Q E->vs.length=ps.length)
 (hbody : ∀ (cdv:Value) (A:Around) (outer:List Env) (s:Shared) (H:Hp) (vs:List V) (Q:VK) (E:XK),aS k (A.deeper (envOfC qual (am st) s.heap.objs.size f cdv))->sp vs H Q E ->
   ∃ t,dk (fH bI P w K mg base N qual (am st) f cdv A outer s H E).nox (aC st) t/\t { nx:=λ_ H'=>Q .non H',rt:=Q } (dX N vs) H):bt P w K mg base bI (k+1) f fd ps sp:=by
 obtain⟨oc,od,kV,doc,pm,an,cdv,ct,osl,rfl,lk,hcd⟩:=F.ex
 refine oW lk hcd S len λA outer s H vs Q E hr hsp=>?_
 obtain⟨t,h,q⟩:=hbody cdv A outer s H vs Q E hr hsp
 exact⟨t,h.nox,q⟩
theorem aU.binds{x qual:Str}{st:Stmt}{f:Addr}{fd:FuncData}{ps:List Str}(F:aU K x qual st f fd)
 (h : ∀ (kV doc pm:Value) (an:Option Addr) (cdv ct:Value) (us:List Value),us.length=ps.length->bindArgs (W.fnOf x qual (aI st) (aC st) (am st) .none kV doc pm an cdv ct) ⟨us,[]⟩=pure (ps.zip us)):ay K fd ps []:=by
 obtain⟨oc,od,kV,doc,pm,an,cdv,ct,osl,rfl,lk,hcd⟩:=F.ex
 exact .all (h kV doc pm an cdv ct)
theorem bb{x qual:Str}{st:Stmt}{f:Addr}{oc:Value}{od an:Option Addr}{osl:Array (Option Value)}{kV doc pm cdv ct:Value}(l:K.lookup f=some ⟨oc,od,.func (W.fnOf x qual (aI st) (aC st) (am st) .none kV doc pm an cdv ct),osl⟩)
 (c:W.codeIn K cdv qual=true) (k:W.keepIn K (.ref f)=true):aU K x qual st f (W.fnOf x qual (aI st) (aC st) (am st) .none kV doc pm an cdv ct):=⟨⟨oc,od,kV,doc,pm,an,cdv,ct,osl,rfl,l,c⟩,k⟩
end
theorem Dh{A B:Prop}(h:B):if false=true then A else B:=by
 rw[if_neg Bool.false_ne_true]
 exact h
theorem fX{A B:Prop}(h:A):if true=true then A else B:=by
 rw[if_pos rfl]
 exact h
theorem aF{c A B:Prop}[Decidable c](h1:c->A)(h2 : ¬ c->B):if c then A else B:=by
 by_cases h:c
 ·rw[if_pos h]
  exact h1 h
 ·rw[if_neg h]
  exact h2 h
def ag(H H':Hp):Prop:=∀ b o,H b=some o->H' b=some o
theorem ag.refl(H:Hp):ag H H:=λ_ _ h=>h
theorem ag.trans{H H1 H2:Hp}(a:ag H H1)(b:ag H1 H2):ag H H2:=λc o h=>b c o (a c o h)
theorem ag.free{H H':Hp}(e:ag H H'){l:Addr}(h:H' l=Option.none):H l=Option.none:=by
 cases q:H l with
 | none=>rfl
 | some o =>
  rw[e l o q]at h
  cases h
theorem ag.seq{K:W.Frag}{H H':Hp}{a:Addr}{xs:List V}(e:ag H H')(h:ax K H a xs):ax K H' a xs:=by
 rcases h with (h | ⟨o,h⟩) | h
 ·exact .inl (.inl (e _ _ h))
 ·exact .inl (.inr ⟨o,e _ _ h⟩)
 ·exact .inr h
end L2
set_option maxHeartbeats 4000000
namespace HT
open PySem PyProof.Rows
end HT
namespace L2
open PySem PySem.Spec PyProof.Rows
theorem PE.imp{X:Cx}{e:Expr}{t t':TE}(h:PE X e t)(k : ∀ σ H Q,t' σ H Q->t σ H Q):PE X e t':=λpins s σ H Q I q=>h pins s σ H Q I (k σ H Q q)
theorem aA.imp{X:Cx}{f:Value->Value->Sem Value}{r r':R2}(h:aA X f r)(k : ∀ x y H Q,r' x y H Q->r x y H Q):aA X f r':=λpins s σ H x y v u Q I rx ry q=>h pins s σ H x y v u Q I rx ry (k x y H Q q)
theorem bA.imp{X:Cx}{f:Value}{r r':List V->Hp->VK->Prop}(h:bA X f r)(k : ∀ xs H Q,r' xs H Q->r xs H Q):bA X f r':=λpins s σ H xs us Q I rs q=>h pins s σ H xs us Q I rs (k xs H Q q)
theorem dJ.imp{X:Cx}{r r':R2}(h:dJ X r)(k : ∀ x y H Q,r' x y H Q->r x y H Q):dJ X r':=λvalue slice pins s σ H x y v u Q I rx ry q hs=>h value slice pins s σ H x y v u Q I rx ry (k x y H Q q) hs
theorem ag.new{H:Hp}{p:Addr}{o:HO}(h:H p=none):ag H (upd H p o):=λb u e=>by rw[ak (br e h)]; exact e
structure aP (H:Hp) (p:Addr) (o:HO) (H':Hp):Prop where
 nw:H p=none
 sm:ag H H'
 at_:H' p=some o
theorem aP.mk'{H:Hp}{p:Addr}{o:HO}(h:H p=none):aP H p o (upd H p o):=⟨h,ag.new h,aN⟩
theorem aP.lst{K:W.Frag}{H H':Hp}{p:Addr}{xs:List V}(g:aP H p (.lst xs) H'):ax K H' p xs:=.of g.at_
theorem aP.tup{K:W.Frag}{H H':Hp}{p:Addr}{xs:List V}(g:aP H p (.tup xs) H'):bT K H' p xs:=.of g.at_
theorem ag.put{H H':Hp}{p:Addr}{o:HO}(s:ag H H')(h:H p=none):ag H (upd H' p o):=λb u e=>by
 rw[ak (br e h)]
 exact s b u e
def mV(i:Nat):TE:=λσ H Q=>match σ[i]? with
 | some (some v)=>Q v H
 | _=>False
theorem vv(i:Nat){X:Cx}{x:Str}{pos:Pos}(hN:X.N[i]? = some x:=by rfl)(hv:ii X.env.scope x:=by first | exact Or.inl rfl | exact Or.inr (Or.inl rfl) | exact Or.inr (Or.inr rfl))(hd:(x == ("__debug__" : Str))=false:=by decide)
 (hcd:(x == ("__classdict__" : Str))=false:=by decide):PE X (.Name x pos) (mV i):=(Br hN hv hd hcd).imp λσ H Q q=>by
 unfold mV at q
 split at q
 ·exact⟨_,by assumption,q⟩
 ·exact q.elim
section
variable {X:Cx}{a b:Expr}{ta tb:TE}{pos:Pos}{rest:List Expr}
def uO(ta tb:TE):TE:=λσ H Q=>ta σ H λx H1=>match x with
 | .bl c=>if c=true then tb σ H1 Q else Q (.bl false) H1
 | _=>False
def uI(ta tb:TE):TE:=λσ H Q=>ta σ H λx H1=>match x with
 | .bl c=>if c=true then Q (.bl true) H1 else tb σ H1 Q
 | _=>False
def uJ(ta:TE):TE:=λσ H Q=>ta σ H λx H1=>match x with
 | .bl c=>Q (.bl (!c)) H1
 | _=>False
theorem CG(ha:PE X a ta)(hb:PE X (.BoolOp .And (b :: rest) pos) tb):PE X (.BoolOp .And (a :: b :: rest) pos) (uO ta tb):=by
 intro pins s σ H Q I h
 refine BoolOp_and (aj (ha pins s σ H _ I h) λv s1 ⟨x,H1,I1,r1,q1⟩=>?_)
 cases x with
 | bl c =>
  cases r1
  refine wpAny_truthy_bool ?_
  cases c with
  | true=>exact hb pins s1 σ H1 Q I1 q1
  | false=>exact⟨.bl false,H1,I1,rfl,q1⟩
 | _=>exact False.elim q1
theorem Cy(ha:PE X a ta)(hb:PE X (.BoolOp .Or (b :: rest) pos) tb):PE X (.BoolOp .Or (a :: b :: rest) pos) (uI ta tb):=by
 intro pins s σ H Q I h
 refine BoolOp_or (aj (ha pins s σ H _ I h) λv s1 ⟨x,H1,I1,r1,q1⟩=>?_)
 cases x with
 | bl c =>
  cases r1
  refine wpAny_truthy_bool ?_
  cases c with
  | false=>exact hb pins s1 σ H1 Q I1 q1
  | true=>exact⟨.bl true,H1,I1,rfl,q1⟩
 | _=>exact False.elim q1
theorem Cz(ha:PE X a ta):PE X (.UnaryOp .Not a pos) (uJ ta):=by
 intro pins s σ H Q I h
 refine UnaryOp_ (aj (ha pins s σ H _ I h) λv s1 ⟨x,H1,I1,r1,q1⟩=>?_)
 cases x with
 | bl c =>
  cases r1
  exact not_of (wpAny_truthy_bool ⟨.bl (!c),H1,I1,rfl,q1⟩)
 | _=>exact False.elim q1
def mB(t:TE):TT:=λσ H Q=>t σ H λx H1=>match x with
 | .bl c=>Q c H1
 | _=>False
theorem Cc{e:Expr}{t:TE}(h:PE X e t)(he : ∀ whole,isTrue e X.env whole=(do let v <- whole; standAt e.pos; holding [v] (truthy v)):=by intro _; rfl):PT X e (mB t):=by
 intro pins s σ H Q I hw
 refine isTrue_plain (aj (h pins s σ H _ I hw) λv s1 ⟨x,H1,I1,r1,q1⟩=>?_) (he _)
 cases x with
 | bl c =>
  cases r1
  exact wpAny_truthy_bool ⟨H1,I1,q1⟩
 | _=>exact False.elim q1
theorem Cg{op:CmpOp}{r:R2}(ho:aA X (compareOp op) r)(ha:PE X a ta)(hb:PE X b tb)(hm:behindInMarks op b=false):PT X (.Compare a [op] [b] pos) (mB (fj r ta tb)):=by
 intro pins s σ H Q I h
 refine wpAny_isTrue_Compare1 (aj (ha pins s σ H _ I h) λv s1 ⟨x,H1,I1,r1,q1⟩=>aj (hb pins s1 σ H1 _ I1 q1) λu s2 ⟨y,H2,I2,r2,q2⟩ =>
  aj (ho pins s2 σ H2 x y v u _ I2 r1 r2 q2) λc s3 ⟨z,H3,I3,r3,q3⟩=>?_) hm
 cases z with
 | bl k =>
  cases r3
  exact wpAny_truthy_bool ⟨H3,I3,q3⟩
 | _=>exact False.elim q3
def lK(r r':R2)(ta tb tc:TE):TE:=λσ H Q=>ta σ H λx H1=>tb σ H1 λy H2=>r x y H2 λz H3=>match z with
 | .bl k=>if k=true then tc σ H3 λw' H4=>r' y w' H4 Q else Q (.bl false) H3
 | _=>False
theorem CF{c:Expr}{tc:TE}{op op':CmpOp}{r r':R2}(ho:aA X (compareOp op) r)(ho':aA X (compareOp op') r')(ha:PE X a ta)(hb:PE X b tb)(hc:PE X c tc)
 (hm:lastMarks [op,op'] [b,c]=false:=by with_unfolding_all rfl):PE X (.Compare a [op,op'] [b,c] pos) (lK r r' ta tb tc):=by
 intro pins s σ H Q I h
 refine Compare_chain (aj (ha pins s σ H _ I h) λv s1 ⟨x,H1,I1,r1,q1⟩=>chain_link (aj (hb pins s1 σ H1 _ I1 q1) λu s2 ⟨y,H2,I2,r2,q2⟩ =>
  aj (ho pins s2 σ H2 x y v u _ I2 r1 r2 q2) λd s3 ⟨z,H3,I3,r3,q3⟩=>?_)) hm
 cases z with
 | bl k =>
  cases r3
  refine wpAny_truthy_bool ?_
  cases k with
  | false=>exact ite_ff ⟨.bl false,H3,I3,rfl,q3⟩
  | true=>exact ite_tt (chain_last (aj (hc pins s3 σ H3 _ I3 q3) λw' s4 ⟨z',H4,I4,r4,q4⟩=>ho' pins s4 σ H4 y z' u w' Q I4 r2 r4 q4))
 | _=>exact False.elim q3
theorem Ch{c:Expr}{tc:TE}{op op':CmpOp}{r r':R2}(ho:aA X (compareOp op) r)(ho':aA X (compareOp op') r')(ha:PE X a ta)(hb:PE X b tb)(hc:PE X c tc)
 (hm:lastMarks [op,op'] [b,c]=false:=by with_unfolding_all rfl):PT X (.Compare a [op,op'] [b,c] pos) (mB (lK r r' ta tb tc)):=by
 intro pins s σ H Q I h
 refine isTrue_chain (aj (ha pins s σ H _ I h) λv s1 ⟨x,H1,I1,r1,q1⟩=>test_link (aj (hb pins s1 σ H1 _ I1 q1) λu s2 ⟨y,H2,I2,r2,q2⟩ =>
  aj (ho pins s2 σ H2 x y v u _ I2 r1 r2 q2) λd s3 ⟨z,H3,I3,r3,q3⟩=>?_)) hm
 cases z with
 | bl k =>
  cases r3
  refine wpAny_truthy_bool ?_
  cases k with
  | false=>exact ite_ff ⟨H3,I3,q3⟩
  | true =>
   refine ite_tt (test_last (aj (hc pins s3 σ H3 _ I3 q3) λw' s4 ⟨z',H4,I4,r4,q4⟩=>aj (ho' pins s4 σ H4 y z' u w' _ I4 r2 r4 q4) λd' s5 ⟨z2,H5,I5,r5,q5⟩=>?_))
   cases z2 with
   | bl k2 =>
    cases r5
    exact wpAny_truthy_bool ⟨H5,I5,q5⟩
   | _=>exact False.elim q5
 | _=>exact False.elim q3
def oh(K:W.Frag)(t:TE):TT:=λσ H Q=>t σ H λx H1=>match x with
 | .non=>Q false H1
 | .bl c=>Q c H1
 | .int i=>Q (i != 0) H1
 | .ref p=>∃ xs,(ax K H1 p xs\/bT K H1 p xs)/\Q (!xs.isEmpty) H1
 | _=>False
theorem Cd{e:Expr}{t:TE}(h:PE X e t)(he : ∀ whole,isTrue e X.env whole=(do let v <- whole; standAt e.pos; holding [v] (truthy v)):=by intro _; rfl):PT X e (oh X.K t):=by
 intro pins s σ H Q I hw
 refine isTrue_plain (aj (h pins s σ H _ I hw) λv s1 ⟨x,H1,I1,r1,q1⟩=>?_) (he _)
 cases x with
 | non=>exact jG pins s1 σ H1 _ v Q I1 r1 ⟨false,rfl,q1⟩
 | bl c=>exact jG pins s1 σ H1 _ v Q I1 r1 ⟨c,rfl,q1⟩
 | int i=>exact jG pins s1 σ H1 _ v Q I1 r1 ⟨i != 0,rfl,q1⟩
 | ref p =>
  obtain⟨xs,hx,q1⟩:=q1
  rcases hx with hx | hx
  ·exact jG pins s1 σ H1 _ v Q I1 r1 ⟨_,.inl ⟨xs,hx,rfl⟩,q1⟩
  ·exact jG pins s1 σ H1 _ v Q I1 r1 ⟨_,.inr (.inl ⟨xs,hx,rfl⟩),q1⟩
 | _=>exact False.elim q1
end
section
variable {X:Cx}{a b:Expr}{ta tb:TE}{pos:Pos}
def gI(C:Int->Int->Prop)(g:Int->Int->V):R2:=λx y H Q=>match x,y with
 | .int i,.int j=>C i j/\Q (g i j) H
 | _,_=>False
def j3(g:Int->Int->V):R2:=λx y H Q=>match x,y with
 | .int i,.int j=>Q (g i j) H
 | _,_=>False
theorem lZ{f:Value->Value->Sem Value}{g:Int->Int->V}(h:aA X f (eG g)):aA X f (j3 g):=h.imp λx y H Q q=>by
 cases x <;> cases y <;> first | exact False.elim q | exact⟨_,_,rfl,rfl,q⟩
theorem E4{f:Value->Value->Sem Value}{C:Int->Int->Prop}{g:Int->Int->V}(h:aA X f (rI C g)):aA X f (gI C g):=h.imp λx y H Q q=>by
 cases x <;> cases y <;> first | exact False.elim q | exact⟨_,_,rfl,rfl,q.1,q.2⟩
theorem vF:aA X (binaryOp .Sub) (j3 λi j=>.int (i - j)):=lZ BT
theorem vH:aA X (binaryOp .Mod) (gI (λ_ j=>0 < j) λi j=>.int (i%j)):=E4 ux
theorem lX:aA X (compareOp .Lt) (j3 λi j=>.bl (decide (i < j))):=lZ BX
theorem dD:aA X (compareOp .LtE) (j3 λi j=>.bl (decide (i<=j))):=lZ BY
theorem oJ:aA X (compareOp .Gt) (j3 λi j=>.bl (decide (j < i))):=lZ B1
def uM(j:Int)(ta:TE):TE:=λσ H Q=>ta σ H λx H1=>match x with
 | .int i=>Q (.int (i / j)) H1
 | _=>False
def uK(j:Int)(ta:TE):TE:=λσ H Q=>ta σ H λx H1=>match x with
 | .int i=>Q (.int (i%j)) H1
 | _=>False
theorem CC{j:Int}{k:Nat}{p:Pos}(ha:PE X a ta)(hj:0 < j/\j < 1073741824:=by decide):PE X (.BinOp a .FloorDiv (.Constant (.int j) k p) pos) (uM j ta):=by
 intro pins s σ H Q I h
 refine wpAny_BinOp (aj (ha pins s σ H _ I h) λv s1 ⟨x,H1,I1,r1,q1⟩=>?_)
 refine aj (lm pins s1 σ H1 (λy H2=>y=.int j/\H2=H1) I1 ⟨rfl,rfl⟩) λu s2 ⟨y,H2,I2,r2,e1,e2⟩=>?_
 subst e1 e2
 cases x with
 | int i=>exact B2 pins s2 σ H2 (.int i) (.int j) v u Q I2 r1 r2 ⟨i,j,rfl,rfl,hj,q1⟩
 | _=>exact False.elim q1
theorem CA{j:Int}{k:Nat}{p:Pos}(ha:PE X a ta)(hj:0 < j:=by decide):PE X (.BinOp a .Mod (.Constant (.int j) k p) pos) (uK j ta):=by
 intro pins s σ H Q I h
 refine wpAny_BinOp (aj (ha pins s σ H _ I h) λv s1 ⟨x,H1,I1,r1,q1⟩=>?_)
 refine aj (lm pins s1 σ H1 (λy H2=>y=.int j/\H2=H1) I1 ⟨rfl,rfl⟩) λu s2 ⟨y,H2,I2,r2,e1,e2⟩=>?_
 subst e1 e2
 cases x with
 | int i=>exact ux pins s2 σ H2 (.int i) (.int j) v u Q I2 r1 r2 ⟨i,j,rfl,rfl,hj,q1⟩
 | _=>exact False.elim q1
theorem xJ:kh X (unaryOp .USub) (λx H Q=>match x with | .int i=>Q (.int (-i)) H | _=>False):=by
 intro pins s σ H x v Q I rx q
 cases x with
 | int i=>exact xK pins s σ H _ v Q I rx ⟨i,rfl,q⟩
 | _=>exact False.elim q
end
section
variable {X:Cx}
theorem FP{pins:List (Addr × Obj)}{s:Shared}{σ:St}{H:Hp}{l b:Addr}{xs zs:List V}{Q:VK}(I:ad X pins σ H s)(hl:ax X.K H l xs)(hb:ax X.K H b zs)(hz:xs.length+zs.length<=sizeLine)
 (q : ∀ p H',aP H p (.lst (xs++zs)) H'->Q (.ref p) H'):wpAny (model X.prog X.w) X.A (binaryOp .Add (.ref l) (.ref b)) (EP X pins σ Q) X.xe s:=by
 obtain⟨its,r,pl,_⟩:=I.list hl
 obtain⟨its2,r2,pl2,_⟩:=I.list hb
 have e1:=r.length
 have e2:=r2.length
 obtain⟨⟨cls,dd,data,sl⟩,ho,hc,n,hd⟩:=pl.isList
 obtain⟨⟨cls2,dd2,data2,sl2⟩,ho2,hc2,n2,hd2⟩:=pl2.isList
 simp only at hc hd hc2 hd2
 subst hc hd hc2 hd2
 have ea:its.toArray++its2.toArray=(its++its2).toArray:=by simp
 refine concat_meets ⟨_,ho,rfl⟩ ⟨_,ho2,rfl⟩ noFill_list_add seq_list_add PySem.F.slot_list_add PySem.F.entry_list_add (PySem.F.args_list_add_2 _ _) (list_addW l b its.toArray its2.toArray n n2 dd dd2 sl sl2 (by rw[List.size_toArray,List.size_toArray]; omega)) ⟨ho,ho2,?_⟩
 rw[ea]
 exact⟨.ref _,_,I.lnew (t':=s.toks) (r.append r2) (by rw[List.length_append]; omega),rfl,q _ _ (.mk' I.fresh)⟩
def vS(K:W.Frag):R2:=λx y H Q=>match x,y with
 | .int i,.int j=>Q (.int (i+j)) H
 | .ref l,.ref b=>∃ xs zs,ax K H l xs/\ax K H b zs/\xs.length+zs.length<=sizeLine/\∀ p H',aP H p (.lst (xs++zs)) H'->Q (.ref p) H'
 | _,_=>False
theorem EX:aA X (binaryOp .Add) (vS X.K):=by
 intro pins s σ H x y v u Q I rx ry q
 cases x with
 | int i =>
  cases y with
  | int j=>exact B4 pins s σ H _ _ v u Q I rx ry ⟨i,j,rfl,rfl,q⟩
  | _=>exact False.elim q
 | ref l =>
  cases y with
  | ref b =>
   obtain⟨xs,zs,h1,h2,h3,q⟩:=q
   cases rx
   cases ry
   exact FP I h1 h2 h3 q
  | _=>exact False.elim q
 | _=>exact False.elim q
def EY:R2:=λx y H Q=>match x,y with
 | .int i,.int j=>mN i j/\Q (.int (i*j)) H
 | .ref l,.int k=>∃ xs,H l=some (.lst xs)/\-(2 ^ 63)<=k/\k < 2 ^ 63/\xs.length*k.toNat<=sizeLine/\∀ p H',aP H p (.lst (List.replicate k.toNat xs).flatten) H'->Q (.ref p) H'
 | _,_=>False
theorem Ey:aA X (binaryOp .Mult) EY:=by
 intro pins s σ H x y v u Q I rx ry q
 cases x with
 | int i =>
  cases y with
  | int j=>exact BW pins s σ H _ _ v u Q I rx ry ⟨i,j,rfl,rfl,q.1,q.2⟩
  | _=>exact False.elim q
 | ref l =>
  cases y with
  | int k =>
   obtain⟨xs,h1,h2,h3,h4,q⟩:=q
   exact BU pins s σ H _ _ v u Q I rx ry ⟨l,k,xs,rfl,rfl,h1,h2,h3,h4,λp hp=>q p _ (.mk' hp)⟩
  | _=>exact False.elim q
 | _=>exact False.elim q
def oy(x:V)(c:Bool):Bool:=match x with
 | .bl d=>d == c
 | _=>false
theorem tB{x:V}{v:Value}{c:Bool}(r:aq x v)(hf : ∀ f,x ≠ .ty f):plainIs v (.bool c)=true/\(v == Value.bool c)=oy x c:=by
 cases x with
 | non=>cases r; exact⟨rfl,rfl⟩
 | bl d=>cases r; exact⟨rfl,by cases d <;> cases c <;> rfl⟩
 | int _=>obtain⟨t,rfl⟩:=r; exact⟨rfl,rfl⟩
 | str _=>obtain⟨t,rfl⟩:=r; exact⟨rfl,rfl⟩
 | byt _=>obtain⟨t,rfl⟩:=r; exact⟨rfl,rfl⟩
 | flt _=>obtain⟨t,rfl⟩:=r; exact⟨rfl,rfl⟩
 | ref _=>cases r; exact⟨rfl,rfl⟩
 | ty f=>exact absurd rfl (hf f)
def vO(neg:Bool):R2:=λx y H Q=>match y with
 | .non=>Q (.bl (if neg then !decide (x=.non) else decide (x=.non))) H
 | .bl c=>(∀ f,x ≠ .ty f)/\Q (.bl (if neg then !oy x c else oy x c)) H
 | _=>False
theorem ji:aA X (compareOp .Is) (vO false):=by
 intro pins s σ H x y v u Q I rx ry q
 cases y with
 | non=>exact BZ pins s σ H x _ v u Q I rx ry ⟨rfl,q⟩
 | bl c =>
  cases ry
  obtain⟨h1,h2⟩:=tB (c:=c) rx q.1
  exact wpAny_is_plain h1 ⟨.bl _,H,I,by rw[h2]; rfl,q.2⟩
 | _=>exact False.elim q
theorem lY:aA X (compareOp .IsNot) (vO true):=by
 intro pins s σ H x y v u Q I rx ry q
 cases y with
 | non=>exact BV pins s σ H x _ v u Q I rx ry ⟨rfl,q⟩
 | bl c =>
  cases ry
  obtain⟨h1,h2⟩:=tB (c:=c) rx q.1
  exact wpAny_isNot_plain h1 ⟨.bl _,H,I,by rw[h2]; rfl,q.2⟩
 | _=>exact False.elim q
end
def bu(K:W.Frag)(H:Hp)(d:PyData)(x:V):Prop:=∀ (X:Cx) (pins:List (Addr × Obj)) (σ:St) (s:Shared) (u:Value),X.K=K->ad X pins σ H s->aq x u->∃ as,Reads s.heap u d as
def cQ(K:W.Frag)(H:Hp)(ds:List PyData)(xs:List V):Prop:=∀ (X:Cx) (pins:List (Addr × Obj)) (σ:St) (s:Shared) (us:List Value),X.K=K->ad X pins σ H s->ar xs us->∃ as,ReadsAll s.heap us ds as
section
variable {K:W.Frag}{H:Hp}
theorem bu.int(i:Int):bu K H (.int i) (.int i):=λ_ _ _ _ _ _ _ r=>by obtain⟨t,rfl⟩:=r; exact⟨_,.int i t⟩
theorem bu.str(x:Str):bu K H (.str x) (.str x):=λ_ _ _ _ _ _ _ r=>by obtain⟨t,rfl⟩:=r; exact⟨_,.str x t⟩
theorem cQ.nil:cQ K H [] []:=λ_ _ _ _ _ _ _ r=>by cases r; exact⟨_,.nil⟩
theorem cQ.cons{d:PyData}{ds:List PyData}{x:V}{xs:List V}(a:bu K H d x)(b:cQ K H ds xs):cQ K H (d :: ds) (x :: xs):=λX pins σ s us e I r=>by
 cases r with
 | cons r1 r2 =>
  obtain⟨as,ha⟩:=a X pins σ s _ e I r1
  obtain⟨bs,hb⟩:=b X pins σ s _ e I r2
  exact⟨_,.cons ha hb⟩
theorem bu.lst{ds:List PyData}{p:Addr}{xs:List V}(h:ax K H p xs)(b:cQ K H ds xs):bu K H (.list ds) (.ref p):=λX pins σ s u e I r=>by
 cases r
 subst e
 obtain⟨its,rv,⟨o,n,ho,hc,_,hd⟩,_⟩:=I.list h
 obtain⟨as,ha⟩:=b X pins σ s its rfl I rv
 exact⟨_,.list ho hc hd (by simpa using ha)⟩
theorem bu.tup{ds:List PyData}{p:Addr}{xs:List V}(h:bT K H p xs)(b:cQ K H ds xs):bu K H (.tuple ds) (.ref p):=λX pins σ s u e I r=>by
 cases r
 subst e
 obtain⟨its,rv,⟨o,ho,hc,n,hd⟩,_⟩:=I.tuple h
 obtain⟨as,ha⟩:=b X pins σ s its rfl I rv
 exact⟨_,.tuple ho hc hd (by simpa using ha)⟩
theorem cQ.ints : ∀ ns:List Int,cQ K H (ns.map PyData.int) (ns.map V.int)
 | []=>.nil
 | n :: ns=>.cons (.int n) (cQ.ints ns)
end
open SeqAt (shaped)
def hX(K:W.Frag)(neg:Bool):R2:=λx y H Q=>match x,y with
 | .int i,.int j=>Q (.bl (if neg then !decide (i=j) else decide (i=j))) H
 | .bl a,.bl b=>Q (.bl (if neg then !(a == b) else a == b)) H
 | _,_=>∃ d e,bu K H d x/\bu K H e y/\shaped d=true/\shaped e=true/\Q (.bl (if neg then !d.eqv e else d.eqv e)) H
section
variable {X:Cx}
theorem wb{pins:List (Addr × Obj)}{s:Shared}{σ:St}{H:Hp}{x y:V}{v u:Value}{Q:VK}{neg:Bool}(hu:X.A.units+64 < cLine)(I:ad X pins σ H s)(rx:aq x v)(ry:aq y u)
 (q : ∃ d e,bu X.K H d x/\bu X.K H e y/\shaped d=true/\shaped e=true/\Q (.bl (if neg then !d.eqv e else d.eqv e)) H) :
 wpAny (model X.prog X.w) X.A (compareOp (if neg then .NotEq else .Eq) v u) (EP X pins σ Q) X.xe s:=by
 obtain⟨d,e,hd,he,h1,h2,q⟩:=q
 obtain⟨as,ra⟩:=hd X pins σ s v rfl I rx
 obtain⟨bs,rb⟩:=he X pins σ s u rfl I ry
 cases neg with
 | true=>exact ne_dataH ra rb h1 h2 hu ⟨.bl _,H,I,rfl,q⟩
 | false=>exact eq_dataH ra rb h1 h2 hu ⟨.bl _,H,I,rfl,q⟩
theorem wn{i j:Int}:decide (V.int i=V.int j)=decide (i=j):=by simp
theorem EO(hu:X.A.units+64 < cLine):aA X (compareOp .Eq) (hX X.K false):=by
 intro pins s σ H x y v u Q I rx ry q
 have D:=λq'=>wb (neg:=false) (Q:=Q) hu I rx ry q'
 cases x with
 | int i =>
  cases y with
  | int j=>exact uz pins s σ H _ _ v u Q I rx ry ⟨rfl,by rw[wn]; exact q⟩
  | _=>exact D q
 | bl i =>
  cases y with
  | bl j=>exact uz pins s σ H _ _ v u Q I rx ry ⟨rfl,by rw[mh]; exact q⟩
  | _=>exact D q
 | _=>exact D q
theorem Ex(hu:X.A.units+64 < cLine):aA X (compareOp .NotEq) (hX X.K true):=by
 intro pins s σ H x y v u Q I rx ry q
 have D:=λq'=>wb (neg:=true) (Q:=Q) hu I rx ry q'
 cases x with
 | int i =>
  cases y with
  | int j=>exact uw pins s σ H _ _ v u Q I rx ry ⟨rfl,by rw[wn]; exact q⟩
  | _=>exact D q
 | bl i =>
  cases y with
  | bl j=>exact uw pins s σ H _ _ v u Q I rx ry ⟨rfl,by rw[mh]; exact q⟩
  | _=>exact D q
 | _=>exact D q
def vP(K:W.Frag)(neg:Bool):R2:=λx y H Q=>match y with
 | .ref p=>∃ xs,(ax K H p xs\/bT K H p xs)/\dZ x=true/\xs.all dZ=true/\Q (.bl (if neg then !hV x xs else hV x xs)) H
 | _=>False
theorem EM:aA X (compareOp .In) (vP X.K false):=B0.imp λx y H Q q=>by
 cases y with
 | ref p=>obtain⟨xs,h1,h2,h3,q⟩:=q; exact⟨p,xs,rfl,h1,h2,h3,q⟩
 | _=>exact False.elim q
def vN(K:W.Frag):R2:=λx y H Q=>match x,y with
 | .ref p,.int i=>∃ xs v,(ax K H p xs\/bT K H p xs)/\eX xs i=some v/\Q v H
 | _,_=>False
theorem EA:dJ X (vN X.K):=(Df.or De).imp λx y H Q q=>by
 cases x with
 | ref p =>
  cases y with
  | int i =>
   obtain⟨xs,v,h1,h2,q⟩:=q
   rcases h1 with h1 | h1
   ·exact .inl ⟨p,xs,i,v,rfl,rfl,h1,h2,q⟩
   ·exact .inr ⟨p,xs,i,v,rfl,rfl,h1,h2,q⟩
  | _=>exact False.elim q
 | _=>exact False.elim q
def vL(K:W.Frag):V->Option Int->Option Int->Hp->VK->Prop:=λx lo hi H Q=>match x with
 | .ref a=>∃ xs,ax K H a xs/\∀ p H',aP H p (.lst (cy xs lo hi)) H'->Q (.ref p) H'
 | _=>False
theorem Ev:gf X (vL X.K):=by
 intro pins s σ H x v vl vu lo hi sl Q I rx hs pl pu q
 cases x with
 | ref a=>obtain⟨xs,h1,q⟩:=q; exact zc pins s σ H _ v vl vu lo hi sl Q I rx hs pl pu ⟨a,xs,rfl,h1,λp hp=>q p _ (.mk' hp)⟩
 | _=>exact False.elim q
def oO(K:W.Frag):List V->Hp->VK->Prop:=λxs H Q=>match xs with
 | [.ref p]=>∃ ys,(ax K H p ys\/bT K H p ys)/\Q (.int ys.length) H
 | _=>False
theorem Gf:bA X (.builtin "len") (oO X.K):=FT.imp λxs H Q q=>by
 unfold oO at q
 split at q
 ·obtain⟨ys,h1,q⟩:=q
  exact⟨_,ys,rfl,h1,q⟩
 ·exact q.elim
def oN(K:W.Frag):List V->Hp->VK->Prop:=λxs H Q=>match xs with
 | [.ref p]=>∃ ys,(ax K H p ys\/bT K H p ys)/\∀ l H',aP H l (.lst ys) H'->Q (.ref l) H'
 | _=>False
theorem Gc:bA X (.type "list") (oN X.K):=FS.imp λxs H Q q=>by
 unfold oN at q
 split at q
 ·obtain⟨ys,h1,q⟩:=q
  exact⟨_,ys,rfl,h1,λl hl=>q l _ (.mk' hl)⟩
 ·exact q.elim
def oP(K:W.Frag):List V->Hp->VK->Prop:=λxs H Q=>match xs with
 | [x,.ty T]=>∃ t b,cz K H x t/\W.kitOne K t (.type T)=some b/\Q (.bl b) H
 | [x,.ref C]=>∃ t b,cz K H x t/\W.kitOne K t (.ref C)=some b/\Q (.bl b) H
 | _=>False
theorem Gg:bA X (.builtin "isinstance") (oP X.K):=by
 intro pins s σ H xs us Q I r q
 unfold oP at q
 split at q
 ·obtain⟨t,b,h1,h2,q⟩:=q
  obtain⟨u,w',rfl,r1,r2⟩:=rK r
  cases r2
  exact vf I r1 h1 h2 λtk=>⟨.bl b,H,I.tok _,rfl,q⟩
 ·obtain⟨t,b,h1,h2,q⟩:=q
  obtain⟨u,w',rfl,r1,r2⟩:=rK r
  cases r2
  exact vf I r1 h1 h2 λtk=>⟨.bl b,H,I.tok _,rfl,q⟩
 ·exact q.elim
theorem Gs {x:Str} {T:String} {pos:Pos} (hg:Gl X x) (hm:X.mg x=none) (hv:bootBuiltins x=some (.type T)) (hn:x ≠ "__name__":=by decide) (hd:(x == ("__debug__" : Str))=false:=by decide):PE X (.Name x pos) (tC (.ty T)) :=
 BP hg hm hv rfl hn hd
end
def cT:Expr->Bool
 | .Starred _ _=>true
 | _=>false
theorem cK{e:Expr}{es:List Expr}{env:Env}(h:cT e=false):starEach (e :: es) env=(false,eval e env) :: starEach es env:=by
 cases e <;> first | rfl | cases h
def cu:List Expr->Bool
 | []=>true
 | e :: r=>!cT e && cu r
theorem fU{env:Env}{pos:Pos} : ∀ {es:List Expr},cu es=true->(backTo pos (starEach es env)).any (·.1)=false
 | [],_=>rfl
 | e :: r,h=>by
  have h':(!cT e && cu r)=true:=h
  rw[Bool.and_eq_true]at h'
  have h1:cT e=false:=by simpa using h'.1
  rw[cK h1]
  show (false || (backTo pos (starEach r env)).any (·.1))=false
  rw[Bool.false_or]
  exact fU h'.2
theorem cS{e:Expr}{es:List Expr}(h:cu (e :: es)=true):cT e=false/\cu es=true:=by
 have h':(!cT e && cu es)=true:=h
 rw[Bool.and_eq_true]at h'
 exact⟨by simpa using h'.1,h'.2⟩
theorem uu{X:Cx}{e:Expr}{es:List Expr}{te:TE}{t:TA}(ha:PE X e te)(hr:PA X es t)(hs:cT e=false:=by rfl):PA X (e :: es) (mZ te t):=BR ha hr (cK hs)
def mr:Expr->Option V
 | .Constant (.int i) _ _=>some (.int i)
 | .Constant (.bool b) _ _=>some (.bl b)
 | .Constant .none _ _=>some .non
 | .Constant (.str x) _ _=>some (.str x)
 | _=>none
def mq:List Expr->Option (List V)
 | []=>some []
 | e :: r=>match mr e,mq r with
  | some v,some vs=>some (v :: vs)
  | _,_=>none
def su(vs:List V):TA:=λ_ H Q=>Q vs H
theorem BH{X:Cx}{e:Expr}{v:V}(h:mr e=some v):PE X e (tC v):=by
 unfold mr at h
 split at h
 ·cases h; exact lm
 ·cases h; exact uo
 ·cases h; exact ui
 ·cases h; exact uh
 ·cases h
theorem FG{e:Expr}{v:V}(h:mr e=some v):cT e=false:=by
 cases e <;> first | rfl | cases h
theorem ut{X:Cx} : ∀ {es:List Expr} {vs:List V},mq es=some vs->PA X es (su vs)
 | [],vs,h=>by
  cases h
  exact ur
 | e :: r,vs,h=>by
  unfold mq at h
  split at h
  ·rename_i v ws h1 h2
   cases h
   exact uu (BH h1) (ut h2) (FG h1)
  ·cases h
section
variable {X:Cx}{es:List Expr}{t:TA}{pos:Pos}
def uH(t:TA):TE:=λσ H Q=>t σ H λxs H1=>xs.length<=sizeLine/\∀ p H',aP H1 p (.tup xs) H'->Q (.ref p) H'
def uL(t:TA):TE:=λσ H Q=>t σ H λxs H1=>xs.length<=sizeLine/\∀ p H',aP H1 p (.lst xs) H'->Q (.ref p) H'
theorem Cw{x1}(h:PA X es t):PE X (.Tuple es x1 pos) (uH t):=by
 intro pins s σ H Q I hq
 refine wpAny_Tuple_spliced (aj (h pos pins s σ H _ I hq) λus s1 ⟨xs,H1,I1,r,z,q⟩=>⟨by rw[<- r.length]; exact z,?_⟩)
 have hf:H1 s1.heap.objs.size=none:=I1.hok.fresh (Nat.le_refl _)
 refine⟨.ref s1.heap.objs.size,upd H1 s1.heap.objs.size (.tup xs),I1.laid (t':=s1.toks) (λb u e=>Heap.get?_push_of_some _ e) (Nat.le_refl _) ?_,rfl,q _ _ (.mk' hf)⟩
 exact⟨z,us,r,⟨_,Heap.get?_push_size _ rfl,rfl,_,rfl⟩⟩
theorem CB(h:PA X es t):PE X (.List es pos) (uL t):=by
 intro pins s σ H Q I hq
 refine wpAny_List_spliced (aj (h pos pins s σ H _ I hq) λus s1 ⟨xs,H1,I1,r,z,q⟩=>⟨by rw[<- r.length]; exact z,?_⟩)
 have hf:H1 s1.heap.objs.size=none:=I1.hok.fresh (Nat.le_refl _)
 refine⟨.ref s1.heap.objs.size,upd H1 s1.heap.objs.size (.lst xs),I1.laid (t':=s1.toks) (λb u e=>Heap.get?_push_of_some _ e) (Nat.le_refl _) ?_,rfl,q _ _ (.mk' hf)⟩
 exact⟨z,us,0,r,Heap.get?_push_size _ rfl⟩
def uN:TE:=λ_ H Q=>∀ p H',aP H p (.dK []) H'->Q (.ref p) H'
theorem CD:PE X (.Dict [] [] pos) uN:=BE.imp λσ H Q q=>λp hp=>q p _ (.mk' hp)
end
theorem bD{Q:VK}{H:Hp}{a b:Bool}(k:Q (.bl a) H)(e:a=b):Q (.bl b) H:=e ▸ k
def ox:V->Bool
 | .int _=>true
 | .bl _=>true
 | _=>false
def vh:V->Bool
 | .bl _=>true
 | _=>false
inductive dH (K:W.Frag) (H:Hp):V->Prop where
 | non:dH K H .non
 | bl (b:Bool):dH K H (.bl b)
 | int (i:Int):dH K H (.int i)
 | str (x:Str):dH K H (.str x)
 | lst {a:Addr} {xs:List V} (e:H a=some (.lst xs)):dH K H (.ref a)
 | tup {a:Addr} {xs:List V} (e:H a=some (.tup xs)):dH K H (.ref a)
 | dK {a:Addr} {kvs:List (ao × V)} (e:H a=some (.dK kvs)):dH K H (.ref a)
theorem dH.isInt {K:W.Frag} {H:Hp} {v:V} (k:dH K H v) : ∃ ty,cz K H v ty/\W.kitOne K ty (.type "int")=some (ox v):=by
 cases k with
 | non=>exact⟨_,.non,by with_unfolding_all rfl⟩
 | bl b=>exact⟨_,.bl b,by with_unfolding_all rfl⟩
 | int i=>exact⟨_,.int i,by with_unfolding_all rfl⟩
 | str x=>exact⟨_,.str x,by with_unfolding_all rfl⟩
 | lst e=>exact⟨_,.lst e,by with_unfolding_all rfl⟩
 | tup e=>exact⟨_,.tup e,by with_unfolding_all rfl⟩
 | dK e=>exact⟨_,.dK e,by with_unfolding_all rfl⟩
theorem dH.isBl {K:W.Frag} {H:Hp} {v:V} (k:dH K H v) : ∃ ty,cz K H v ty/\W.kitOne K ty (.type "bool")=some (vh v):=by
 cases k with
 | non=>exact⟨_,.non,by with_unfolding_all rfl⟩
 | bl b=>exact⟨_,.bl b,by with_unfolding_all rfl⟩
 | int i=>exact⟨_,.int i,by with_unfolding_all rfl⟩
 | str x=>exact⟨_,.str x,by with_unfolding_all rfl⟩
 | lst e=>exact⟨_,.lst e,by with_unfolding_all rfl⟩
 | tup e=>exact⟨_,.tup e,by with_unfolding_all rfl⟩
 | dK e=>exact⟨_,.dK e,by with_unfolding_all rfl⟩
theorem sz{n:Nat}(h:Nat.ble n 1000=true):n<=sizeLine:=Nat.le_trans (Nat.le_of_ble_eq_true h) (by decide)
theorem ce{n:Nat}(h:n<=100000):n<=sizeLine:=Nat.le_trans h (by decide)
theorem dP{n:Nat}(h:n<=100000):n < sizeLine:=Nat.lt_of_le_of_lt h (by decide)
section
variable {X:Cx}
theorem zL(bs:List Bool):(List.range bs.length).map (λi=>(bs[i]?).getD false)=bs:=by
 apply List.ext_getElem
 ·simp
 ·intro i h1 h2
  simp[List.getElem?_eq_getElem h2]
theorem zM(bs:List Bool):((List.range bs.length).all λi=>(bs[i]?).getD false)=bs.all id:=by
 conv=>rhs; rw[<- zL bs]
 rw[List.all_map]
 rfl
def oR(K:W.Frag)(one:Bool):List V->Hp->VK->Prop:=λxs H Q=>match xs with
 | [.ref p]=>∃ bs:List Bool,ax K H p (bs.map V.bl)/\Q (.bl (if one then bs.any id else bs.all id)) H
 | _=>False
theorem Gv{prog:Program}{w:World}{A:Around}{bs:List Bool}{its:List Value}(r:ar (bs.map V.bl) its):TruthOf prog w A (λi v=>its.toArray[i]? = some v) λi=>(bs[i]?).getD false:=λi v s Q E hP hQ=>by
 dsimp only at hP hQ
 have hi:i < its.length:=by
  have:=(Array.getElem?_eq_some_iff.mp hP).1
  simpa using this
 have hl:=r.length
 rw[List.length_map]at hl
 have hb:i < bs.length:=by omega
 obtain⟨u,hu,ru⟩:=r.get (i:=i) (x:=V.bl bs[i]) (by simp[hb])
 have e:its.toArray[i]? = some u:=by simpa using hu
 rw[e]at hP
 cases hP
 cases ru
 rw[List.getElem?_eq_getElem hb]at hQ
 exact wpAny_truthy_bool hQ
theorem Gh (hc:X.calm=true):bA X (.builtin "all") (oR X.K false):=by
 intro pins s σ H xs us Q I r q
 unfold oR at q
 split at q
 ·rename_i p
  obtain⟨bs,hq,q⟩:=q
  obtain⟨u,rfl,rx⟩:=gx r
  cases rx
  obtain⟨its,rv,pl,_⟩:=I.list hq
  have hl:=rv.length
  rw[List.length_map]at hl
  have hne:p≠s.heap.objs.size:=by
   obtain⟨o,n,e,_⟩:=pl
   exact Nat.ne_of_lt (Heap.lt_size e)
  refine call_all_walk (wpAny_pyIter_list pl.isList ⟨s.heap.objs.size,_,_,_,_,_,λi=>(bs[i]?).getD false,rfl,Walks.list (A:=X.A.in1) (show X.A.in1.handled=none from I.ok.hd hc) s.heap.objs.size p hne its.toArray,⟨⟨_,Heap.get?_push_size _ rfl,rfl,rfl⟩,?_⟩,Gv rv,λh' tk k=>?_⟩)
  ·exact pl.isList.at λo e=>Heap.get?_push_of_some _ e
  ·refine⟨.bl _,H,I.kept (h':=h') (t':=tk) λb o e=>k b o (λz=>?_) (Heap.get?_push_of_some _ e),?_,q⟩
   ·have e':b=s.heap.objs.size:=by simpa using z
    exact absurd (Heap.lt_size e) (by rw[e']; exact Nat.lt_irrefl _)
   ·show Value.bool _=Value.bool _
    rw[List.size_toArray,<- hl,zM]
    rfl
 ·exact q.elim
def oK(K:W.Frag):List V->Hp->VK->Prop:=λxs H Q=>match xs with
 | [.ref p]=>∃ ys,ax K H p ys/\∀ l H',aP H l (.tup ys) H'->Q (.ref l) H'
 | _=>False
theorem FX:bA X (.type "tuple") (oK X.K):=FR.imp λxs H Q q=>by
 unfold oK at q
 split at q
 ·obtain⟨ys,h1,q⟩:=q
  exact⟨_,ys,rfl,.inl ⟨h1,λl hl=>q l _ (.mk' hl)⟩⟩
 ·exact q.elim
def vQ:V->List V->Hp->VK->Prop:=λx vs H Q=>match x,vs with
 | .ref l,[y]=>∃ xs,H l=some (.lst xs)/\xs.length < sizeLine/\Q .non (upd H l (.lst (xs++[y])))
 | _,_=>False
theorem fV:eZ X "list.append" vQ:=by
 intro pins s σ H x vs v us Q I rx rv q
 unfold vQ at q
 split at q
 ·obtain⟨xs,h1,h2,q⟩:=q
  exact Ci pins s σ H _ _ v us Q I rx rv ⟨_,xs,_,rfl,rfl,h1,h2,q⟩
 ·exact q.elim
def oQ(K:W.Frag):V->List V->Hp->VK->Prop:=λx vs H Q=>match x,vs with
 | .ref l,[.ref b]=>∃ xs zs,H l=some (.lst xs)/\H b=some (.lst zs)/\xs.length+zs.length<=sizeLine/\Q .non (upd H l (.lst (xs++zs)))
 | _,_=>False
theorem Cu:eZ X "list.extend" (oQ X.K):=by
 intro pins s σ H x vs v us Q I rx rv q
 unfold oQ at q
 split at q
 ·obtain⟨xs,zs,h1,h2,h3,q⟩:=q
  exact Cf pins s σ H _ _ v us Q I rx rv ⟨_,_,xs,zs,rfl,rfl,h1,h2,h3,q⟩
 ·exact q.elim
end
structure bj (P:Program) (w:World) (K:W.Frag) (mg:Str->Option Value) (base:Heap) (x:Str) (k:Nat) (f:Addr) (fd:FuncData) (ps:List Str) (sp:Sp):Prop where
 gm:mg x=some (.ref f)
 kp:W.keepIn K (.ref f)=true
 b:ay K fd ps []
 ok:bt P w K mg base bI k f fd ps sp
section
variable {X:Cx}{k j:Nat}{f:Addr}{fd:FuncData}{ps:List Str}{sp:Sp}{x:Str}{p pos:Pos}{e:Expr}{es:List Expr}{t:TA}
theorem FW(F:bj X.prog X.w X.K X.mg X.base x j f fd ps sp)(hr:aS k X.A)(ha:PA X (e :: es) t)(hj:j<=k:=by decide)(hg:Gl X x:=by rfl)
 (hdb:(x == ("__debug__" : Str))=false:=by decide) (hn:cu (e :: es)=true:=by rfl) :
 PE X (.Call (.Name x p) (e :: es) [] pos) (m4 sp [] E0 t):=BM F.ok (hr.mono hj) hg F.gm F.kp F.b .nil BQ ha hdb (cK (cS hn).1) (fU (cS hn).2)
theorem FV{id:String}{r:List V->Hp->VK->Prop}(hc:bA X (.builtin id) r)(hm:X.mg x=none)(hv:bootBuiltins x=some (.builtin id))(ha:PA X (e :: es) t)(hg:Gl X x:=by rfl)(hx:x ≠ "__name__":=by decide)(hdb:(x == ("__debug__" : Str))=false:=by decide)
 (hn:cu (e :: es)=true:=by rfl):PE X (.Call (.Name x p) (e :: es) [] pos) (ix r t):=BL hc hg hm hv ha hx hdb (cK (cS hn).1) (fU (cS hn).2)
theorem FU{T:String}{r:List V->Hp->VK->Prop}(hc:bA X (.type T) r)(hm:X.mg x=none)(hv:bootBuiltins x=some (.type T))(ha:PA X (e :: es) t)(hg:Gl X x:=by rfl)(hx:x ≠ "__name__":=by decide)(hdb:(x == ("__debug__" : Str))=false:=by decide)
 (hn:cu (e :: es)=true:=by rfl):PE X (.Call (.Name x p) (e :: es) [] pos) (ix r t):=BK hc hg hm hv ha hx hdb (cK (cS hn).1) (fU (cS hn).2)
theorem gi{n:Int}{u:Tok}(hm:X.mg x=some (.int n u))(hg:Gl X x:=by rfl)(hd:(x == ("__debug__" : Str))=false:=by decide):PE X (.Name x pos) (tC (.int n)):=BB hg hm ⟨u,rfl⟩ hd
end
def dE(cells:List (Str × Addr)):List (Str × NameKind)->List (Str × Addr)->List (Str × Addr)
 | [],acc=>acc
 | (n,k) :: r,acc=>dE cells r (if (k == NameKind.free)=true then (n,(cells.lookup n).getD 0) :: acc else acc)
theorem wC{scope:Scope}{env:Env}(h : ∀ n,(n,NameKind.free)∈scope.names->∃ c,env.cells.lookup n=some c):closureFor scope env=pure (dE env.cells scope.names []):=by
 unfold closureFor
 have key : ∀ (l:List (Str × NameKind)) (acc:List (Str × Addr)),(∀ n,(n,NameKind.free)∈l->∃ c,env.cells.lookup n=some c) ->
  (forIn l acc (λx __s=>match x with
    | (name,kind) =>
     if (kind == NameKind.free)=true then do
      let __do_lift <- cellOf env name
      pure (ForInStep.yield ((name,__do_lift) :: __s))
     else pure (ForInStep.yield __s)):Sem (List (Str × Addr)))=pure (dE env.cells l acc):=by
  intro l
  induction l with
  | nil=>intro acc _; rfl
  | cons x r ih =>
   intro acc hf
   obtain⟨n,k⟩:=x
   have hr : ∀ n,(n,NameKind.free)∈r->∃ c,env.cells.lookup n=some c:=λn hn=>hf n (List.mem_cons_of_mem _ hn)
   rw[List.forIn_cons]
   by_cases hk:(k == NameKind.free)=true
   ·have hk':k=NameKind.free:=by simpa using hk
    subst hk'
    obtain⟨c,hc⟩:=hf n List.mem_cons_self
    have e:cellOf env n=pure c:=by unfold cellOf; rw[hc]
    show (if (NameKind.free == NameKind.free)=true then _ else _) >>= _=_
    rw[if_pos hk,e]
    show (forIn r ((n,c) :: acc) _:Sem (List (Str × Addr)))=_
    rw[ih _ hr]
    show _=pure (dE env.cells r (if (NameKind.free == NameKind.free)=true then (n,(List.lookup n env.cells).getD 0) :: acc else acc))
    rw[if_pos hk,hc]
    rfl
   ·show (if (k == NameKind.free)=true then _ else _) >>= _=_
    rw[if_neg hk]
    show (forIn r acc _:Sem (List (Str × Addr)))=_
    rw[ih _ hr]
    show _=pure (dE env.cells r (if (k == NameKind.free)=true then _ else acc))
    rw[if_neg hk]
 show (forIn scope.names [] _ >>= _:Sem (List (Str × Addr)))=_
 rw[key _ _ h]
 rfl
theorem qp{cells:List (Str × Addr)} : ∀ (l:List (Str × NameKind)) (acc:List (Str × Addr)) (x:Str) (c:Addr),(dE cells l acc).lookup x=some c->(∀ n,(n,NameKind.free)∈l->∃ c,cells.lookup n=some c)->((x,NameKind.free)∈l/\cells.lookup x=some c)\/acc.lookup x=some c
 | [],acc,x,c,h,_=>.inr h
 | (n,k) :: r,acc,x,c,h,hf=>by
  have hr : ∀ n,(n,NameKind.free)∈r->∃ c,cells.lookup n=some c:=λn hn=>hf n (List.mem_cons_of_mem _ hn)
  rcases qp r _ x c h hr with ⟨h1,h2⟩ | h1
  ·exact .inl ⟨List.mem_cons_of_mem _ h1,h2⟩
  ·by_cases hk:(k == NameKind.free)=true
   ·rw[if_pos hk]at h1
    have hk':k=NameKind.free:=by simpa using hk
    subst hk'
    obtain⟨c',hc⟩:=hf n List.mem_cons_self
    rw[hc]at h1
    rw[List.lookup_cons]at h1
    by_cases e:(x == n)=true
    ·rw[e]at h1
     have e':x=n:=by simpa using e
     subst e'
     have:c'=c:=Option.some.inj h1
     subst this
     exact .inl ⟨List.mem_cons_self,hc⟩
    ·have e':(x == n)=false:=by simpa using e
     rw[e']at h1
     exact .inr h1
   ·rw[if_neg hk]at h1
    exact .inr h1
theorem qq{cells:List (Str × Addr)} : ∀ (l:List (Str × NameKind)) (acc:List (Str × Addr)) (x:Str),((x,NameKind.free)∈l\/∃ c,acc.lookup x=some c)->∃ c,(dE cells l acc).lookup x=some c
 | [],acc,x,h=>by
  rcases h with h | h
  ·cases h
  ·exact h
 | (n,k) :: r,acc,x,h=>by
  unfold dE
  refine qq r _ x ?_
  rcases h with h | ⟨c,h⟩
  ·rcases List.mem_cons.mp h with e | e
   ·cases e
    exact .inr ⟨_,by simp; rfl⟩
   ·exact .inl e
  ·refine .inr ?_
   by_cases hk:(k == NameKind.free)=true
   ·rw[if_pos hk,List.lookup_cons]
    cases (x == n)
    ·exact⟨c,h⟩
    ·exact⟨_,rfl⟩
   ·rw[if_neg hk]
    exact⟨c,h⟩
section
variable {prog:Program}{w:World}{A:Around}{s:Shared}{R:Result->Shared->Prop}
theorem FM{elt target iter:Expr}{ifs:List Expr}{scope:Scope}{pos:Pos}{it acc:Value}{env:Env}(I:Nat->Shared->Prop)
 (turn : ∀ n s,I n s->wpAny (model prog w) A (pyNext it) (λr s₁=>match r with
   | none=>R (.ok .next) s₁
   | some v=>wpAny (model prog w) A (letOwnedTupleGo target it v) (λ_ s₁'=>wpAny (model prog w) A (assign target env v) (λ_ s₂ =>
    wpAny (model prog w) A (forIn ifs true λc r=>if r=true then do let ok <- isTrue c env (eval c env); pure (ForInStep.yield ok) else pure (ForInStep.yield r)) (λok s₃ =>
     if ok=true then wpAny (model prog w) A (eval elt env) (λx s₄ =>
      wpAny (model prog w) A (call (.builtin "list.append") [acc,x]) (λ_ s₅=>∃ m,m < n/\I m s₅) (λ_ _=>False) s₄) (λ_ _=>False) s₃
     else ∃ m,m < n/\I m s₃) (λ_ _=>False) s₂) (λ_ _=>False) s₁') (λ_ _=>False) s₁) (λ_ _=>False) s)
 (n:Nat) (h:I n s) :
 codeAny (model prog w) A (.compLoop (.ListComp elt [⟨target,iter,ifs,0⟩] scope pos) 0 it acc env) R s:=by
 refine codeAny_loop rfl I (λn s hI=>?_) n h
 show wpAny _ A ((compTurn (.ListComp elt [⟨target,iter,ifs,0⟩] scope pos) 0 it acc env).onRaise (λx=>do noteFrame x env; theTreesLotGoes x)) _ _ s
 refine wpAny_noted ?_
 rw[compTurn_list]
 refine wpAny_bind (wpAny_standAt (wpAny_bind (wpAny_mono (turn n s hI) (λr s₁ h₁=>?_) λ_ _ h'=>h'.elim)))
 cases r with
 | none=>exact wpAny_pure h₁
 | some v =>
  refine wpAny_bind (wpAny_mono h₁ (λ_ s₁' h₁'=>?_) λ_ _ h'=>h'.elim)
  refine wpAny_bind (wpAny_mono h₁' (λ_ s₂ h₂=>wpAny_bind (wpAny_mono h₂ (λok s₃ h₃=>?_) λ_ _ h'=>h'.elim)) λ_ _ h'=>h'.elim)
  cases ok with
  | false=>exact wpAny_pure ⟨rfl,h₃⟩
  | true =>
   exact wpAny_bind (wpAny_bind (wpAny_mono h₃ (λx s₄ h₄=>wpAny_bind (wpAny_mono h₄ (λ_ s₅ h₅=>wpAny_pure (wpAny_pure ⟨rfl,h₅⟩)) λ_ _ h'=>h'.elim)) λ_ _ h'=>h'.elim))
end
def bJ(X:Cx)(Nc:List Str)(scope:Scope)(C:Addr)(s:Shared)(H:Hp)(fp:List Addr):Cx where
 prog:=X.prog
 w:=X.w
 K:=X.K
 mg:=X.mg
 base:=X.base
 A:=X.A
 N:=Nc
 s₀:=s
 H₀:=H
 env:=compEnvC scope (dE X.env.cells scope.names []) C X.env
 outer:=X.stack
 stack:=X.stack
 ex:=fp
 fn:=λ_=>false
 calm:=X.calm
 pn:=X.pn
 xe:=λ_ _=>False
def ju(X:Cx)(ifs:List Expr)(t:TT):Prop :=
 ∀ (pins:List (Addr × Obj)) (s:Shared) (σ:St) (H:Hp) (Q:Bool->Hp->Prop),ad X pins σ H s->t σ H Q ->
  wpAny (model X.prog X.w) X.A (forIn ifs true λc r=>if r=true then do let ok <- isTrue c X.env (eval c X.env); pure (ForInStep.yield ok) else pure (ForInStep.yield r)) (TP X pins σ Q) X.xe s
def fi:TT:=λ_ H Q=>Q true H
theorem AK{X:Cx}:ju X [] fi:=λ_ _ _ H _ I h=>wpAny_tests_nil ⟨H,I,h⟩
theorem AJ{X:Cx}{c:Expr}{t:TT}(h:PT X c t):ju X [c] t:=λpins s σ H Q I q=>wpAny_tests_one (h pins s σ H Q I q)
theorem aT.adopt{P:Program}{w:World}{H:Hp}{h:Heap}{a:Addr}{o:HO}(x:aT P w H h)(hn:H a=none)(new:aO P w (upd H a o) h a o):aT P w (upd H a o) h:=λb u e=>by
 by_cases hb:b=a
 ·subst hb; rw[aN]at e; cases e; exact new
 ·rw[ak hb]at e
  exact (x b u e).stay (λc v _ q=>q) (λc q=>by rw[ak (br q hn)]; exact q) λc xs q=>by rw[ak (br q hn)]; exact q
def fM(J:It)(H1:Hp)(σ0:St)(g:TG)(tt:TT)(te:TE)(Q:VK):Prop:=∃ W:Nat->Nat->List V->St->Hp->Prop,
 (∃ m,W 0 m [] σ0 H1)/\∀ i m ys σ1 H2,W i m ys σ1 H2 ->
   (J.stop i H2/\ys.length<=sizeLine/\∀ p H',aP H2 p (.lst ys) H'->Q (.ref p) H') \/
   (J.go i H2/\ys.length < sizeLine/\∃ Nx:List V->St->Hp->Prop,(∀ ys' σ' H',Nx ys' σ' H'->∃ m',m' < m/\W (i+1) m' ys' σ' H') /\
     ∀ x H',J.yld i H2 x H'->g x σ1 H' λσ2 H3=>tt σ2 H3 λb H4=>if b=true then te σ2 H4 λy H5=>Nx (ys++[y]) σ2 H5 else Nx ys σ2 H4)
def kJ(nv:Nat)(caps:List Nat)(wi:TI)(g:TG)(tt:TT)(te:TE):TE:=λσ H Q=>wi σ H λJ H1=>fM J H1 (List.replicate nv none++caps.map λj=>(σ[j]?).join) g tt te Q
structure bZ (X:Cx) (Nc:List Str) (nv:Nat) (caps:List Nat) (scope:Scope):Prop where
 kind:scope.kind=.function
 nocell : ∀ y∈scope.names,y.2 ≠ .cell
 names : ∀ y∈scope.names,y.2=.local->scope.names.lookup y.1=some .local
 free : ∀ n,(n,NameKind.free)∈scope.names->X.env.kindOf n=some .cell\/X.env.kindOf n=some .free
 len:Nc.length=nv+caps.length
 cap : ∀ k j,caps[k]? = some j->∃ x,Nc[nv+k]? = some x/\X.N[j]? = some x/\scope.names.lookup x=some .free
def wB(fns:List (Str × NameKind))(N Nc:List Str)(nv:Nat)(caps:List Nat)(sc:Scope):Bool :=
 (sc.kind == .function) && (sc.names.all λy=>!(y.2 == .cell)) && (sc.names.all λy=>!(y.2 == .local) || sc.names.lookup y.1 == some .local) &&
 (sc.names.all λy=>!(y.2 == .free) || (fns.lookup y.1 == some .cell || fns.lookup y.1 == some .free)) && (Nc.length == nv+caps.length) &&
 ((List.range caps.length).all λk=>match caps[k]?,Nc[nv+k]? with
   | some j,some x=>N[j]? == some x && sc.names.lookup x == some .free
   | _,_=>false)
theorem bZ.of{X:Cx}{fns:List (Str × NameKind)}{N Nc:List Str}{nv:Nat}{caps:List Nat}{sc:Scope}(hf:X.env.scope.names=fns)(hN:X.N=N)(h:wB fns N Nc nv caps sc=true):bZ X Nc nv caps sc:=by
 unfold wB at h
 simp only [Bool.and_eq_true]at h
 obtain⟨⟨⟨⟨⟨h1,h2⟩,h3⟩,h4⟩,h5⟩,h6⟩:=h
 refine⟨by simpa using h1,λy hy e=>?_,λy hy e=>?_,λn hn=>?_,by simpa using h5,λk j e=>?_⟩
 ·have:=List.all_eq_true.mp h2 y hy
  rw[e]at this
  simp at this
 ·have:=List.all_eq_true.mp h3 y hy
  rw[e]at this
  simpa using this
 ·have:=List.all_eq_true.mp h4 _ hn
  show X.env.scope.names.lookup n=some .cell\/X.env.scope.names.lookup n=some .free
  rw[hf]
  simpa using this
 ·have hk:k < caps.length:=(List.getElem?_eq_some_iff.mp e).1
  have:=List.all_eq_true.mp h6 k (List.mem_range.mpr hk)
  rw[e]at this
  cases ex:Nc[nv+k]? with
  | none=>rw[ex]at this; simp at this
  | some x =>
   rw[ex]at this
   simp only [Bool.and_eq_true]at this
   exact⟨x,rfl,by rw[hN]; simpa using this.1,by simpa using this.2⟩
theorem lN{env:Env} : ∀ {names:List (Str × NameKind)} {x:Str} {k:NameKind},
 (names.map λ(n,k)=>if (k == NameKind.free && env.scope.kind == .function && env.kindOf n == some .cell) then (n,NameKind.cell) else (n,k)).lookup x=some k ->
 ∃ k0,names.lookup x=some k0/\(k=k0\/(k0=.free/\k=.cell))
 | [],_,_,h=>by simp at h
 | (n,k0) :: r,x,k,h=>by
  have h':List.lookup x ((if (k0 == NameKind.free && env.scope.kind == .function && env.kindOf n == some .cell)=true then (n,NameKind.cell) else (n,k0)) ::
   r.map λ(n,k)=>if (k == NameKind.free && env.scope.kind == .function && env.kindOf n == some .cell) then (n,NameKind.cell) else (n,k))=some k:=h
  cases hx:x == n with
  | true =>
   refine⟨k0,by simp[List.lookup_cons,hx],?_⟩
   by_cases hc:(k0 == NameKind.free && env.scope.kind == .function && env.kindOf n == some .cell)=true
   ·rw[if_pos hc,List.lookup_cons,hx]at h'
    have:NameKind.cell=k:=Option.some.inj h'
    refine .inr ⟨?_,this.symm⟩
    rw[Bool.and_eq_true,Bool.and_eq_true]at hc
    simpa using hc.1.1
   ·rw[if_neg hc,List.lookup_cons,hx]at h'
    exact .inl (Option.some.inj h').symm
  | false =>
   have h2:(r.map λ(n,k)=>if (k == NameKind.free && env.scope.kind == .function && env.kindOf n == some .cell) then (n,NameKind.cell) else (n,k)).lookup x=some k:=by
    by_cases hc:(k0 == NameKind.free && env.scope.kind == .function && env.kindOf n == some .cell)=true
    ·rw[if_pos hc,List.lookup_cons,hx]at h'
     exact h'
    ·rw[if_neg hc,List.lookup_cons,hx]at h'
     exact h'
   obtain⟨k1,h3,h4⟩:=lN h2
   exact⟨k1,by simp[List.lookup_cons,hx,h3],h4⟩
theorem gc{a b n:Addr}(h:a < n)(h':n<=b):a≠b:=Nat.ne_of_lt (Nat.lt_of_lt_of_le h h')
theorem jV{α β:Type}[BEq α][LawfulBEq α] : ∀ {l:List (α × β)} {x:α} {k:β},l.lookup x=some k->(x,k)∈l
 | [],_,_,h=>by simp at h
 | (n,k0) :: r,x,k,h=>by
  cases hx:x == n with
  | true =>
   simp only [List.lookup_cons,hx]at h
   cases h
   have e:x=n:=by simpa using hx
   subst e
   exact List.mem_cons_self
  | false =>
   simp only [List.lookup_cons,hx]at h
   exact List.mem_cons_of_mem _ (jV h)
section
variable {X:Cx}{elt tg iter:Expr}{ifs:List Expr}{scope:Scope}{Nc:List Str}{nv:Nat}{caps:List Nat}
theorem Dl{pins:List (Addr × Obj)}{σ:St}{H:Hp}{s:Shared}{fp:List Addr}{h₁:Heap}{tk:Nat}{D C:Addr}{m:Str->Option Value}(S:bZ X Nc nv caps scope)(I:ad X pins σ H s)
 (hf : ∀ b∈fp,dL X pins H b) (hfl : ∀ b∈fp,b < s.heap.objs.size) (hD:s.heap.objs.size<=D) (hC:s.heap.objs.size<=C) (hDC:D≠C) (hn:h₁.Ns C m) {oD:Obj} (hDo:h₁.get? D=some oD) (hDd : ∀ v,oD.data ≠ .cell v) (old : ∀ b o,s.heap.get? b=some o->h₁.get? b=some o) :
 ad (bJ X Nc scope C s H fp) (pins++[(D,oD)]) (List.replicate nv none++caps.map λj=>(σ[j]?).join) H { s with heap:=h₁,toks:=tk }:=by
 have hcells : ∀ n,(n,NameKind.free)∈scope.names->∃ c,X.env.cells.lookup n=some c:=λn hm=>I.ok.has n (S.free n hm)
 have clX : ∀ x c,(dE X.env.cells scope.names []).lookup x=some c->(x,NameKind.free)∈scope.names/\X.env.cells.lookup x=some c:=λx c e=>by
  rcases qp _ _ _ _ e hcells with h | h
  ·exact h
  ·simp at h
 have frm : ∀ b∈cw X.stack,b < s.heap.objs.size:=λb hb=>by
  obtain⟨_,o,ho,_⟩:=I.stack.mem hb
  exact Heap.lt_size ho
 have cellLt : ∀ x c,X.env.cells.lookup x=some c->c < s.heap.objs.size:=λx c e=>by
  obtain⟨v,q⟩:=I.cell x c e
  exact q.lt
 refine⟨⟨I.ok.mod,S.kind,I.ok.glob,I.ok.blt,hC,λx y c e1 e2=>I.ok.inj x y c (clX x c e1).2 (clX y c e2).2,λx hx=>?_,λx c z=>absurd z (by show ¬ (false=true); decide),I.ok.hd,I.ok.frames,.inl rfl,λb hb=>⟨?_,λx c e z=>?_⟩,λb o e=>I.bs b o e,Nat.le_trans I.ok.bsz I.sz,λb o e hb=>?_,λb hb z=>?_,I.stack,I.stkFree⟩,
  rfl,I.bare,Un.kept old,⟨m,hn,λi x v h1 h2 h3=>?_⟩,λx c e=>?_,I.hok.fresh hC,λx c e=>I.freeC x c (clX x c e).2,λp hp=>?_,I.hok.kept old,?_⟩
 ·-- a cell or free name of the block has its cell
  have hx':(relabel scope X.env).names.lookup x=some .cell\/(relabel scope X.env).names.lookup x=some .free:=hx
  have hm:(x,NameKind.free)∈scope.names:=by
   rcases hx' with hx' | hx'
   ·obtain⟨k0,e,z⟩:=lN hx'
    rcases z with z | ⟨z,_⟩
    ·subst z; exact absurd rfl (S.nocell _ (jV e))
    ·subst z; exact jV e
   ·obtain⟨k0,e,z⟩:=lN hx'
    rcases z with z | ⟨_,z⟩
    ·subst z; exact jV e
    ·cases z
  exact qq _ _ _ (.inl hm)
 ·exact Nat.ne_of_lt (Nat.lt_of_lt_of_le (hfl b hb) hC)
 ·exact (hf b hb).2.2.2.2.1 x c (clX x c e).2 z
 ·have hx:=(hf b hb).2.2.2.1
  rcases hx with z | z
  ·exact I.ok.noex b o e z
  ·exact absurd (Nat.lt_of_lt_of_le (Nat.lt_of_lt_of_le (Heap.lt_size e) I.ok.bsz) z) (Nat.lt_irrefl _)
 ·rcases List.mem_cons.mp (I.stkSub b z) with q | q
  ·exact (hf b hb).2.1 q
  ·exact (hf b hb).2.2.1 q
 ·-- the names' values
  have hi:nv<=i:=by
   refine Nat.le_of_not_lt λhlt=>?_
   rw[List.getElem?_append_left (by simpa using hlt),List.getElem?_replicate,if_pos hlt]at h2
   cases h2
  obtain⟨k,rfl⟩:=Nat.le.dest hi
  rw[List.getElem?_append_right (by simp)]at h2
  simp only [List.length_replicate,Nat.add_sub_cancel_left,List.getElem?_map]at h2
  cases ek:caps[k]? with
  | none=>rw[ek]at h2; cases h2
  | some j =>
   rw[ek]at h2
   have h2':(σ[j]?).join=some v:=Option.some.inj h2
   have hσ:σ[j]? = some (some v):=by
    cases e:σ[j]? with
    | none=>rw[e]at h2'; cases h2'
    | some z=>rw[e]at h2'; cases z with
     | none=>cases h2'
     | some z=>have:z=v:=Option.some.inj h2'; rw[this]
   obtain⟨y,e1,e2,e3⟩:=S.cap k j ek
   have h1':Nc[nv+k]? = some x:=h1
   rw[e1]at h1'
   cases h1'
   have hm:=jV e3
   have hk:=S.free x hm
   obtain⟨m0,hn0,hl⟩:=I.loc
   obtain⟨u,ru,lk⟩:=hl j x v e2 hσ (by
    rcases hk with z | z
    ·exact .inr (.inl z)
    ·exact .inr (.inr z))
   refine⟨u,ru,?_⟩
   rcases lk with ⟨z,_⟩ | ⟨_,c,hc,hcell⟩
   ·rcases hk with z' | z' <;> rw[z]at z' <;> cases z'
   ·refine .inr ⟨?_,c,?_,hcell.keeps old⟩
    ·rcases h3 with z | z | z
     ·exfalso
      obtain⟨k0,e,z'⟩:=lN (show (relabel scope X.env).names.lookup x=some .local from z)
      rw[e3]at e
      cases e
      rcases z' with z' | ⟨_,z'⟩ <;> cases z'
     ·exact .inl z
     ·exact .inr z
    ·obtain⟨c',hc'⟩:=qq (cells:=X.env.cells) scope.names [] x (.inl hm)
     rw[(clX x c' hc').2]at hc
     cases hc
     exact hc'
 ·obtain⟨v,z⟩:=I.cell x c (clX x c e).2
  exact⟨v,z.keeps old⟩
 ·-- pins
  have hp':p∈X.pn++(pins++[(D,oD)]):=hp
  rw[<- List.append_assoc]at hp'
  rcases List.mem_append.mp hp' with z | z
  ·obtain⟨e,n,ne,nf,d⟩:=I.pin p z
   have hlt:=Heap.lt_size e
   refine⟨old _ _ e,n,Nat.ne_of_lt (Nat.lt_of_lt_of_le hlt hC),λq=>?_,d⟩
   rcases List.mem_cons.mp (I.stkSub p.1 q) with q | q
   ·exact ne q
   ·exact nf q
  ·have e:p=(D,oD):=by simpa using z
   subst e
   exact⟨hDo,I.hok.fresh hD,hDC,λq=>absurd (Nat.lt_of_lt_of_le (frm _ q) hD) (Nat.lt_irrefl _),hDd⟩
 ·show (List.replicate nv none++caps.map λj=>(σ[j]?).join).length=Nc.length
  rw[List.length_append,List.length_replicate,List.length_map,S.len]
abbrev fw(its:List Value)(n:Nat):Obj:={ cls:=.type "list",data:=.seq its.toArray n }
theorem uS(its:List Value)(n:Nat) : ∀ v,(fw its n).data ≠ .cell v:=λv z=>by
 have z':Data.seq its.toArray n=Data.cell v:=z
 cases z'
theorem wA{g:TG}{tt:TT}{te:TE}{pos:Pos}{pins:List (Addr × Obj)}{σ:St}{H:Hp}{s:Shared}{Q:VK}{E:Value->Shared->Prop}{RR:Value->Addr->Result->Shared->Prop}(hc:X.calm=true)(S:bZ X Nc nv caps scope)
 (hg : ∀ C s H fp,PG (bJ X Nc scope C s H fp) tg g) (ht : ∀ C s H fp,ju (bJ X Nc scope C s H fp) ifs tt) (he : ∀ C s H fp,PE (bJ X Nc scope C s H fp) elt te)
 {it:Addr} {fp:List Addr} {tn:Nat->Heap->Prop} {J:It} (I:ad X pins σ H s) (T:dg X.prog X.w X.K tg J fp it tn) (st:tn 0 s.heap) (hf : ∀ b∈fp,dL X pins H b)
 {W:Nat->Nat->List V->St->Hp->Prop} {m0:Nat} (w0:W 0 m0 [] (List.replicate nv none++caps.map λj=>(σ[j]?).join) H)
 (turn : ∀ i m ys σ1 H2,W i m ys σ1 H2->(J.stop i H2/\ys.length<=sizeLine/\∀ p H',aP H2 p (.lst ys) H'->Q (.ref p) H') \/
   (J.go i H2/\ys.length < sizeLine/\∃ Nx:List V->St->Hp->Prop,(∀ ys' σ' H',Nx ys' σ' H'->∃ m',m' < m/\W (i+1) m' ys' σ' H') /\
     ∀ x H',J.yld i H2 x H'->g x σ1 H' λσ2 H3=>tt σ2 H3 λb H4=>if b=true then te σ2 H4 λy H5=>Nx (ys++[y]) σ2 H5 else Nx ys σ2 H4))
 (hRR : ∀ (D C:Addr) (s1:Shared) (H':Hp),ad X pins σ H' s1->dL X pins H' C->(∃ m,s1.heap.Ns C m)->Q (.ref D) H'->RR (.ref D) C (.ok .next) s1) :
 wpAny (model X.prog X.w) X.A (newList []) (λacc s₃=>wpAny (model X.prog X.w) X.A (newFunctionEnv scope X.env.globals (dE X.env.cells scope.names []) [] X.env.qual none .none (some X.env)) (λcenv s₄ =>
  codeAny (model X.prog X.w) X.A (.compStart (.ListComp elt [⟨tg,iter,ifs,0⟩] scope pos) 0 (.ref it) acc { cenv with scope:=relabel scope X.env }) (RR acc cenv.locals) s₄) E s₃) E s:=by
 refine wpAny_newObj_type (wpAny_newFunctionEnv S.nocell (by intro y hy; simp at hy) (λh₁ hns₁ hsb₁=>?_) S.kind)
 dsimp only at hns₁ hsb₁ ⊢
 generalize hH2:s.heap.push { cls:=.type "list",dict:=none,data:=.seq ([]:List Value).toArray }=h2 at hns₁ hsb₁ ⊢
 have hC:h2.objs.size=s.heap.objs.size+1:=by rw[<- hH2,Heap.size_push]
 have hDC:s.heap.objs.size≠h2.objs.size:=by rw[hC]; exact Nat.ne_of_lt (Nat.lt_succ_self _)
 have hCle:s.heap.objs.size<=h2.objs.size:=by rw[hC]; exact Nat.le_succ _
 have old : ∀ b o,s.heap.get? b=some o->h₁.get? b=some o:=λb o e=>hsb₁.extBut b o (Nat.ne_of_lt (Nat.lt_of_lt_of_le (Heap.lt_size e) hCle)) (Heap.get?_push_of_some _ (hH2 ▸ Heap.get?_push_of_some _ e))
 have hacc:h₁.get? s.heap.objs.size=some (fw [] 0):=hsb₁.extBut _ _ hDC (Heap.get?_push_of_some _ (hH2 ▸ Heap.get?_push_size _ rfl))
 have hfl : ∀ b∈fp,b < s.heap.objs.size:=λb hb=>by
  obtain⟨o,ho,_⟩:=T.obj _ _ st b hb
  exact Heap.lt_size ho
 have frm : ∀ b∈cw X.stack,b < s.heap.objs.size:=λb hb=>by
  obtain⟨_,o,ho,_⟩:=I.stack.mem hb
  exact Heap.lt_size ho
 have cellLt : ∀ x c,X.env.cells.lookup x=some c->c < s.heap.objs.size:=λx c e=>by
  obtain⟨v,q⟩:=I.cell x c e
  exact q.lt
 have hcells : ∀ n,(n,NameKind.free)∈scope.names->∃ c,X.env.cells.lookup n=some c:=λn hm=>I.ok.has n (S.free n hm)
 have clX : ∀ x c,(dE X.env.cells scope.names []).lookup x=some c->X.env.cells.lookup x=some c:=λx c e=>by
  rcases qp _ _ _ _ e hcells with h | h
  ·exact h.2
  ·simp at h
 have pinLt : ∀ p∈X.pn++pins,p.1 < s.heap.objs.size:=λp hp=>Heap.lt_size (I.pin p hp).1
 generalize hDD:s.heap.objs.size=D at hacc hDC ⊢
 generalize hCC:h2.objs.size=C at hDC hCle hns₁ hsb₁ ⊢
 have leD:s.heap.objs.size<=D:=Nat.le_of_eq hDD
 have leC:s.heap.objs.size<=C:=by omega
 have fpc : ∀ {H1:Hp} (o:Obj),(∀ b∈fp,H1 b=none)->∀ b∈fp,dL (bJ X Nc scope C s H fp) (pins++[(D,o)]) H1 b:=λ{H1} o hn b hb=>by
  refine⟨hn b hb,Nat.ne_of_lt (Nat.lt_of_lt_of_le (hfl b hb) leC),λz=>?_,.inl hb,λx c e z=>(hf b hb).2.2.2.2.1 x c (clX x c e) z,λp hp=>?_⟩
  ·rcases List.mem_cons.mp (I.stkSub b z) with q | q
   ·exact (hf b hb).2.1 q
   ·exact (hf b hb).2.2.1 q
  ·have hp':p∈X.pn++(pins++[(D,o)]):=hp
   rw[<- List.append_assoc]at hp'
   rcases List.mem_append.mp hp' with z | z
   ·exact (hf b hb).2.2.2.2.2 p z
   ·have e:p=(D,o):=by simpa using z
    subst e
    exact λq=>gc (hfl b hb) leD q.symm
 have loop : ∀ s₃:Shared,s₃ = { s with heap:=h₁,toks:=s.toks+([]:List (Str × Value)).length } ->
  codeAny (model X.prog X.w) X.A (.compLoop (.ListComp elt [⟨tg,iter,ifs,0⟩] scope pos) 0 (.ref it) (.ref D) (compEnvC scope (dE X.env.cells scope.names []) C X.env)) (RR (.ref D) C) s₃:=by
  rintro s₃ rfl
  refine FM (λn s'=>∃ (i:Nat) (ys:List V) (its:List Value) (nn:Nat) (σ1:St) (H1:Hp),ad (bJ X Nc scope C s H fp) (pins++[(D,fw its nn)]) σ1 H1 s'/\tn i s'.heap/\(∀ b∈fp,H1 b=none)/\ar ys its/\W i n ys σ1 H1) ?_ m0
   ⟨0,[],[],0,_,H,Dl S I hf hfl leD leC hDC hns₁ hacc (uS _ _) old,T.keep _ _ _ st λb _ o e=>old b o e,λb hb=>(hf b hb).1,.nil,w0⟩
  rintro n s' ⟨i,ys,its,nn,σ1,H1,I1,st1,fr1,rv,w1⟩
  have pinD : ∀ {σ':St} {H':Hp} {s'':Shared} {pl:List (Addr × Obj)},ad (bJ X Nc scope C s H fp) ((pins++[(D,fw its nn)])++pl) σ' H' s''->s''.heap.get? D=some (fw its nn)/\H' D=none:=λ{σ' H' s'' pl} I'=>by
   have z:=I'.pin (D,fw its nn) (List.mem_append_right _ (List.mem_append_left _ (List.mem_append_right _ (by simp))))
   exact⟨z.1,z.2.1⟩
  rcases turn i n ys σ1 H1 w1 with ⟨stop,hz,q⟩ | ⟨go,hz,Nx,hNx,step⟩
  ·refine aj (T.done (bJ X Nc scope C s H fp) rfl rfl rfl hc i _ s' σ1 H1 _ I1 (fpc _ fr1) st1 stop) λr s4 ⟨hr,I4⟩=>?_
   subst hr
   obtain⟨eD,nD⟩:=pinD (pl:=[]) (by rw[List.append_nil]; exact I4)
   obtain⟨m,hnC,_⟩:=I4.loc
   have u4:Un (cw X.stack) fp H H1 s.heap s4.heap:=I4.base
   have dNone:s.heap.get? D=none:=Heap.get?_none_of_le (Nat.le_of_eq hDD)
   have noD : ∀ b o,s.heap.get? b=some o->b≠D:=λb o e z=>by rw[z,dNone]at e; cases e
   have u5:Un (cw X.stack) fp H (upd H1 D (.lst ys)) s.heap s4.heap:=by
    refine⟨u4.keep,u4.slot,λb o e n hx=>?_,u4.there,λb xs e=>?_,λb o u e=>?_,λb ps e=>?_⟩
    ·rw[ak (noD b o e)]
     exact u4.free b o e n hx
    ·have z:=u4.tups b xs e
     rw[ak (br z nD)]
     exact z
    ·have z:=u4.frzs b o u e
     rw[ak (br z nD)]
     exact z
    ·obtain⟨more,z⟩:=u4.tbls b ps e
     exact⟨more,by rw[ak (br z nD)]; exact z⟩
   have hok:aT X.prog X.w (upd H1 D (.lst ys)) s4.heap:=aT.adopt I4.hok nD ⟨hz,its,nn,rv,eD⟩
   have IX:ad X pins σ (upd H1 D (.lst ys)) s4:=I.call' I4.os u5 hok I4.bare λb hb=>⟨(hf b hb).2.2.2.1,(hf b hb).2.1,(hf b hb).2.2.2.2.1,(hf b hb).2.2.2.2.2⟩
   have fpC:dL X pins (upd H1 D (.lst ys)) C:=by
    have hl:X.env.locals < s.heap.objs.size:=I.lt
    exact⟨by rw[ak (Ne.symm hDC)]; exact I4.free,(gc hl leC).symm,I.nofs leC,.inr (Nat.le_trans I.sz leC),λx c e z=>gc (cellLt x c e) leC z,λp hp z=>gc (pinLt p hp) leC z⟩
   exact hRR D C s4 _ IX fpC ⟨m,hnC⟩ (q D _ (.mk' nD))
  ·refine aj (T.item (bJ X Nc scope C s H fp) rfl rfl rfl hc i _ s' σ1 H1 _ I1 (fpc _ fr1) st1 go) λr s4 ⟨u,hr,h4⟩=>?_
   subst hr
   refine aj h4 λ_ s5 ⟨x,H5,I5,r5,y5,st5,fr5⟩=>?_
   have I5':=I5.pinned (fpc _ fr5) (T.obj _ _ st5)
   have back : ∀ {σ7:St} {H7:Hp} {s7:Shared},ad (bJ X Nc scope C s H fp) ((pins++[(D,fw its nn)])++jS fp s5.heap) σ7 H7 s7->tn (i+1) s7.heap/\∀ b∈fp,H7 b=none:=λ{σ7 H7 s7} I7=>by
    refine⟨T.keep _ _ _ st5 λb hb o e=>(I7.pin (b,o) (List.mem_append_right _ (List.mem_append_right _ (lJ hb e)))).1,λb hb=>?_⟩
    obtain⟨o,e,d⟩:=T.obj _ _ st5 b hb
    exact (I7.pin (b,o) (List.mem_append_right _ (List.mem_append_right _ (lJ hb e)))).2.1
   refine aj (hg _ _ _ _ _ s5 σ1 H5 x u _ I5' r5 (step x H5 y5)) λ_ s6 ⟨σ6,H6,I6,q6⟩=>?_
   refine aj (ht _ _ _ _ _ s6 σ6 H6 _ I6 q6) λb s7 ⟨H7,I7,q7⟩=>?_
   cases b with
   | false =>
    obtain⟨m',hm,w7⟩:=hNx _ _ _ q7
    obtain⟨t7,f7⟩:=back I7
    exact⟨m',hm,i+1,ys,its,nn,σ6,H7,I7.unpinned,t7,f7,rv,w7⟩
   | true =>
    refine aj (he _ _ _ _ _ s7 σ6 H7 _ I7 q7) λyv s8 ⟨y,H8,I8,r8,n8⟩=>?_
    obtain⟨m',hm,w8⟩:=hNx _ _ _ n8
    obtain⟨t8,f8⟩:=back I8
    obtain⟨eD,nD⟩:=pinD I8
    have hlen:=rv.length
    refine call_meets F.slot_list_append ⟨_,eD,rfl⟩ F.entry_list_append (F.args_list_append_2 _ _) (PySem.list_append D its.toArray nn yv (by rw[List.size_toArray]; omega)) ⟨eD,?_⟩
    have ea:its.toArray.push yv=(its++[yv]).toArray:=by simp
    obtain⟨n9,e9⟩ : ∃ n9,(s8.heap.update D (Obj.mapSeq (·.push yv))).get? D=some (fw (its++[yv]) n9):=⟨_,by
     have z:=PySem.IsL.update eD (·.push yv)
     rw[ea]at z
     exact z⟩
    have keep9 : ∀ b o,b≠D->s8.heap.get? b=some o->(s8.heap.update D (Obj.mapSeq (·.push yv))).get? b=some o:=λb o hb e=>(Heap.get?_update_other _ _ (Ne.symm hb)).trans e
    have nfp : ∀ b∈fp,b≠D:=λb hb z=>gc (hfl b hb) leD z
    have I8u:ad (bJ X Nc scope C s H fp) pins σ6 H8 s8:=I8.pins_of λp hp=>I8.pin p (List.mem_append_right _ (List.mem_append_left _ (List.mem_append_left _ hp)))
    have I9:=I8u.turned (t':=s8.toks) (it:=D) keep9 nD hDC (.inr leD) (λx c e z=>gc (cellLt x c (clX x c e)) leD z) (λp hp z=>gc (pinLt p hp) leD z)
    have t9:tn (i+1) (s8.heap.update D (Obj.mapSeq (·.push yv))):=T.keep _ _ _ t8 λb hb o e=>keep9 b o (nfp b hb) e
    refine⟨m',hm,i+1,ys++[y],its++[yv],n9,σ6,H8,I9.pins_of λp hp=>?_,t9,f8,rv.append (.cons r8 .nil),w8⟩
    rcases List.mem_append.mp hp with z | z
    ·exact I9.pin p (List.mem_append_right _ z)
    ·have e:p=(D,fw (its++[yv]) n9):=by simpa using z
     subst e
     exact⟨e9,nD,hDC,λq=>gc (frm _ q) leD rfl,uS _ _⟩
 have st':=λ(s₃:Shared) (e:s₃ = { s with heap:=h₁,toks:=s.toks+([]:List (Str × Value)).length })=>loop s₃ e
 exact codeAny_compStart_list (loop _ rfl) (T.self _ 0 _ _ _ (T.keep _ _ _ st λb _ o e=>old b o e) (loop _ rfl))
theorem BI{wi:TI}{g:TG}{tt:TT}{te:TE}{pos:Pos}(hc:X.calm=true)(S:bZ X Nc nv caps scope)(hi:PI X tg iter wi)
 (hg : ∀ C s H fp,PG (bJ X Nc scope C s H fp) tg g) (ht : ∀ C s H fp,ju (bJ X Nc scope C s H fp) ifs tt) (he : ∀ C s H fp,PE (bJ X Nc scope C s H fp) elt te)
 (hs : ∀ x,foldedSetIterable iter X.env x=pure x:=by intro _; rfl):PE X (.ListComp elt [⟨tg,iter,ifs,0⟩] scope pos) (kJ nv caps wi g tt te):=by
 intro pins s σ H Q I h
 rw[eval_ListComp]
 have hcells : ∀ n,(n,NameKind.free)∈scope.names->∃ c,X.env.cells.lookup n=some c:=λn hm=>I.ok.has n (S.free n hm)
 refine wpAny_comprehension_free (use:=none) rfl hs (wC hcells) S.kind S.names (aj (hi pins s σ H _ I h) λv s1 h1=>aj h1 λitv s2 h2=>?_)
 obtain⟨it,fp,tn,J,H2,rfl,I2,T,st2,f2,W,⟨m0,w0⟩,turn⟩:=h2
 refine wA (RR:=λacc C=>compPost (model X.prog X.w) X.A X.xe none (EP X pins σ Q) acc C) hc S hg ht he I2 T st2 f2 w0 turn λD C s4 H4 I4 fC hn q=>?_
 obtain⟨m,hn⟩:=hn
 refine⟨m,hn,λh' sb=>?_⟩
 obtain⟨f0,f1,f2',f3,f4,f5⟩:=fC
 exact⟨.ref D,H4,I4.turned (t':=s4.toks) (it:=C) (λb o hb e=>sb.extBut b o hb e) f0 f1 f3 f4 f5,rfl,q⟩
theorem AX{wi:TI}{g:TG}{tt:TT}{te:TE}{pos spos py:Pos}{i:Nat}{y:Str}(hN:X.N.Nodup)(hy:X.N[i]? = some y)(hx:fe X.env.scope y)(hc:X.calm=true)(S:bZ X Nc nv caps scope)(hi:PI X tg iter wi)
 (hg : ∀ C s H fp,PG (bJ X Nc scope C s H fp) tg g) (ht : ∀ C s H fp,ju (bJ X Nc scope C s H fp) ifs tt) (he : ∀ C s H fp,PE (bJ X Nc scope C s H fp) elt te)
 (hsw:swapsWith (.ListComp elt [⟨tg,iter,ifs,0⟩] scope pos) (some (.Name y py)) spos.line X.env=pure true:=by rfl)
 (hs : ∀ x,foldedSetIterable iter X.env x=pure x:=by intro _; rfl) (hf:X.fn y=true\/X.env.scope.names.lookup y=some .local:=by first | exact .inl rfl | exact .inr rfl | assumption) :
 PS X (.Assign [.Name y py] (.ListComp elt [⟨tg,iter,ifs,0⟩] scope pos) spos) (iz (kJ nv caps wi g tt te) (bF i)):=by
 intro pins s σ H D0 I h
 have hcells : ∀ n,(n,NameKind.free)∈scope.names->∃ c,X.env.cells.lookup n=some c:=λn hm=>I.ok.has n (S.free n hm)
 rw[exec_Assign_Name_used _ _ _ _ hsw]
 refine wpAny_bind (wpAny_standAt (wpAny_bind ?_))
 show wpAny _ X.A (do let _ <- comprehension (.ListComp elt [⟨tg,iter,ifs,0⟩] scope pos) scope X.env _ (newList []) false (eval iter X.env) (some (assign (.Name y py) X.env))) _ _ s
 refine wpAny_bind (wpAny_mono (wpAny_comprehension_free (use:=some (assign (.Name y py) X.env)) (Q:=λ_ s'=>SP X pins D0 .next s') rfl hs (wC hcells) S.kind S.names
  (aj (hi pins s σ H _ I h) λv s1 h1=>aj h1 λitv s2 h2=>?_)) (λ_ s' hq=>wpAny_pure (wpAny_pure hq)) λ_ _ e=>e)
 obtain⟨it,fp,tn,J,H2,rfl,I2,T,st2,f2,W,⟨m0,w0⟩,turn⟩:=h2
 refine wA (RR:=λacc C=>compPost (model X.prog X.w) X.A X.xe (some (assign (.Name y py) X.env)) (λ_ s'=>SP X pins D0 .next s') acc C) (Q:=λx H1=>bF i x σ H1 D0.nx) hc S hg ht he I2 T st2 f2 w0 turn λD C s4 H4 I4 fC hn q=>?_
 obtain⟨m,hn⟩:=hn
 obtain⟨f0,f1,f2',f3,f4,f5⟩:=fC
 show wpAny _ X.A (assign (.Name y py) X.env (.ref D)) _ _ _
 refine wpAny_assign_Name (sy I4 hN hy hx (show aq (.ref D) (.ref D) from rfl) (λs5 I5 sb5=>?_) hf)
 obtain⟨a5,sb5,ha5⟩:=sb5
 have hCa:C≠a5:=by
  rcases ha5 with z | z
  ·rw[z]; exact f1
  ·exact λe=>f4 _ _ z e.symm
 refine⟨m,hn.sameBut sb5 hCa,λh' sb=>?_⟩
 exact⟨_,H4,I5.turned (t':=s5.toks) (it:=C) (λb o hb e=>sb.extBut b o hb e) f0 f1 f3 f4 f5,q⟩
end
theorem wz{K:W.Frag}{a:Addr}{xs:List V}{cs:St}{tt:TT}{te:TE}{H:Hp}{Q:VK}(Pv:Nat->List V->Hp->Prop)(h0:Pv 0 [] H)(hl : ∀ i ys H,i<=xs.length->Pv i ys H->ax K H a xs/\ys.length<=i)(hz:xs.length<=sizeLine)
 (hs : ∀ i x ys H (N:List V->Hp->Prop),xs[i]? = some x->Pv i ys H->(∀ ys' H',Pv (i+1) ys' H'->N ys' H')->tt (some x :: cs) H λb H4=>if b=true then te (some x :: cs) H4 λy H5=>N (ys++[y]) H5 else N ys H4)
 (hd : ∀ ys H p H',Pv xs.length ys H->aP H p (.lst ys) H'->Q (.ref p) H') :
 fM (iq K a) H (List.replicate 1 none++cs) (bF 0) tt te Q:=by
 refine⟨λi m ys σ H=>m=xs.length - i/\i<=xs.length/\Pv i ys H/\∃ v0,σ=v0 :: cs,⟨xs.length,by simp,Nat.zero_le _,h0,none,rfl⟩,?_⟩
 rintro i m ys σ H2 ⟨rfl,hi,p,v0,rfl⟩
 obtain⟨q,ql⟩:=hl i ys H2 hi p
 by_cases hlt:i < xs.length
 ·refine .inr ⟨⟨xs,xs[i],q,by simp[hlt]⟩,by omega,λys' σ' H'=>Pv (i+1) ys' H'/\∃ v0,σ'=v0 :: cs,λys' σ' H' ⟨p',e⟩=>⟨xs.length - (i+1),by omega,rfl,hlt,p',e⟩,λx H' y=>?_⟩
  obtain⟨e,y⟩:=y
  subst e
  exact hs i x ys H' (λys' H'=>Pv (i+1) ys' H'/\∃ v0,some x :: cs=v0 :: cs) (y xs q) p λ_ _ z=>⟨z,_,rfl⟩
 ·have e:i=xs.length:=by omega
  subst e
  exact .inl ⟨⟨xs,q,Nat.le_refl _⟩,by omega,λp' H' g=>hd ys H2 p' H' p g⟩
def eV{α:Type}(xs:List α)(lo hi:Option Int):List α:=(xs.drop (HT.sIx xs.length 0 lo)).take (HT.sIx xs.length xs.length hi - HT.sIx xs.length 0 lo)
theorem FE{α β:Type}(f:α->β)(xs:List α)(lo hi:Option Int):eV (xs.map f) lo hi=(eV xs lo hi).map f:=by
 unfold eV
 rw[List.length_map,List.map_take,List.map_drop]
theorem wx{α:Type}(xs:List α)(k:Nat):eV xs none (some (k:Int))=xs.take k:=by
 unfold eV HT.sIx
 simp only [List.drop_zero,Nat.sub_zero]
 have h : ¬ ((k:Int) < 0):=by omega
 rw[if_neg h,Int.toNat_natCast,<- List.take_take,List.take_length]
theorem wy{α:Type}(xs:List α)(k:Nat):eV xs (some (k:Int)) none=xs.drop k:=by
 unfold eV HT.sIx
 have h : ¬ ((k:Int) < 0):=by omega
 dsimp only
 rw[if_neg h,Int.toNat_natCast]
 by_cases hk:k<=xs.length
 ·rw[Nat.min_eq_left hk]
  exact List.take_of_length_le (by simp)
 ·rw[Nat.min_eq_right (by omega),List.drop_length,List.take_nil,List.drop_eq_nil_of_le (by omega)]
theorem mj{α:Type}(xs:List α)(k m:Nat):eV xs (some (k:Int)) (some ((k:Int)+(m:Int)))=(xs.drop k).take m:=by
 unfold eV HT.sIx
 have h : ¬ ((k:Int) < 0):=by omega
 have h' : ¬ ((k:Int)+(m:Int) < 0):=by omega
 have e:((k:Int)+(m:Int)).toNat=k+m:=by omega
 dsimp only
 rw[if_neg h,if_neg h',Int.toNat_natCast,e]
 by_cases hk:k<=xs.length
 ·rw[Nat.min_eq_left hk]
  by_cases hm:k+m<=xs.length
  ·rw[Nat.min_eq_left hm,Nat.add_sub_cancel_left]
  ·rw[Nat.min_eq_right (by omega),List.take_of_length_le (by simp),List.take_of_length_le (by simp; omega)]
 ·rw[Nat.min_eq_right (by omega:xs.length<=k),List.drop_length,List.take_nil,List.drop_eq_nil_of_le (by omega),List.take_nil]
def fI(ns ms:List Int):Int:=if ns=ms then 0 else if HT.lexLt ns ms=true then -1 else 1
theorem ia(ns:List Int)(lo hi:Option Int):cy (ns.map V.int) lo hi=(eV ns lo hi).map V.int:=FE _ _ _ _
theorem v8(ns ms:List Int):PyData.eqv (.list (ns.map PyData.int)) (.list (ms.map PyData.int))=decide (ns=ms):=by
 show PyData.eqvAll _ _=_
 exact W.ked_eqvAll ns ms
theorem pU{K:W.Frag}{H:Hp}{a b:Addr}{ns ms:List Int}{neg:Bool}{Q:VK}(h1:ax K H a (ns.map V.int))(h2:ax K H b (ms.map V.int))(q:Q (.bl (if neg then !decide (ns=ms) else decide (ns=ms))) H) :
 hX K neg (.ref a) (.ref b) H Q:=by
 refine⟨_,_,bu.lst h1 (cQ.ints ns),bu.lst h2 (cQ.ints ms),W.ke_shaped_ints ns,W.ke_shaped_ints ms,?_⟩
 rw[v8]
 exact q
structure QE (X:Cx) (e:Expr) (t:TE):Prop where
 h:PE X e t
structure QT (X:Cx) (e:Expr) (t:TT):Prop where
 h:PT X e t
structure QW (X:Cx) (e:Expr) (t:TT):Prop where
 h:PW X e t
structure QA (X:Cx) (es:List Expr) (t:TA):Prop where
 h:PA X es t
structure QS (X:Cx) (st:Stmt) (t:TS):Prop where
 h:PS X st t
structure d7 (X:Cx) (st:List Stmt) (t:TS):Prop where
 h:dk X st t
structure QG (X:Cx) (e:Expr) (t:TG):Prop where
 h:PG X e t
structure kj (X:Cx) (es:List Expr) (t:eY):Prop where
 h:ko X es t
structure QI (X:Cx) (tg e:Expr) (t:TI):Prop where
 h:PI X tg e t
structure QO (X:Cx) (e:Option Expr) (t:TO):Prop where
 h:PO X e t
structure mH (X:Cx) (es:List Expr) (t:TT):Prop where
 h:ju X es t
section
variable {X:Cx}{a b c e o:Expr}{es rest:List Expr}{pos p p2:Pos}{ta tb tc te to:TE}{tA tB' tt:TT}{t tk:TA}
theorem av{i j pos}:QE X (.Constant (.int i) j pos) (tC (.int i)):=⟨lm⟩
theorem gW{b j pos}:QE X (.Constant (.bool b) j pos) (tC (.bl b)):=⟨uo⟩
theorem cR{j pos}:QE X (.Constant .none j pos) (tC .non):=⟨ui⟩
theorem fT{x j pos}:QE X (.Constant (.str x) j pos) (tC (.str x)):=⟨uh⟩
theorem aa(i:Nat){x:Str}(hN:X.N[i]? = some x:=by rfl)(hv:ii X.env.scope x:=by first | exact Or.inl rfl | exact Or.inr (Or.inl rfl) | exact Or.inr (Or.inr rfl))(hd:(x == ("__debug__" : Str))=false:=by decide)
 (hcd:(x == ("__classdict__" : Str))=false:=by decide):QE X (.Name x pos) (mV i):=⟨vv i hN hv hd hcd⟩
theorem eK{x:Str}{n:Int}{u:Tok}(hm:X.mg x=some (.int n u))(hg:Gl X x:=by rfl)(hd:(x == ("__debug__" : Str))=false:=by decide):QE X (.Name x pos) (tC (.int n)):=⟨gi hm hg hd⟩
theorem jb {x:Str} {T:String} (hg:Gl X x) (hm:X.mg x=none) (hv:bootBuiltins x=some (.type T)) (hn:x ≠ "__name__":=by decide) (hd:(x == ("__debug__" : Str))=false:=by decide):QE X (.Name x pos) (tC (.ty T)):=⟨Gs hg hm hv hn hd⟩
theorem tU{j:Int}{k:Nat}(ha:QE X a ta)(hj:0 < j/\j < 1073741824:=by decide):QE X (.BinOp a .FloorDiv (.Constant (.int j) k p) pos) (uM j ta):=⟨CC ha.h hj⟩
theorem nS{j:Int}{k:Nat}(ha:QE X a ta)(hj:0 < j:=by decide):QE X (.BinOp a .Mod (.Constant (.int j) k p) pos) (uK j ta):=⟨CA ha.h hj⟩
theorem bO{op:Operator}{r:R2}(ho:aA X (binaryOp op) r)(ha:QE X a ta)(hb:QE X b tb):QE X (.BinOp a op b pos) (fj r ta tb):=⟨Bv ho ha.h hb.h⟩
theorem Aj{op:UnaryOp}{r:V->Hp->VK->Prop}(ho:kh X (unaryOp op) r)(ha:QE X a ta):QE X (.UnaryOp op a pos) (rT r ta):=⟨Bs ho ha.h⟩
theorem tT(ha:QE X a ta):QE X (.UnaryOp .Not a pos) (uJ ta):=⟨Cz ha.h⟩
theorem c8(ha:QE X a ta)(hb:QE X (.BoolOp .And (b :: rest) pos) tb):QE X (.BoolOp .And (a :: b :: rest) pos) (uO ta tb):=⟨CG ha.h hb.h⟩
theorem lh(ha:QE X a ta)(hb:QE X (.BoolOp .Or (b :: rest) pos) tb):QE X (.BoolOp .Or (a :: b :: rest) pos) (uI ta tb):=⟨Cy ha.h hb.h⟩
theorem dY{op}(h:QE X a ta):QE X (.BoolOp op [a] pos) ta:=⟨Bw h.h⟩
theorem dR{op:CmpOp}{r:R2}(ho:aA X (compareOp op) r)(ha:QE X a ta)(hb:QE X b tb)(hm:behindInMarks op b=false):QE X (.Compare a [op] [b] pos) (fj r ta tb):=⟨BJ ho ha.h hb.h hm⟩
theorem jN{op op':CmpOp}{r r':R2}(ho:aA X (compareOp op) r)(ho':aA X (compareOp op') r')(ha:QE X a ta)(hb:QE X b tb)(hc:QE X c tc)
 (hm:lastMarks [op,op'] [b,c]=false:=by with_unfolding_all rfl):QE X (.Compare a [op,op'] [b,c] pos) (lK r r' ta tb tc):=⟨CF ho ho' ha.h hb.h hc.h hm⟩
theorem kZ(hc:QT X c tA)(ha:QE X a ta)(hb:QE X b tb):QE X (.IfExp c a b pos) (sh tA ta tb):=⟨BA hc.h ha.h hb.h⟩
theorem jc(h:QW X e tt):QT X e tt:=⟨PW.pt h.h⟩
theorem tO(ha:QT X a tA):QW X (.BoolOp .And [a] pos) tA:=⟨AB ha.h⟩
theorem kW(ha:QT X a tA):QW X (.BoolOp .Or [a] pos) tA:=⟨Az ha.h⟩
theorem tP(ha:QT X a tA)(hb:QW X (.BoolOp .And (b :: rest) pos) tB'):QW X (.BoolOp .And (a :: b :: rest) pos) (sx tA tB'):=⟨AC ha.h hb.h⟩
theorem ja(ha:QT X a tA)(hb:QW X (.BoolOp .Or (b :: rest) pos) tB'):QW X (.BoolOp .Or (a :: b :: rest) pos) (rZ tA tB'):=⟨AA ha.h hb.h⟩
theorem ft(ha:QT X a tA):QT X (.UnaryOp .Not a pos) (r9 tA):=⟨AS ha.h⟩
theorem bw{op:CmpOp}{r:R2}(ho:aA X (compareOp op) r)(ha:QE X a ta)(hb:QE X b tb)(hm:behindInMarks op b=false):QT X (.Compare a [op] [b] pos) (mB (fj r ta tb)):=⟨Cg ho ha.h hb.h hm⟩
theorem Ap{op op':CmpOp}{r r':R2}(ho:aA X (compareOp op) r)(ho':aA X (compareOp op') r')(ha:QE X a ta)(hb:QE X b tb)(hc:QE X c tc)
 (hm:lastMarks [op,op'] [b,c]=false:=by with_unfolding_all rfl):QT X (.Compare a [op,op'] [b,c] pos) (mB (lK r r' ta tb tc)):=⟨Ch ho ho' ha.h hb.h hc.h hm⟩
theorem gX(h:QE X e te)(he : ∀ whole,isTrue e X.env whole=(do let v <- whole; standAt e.pos; holding [v] (truthy v)):=by intro _; rfl):QT X e (mB te):=⟨Cc h.h he⟩
theorem Ao(h:QE X e te)(he : ∀ whole,isTrue e X.env whole=(do let v <- whole; standAt e.pos; holding [v] (truthy v)):=by intro _; rfl):QT X e (oh X.K te):=⟨Cd h.h he⟩
theorem ai:QA X [] kH:=⟨ur⟩
theorem af(ha:QE X e te)(hr:QA X es t)(hs:cT e=false:=by rfl):QA X (e :: es) (mZ te t):=⟨uu ha.h hr.h hs⟩
theorem tS{vs:List V}(h:mq es=some vs):QA X es (su vs):=⟨ut h⟩
theorem cf(h:QA X es t):QE X (.List es pos) (uL t):=⟨CB h.h⟩
theorem bW{x1}(h:QA X es t):QE X (.Tuple es x1 pos) (uH t):=⟨Cw h.h⟩
theorem nT:QE X (.Dict [] [] pos) uN:=⟨CD⟩
theorem eI:QO X none sd:=⟨Bd⟩
theorem cr(h:QE X e te):QO X (some e) (rY te):=⟨Bc h.h⟩
theorem c7{r:V->Option Int->Option Int->Hp->VK->Prop}{lo hi:Option Expr}{tl th:TO}(hr:gf X r)(he:QE X e te)(hl:QO X lo tl)(hu:QO X hi th):QE X (.Subscript e (.Slice lo hi none p2) pos) (rW r te tl th):=⟨Bu hr he.h hl.h hu.h⟩
theorem aK{r:R2}(hr:dJ X r)(ha:QE X a ta)(hb:QE X b tb)(hs:wU b):QE X (.Subscript a b pos) (fj r ta tb):=⟨Bz hr ha.h hb.h hs⟩
section
variable {k j:Nat}{f:Addr}{fd:FuncData}{ps:List Str}{sp:Sp}{x:Str}
theorem aX(F:bj X.prog X.w X.K X.mg X.base x j f fd ps sp)(hr:aS k X.A)(ha:QA X (e :: es) t)(hj:j<=k:=by decide)(hg:Gl X x:=by rfl)
 (hdb:(x == ("__debug__" : Str))=false:=by decide) (hn:cu (e :: es)=true:=by rfl):QE X (.Call (.Name x p) (e :: es) [] pos) (m4 sp [] E0 t):=⟨FW F hr ha.h hj hg hdb hn⟩
theorem be{id:String}{r:List V->Hp->VK->Prop}(hc:bA X (.builtin id) r)(hm:X.mg x=none)(hv:bootBuiltins x=some (.builtin id))(ha:QA X (e :: es) t)(hg:Gl X x:=by rfl)(hx:x ≠ "__name__":=by decide)(hdb:(x == ("__debug__" : Str))=false:=by decide)
 (hn:cu (e :: es)=true:=by rfl):QE X (.Call (.Name x p) (e :: es) [] pos) (ix r t):=⟨FV hc hm hv ha.h hg hx hdb hn⟩
theorem c9{T:String}{r:List V->Hp->VK->Prop}(hc:bA X (.type T) r)(hm:X.mg x=none)(hv:bootBuiltins x=some (.type T))(ha:QA X (e :: es) t)(hg:Gl X x:=by rfl)(hx:x ≠ "__name__":=by decide)(hdb:(x == ("__debug__" : Str))=false:=by decide)
 (hn:cu (e :: es)=true:=by rfl):QE X (.Call (.Name x p) (e :: es) [] pos) (ix r t):=⟨FU hc hm hv ha.h hg hx hdb hn⟩
end
section
variable {name:Str}{apos cpos:Pos}{T id:String}{r:V->List V->Hp->VK->Prop}
theorem Am (pa:PlainAttrs T) (slot:Slot T name id) (hty:typeOf (.builtin id)=pure (.type "method_descriptor")) (hm:eZ X id r) (ho:QE X o to)
 (hbase:attributeBase o name X.env (eval o X.env)=eval o X.env:=by rfl) (hline:(apos.endLine == cpos.line)=true:=by rfl):QE X (.Call (.Attribute o name apos) [] [] cpos) (m5 X.K T r to):=⟨BN pa slot hty hm ho.h hbase hline⟩
theorem uD{env:Env}{pos:Pos} : ∀ {es:List Expr},cu es=true->(backTo pos (starEach es env)).all (λx=>!x.1)=true
 | [],_=>rfl
 | e :: r,h=>by
  obtain⟨h1,h2⟩:=cS h
  rw[cK h1]
  show (!false && (backTo pos (starEach r env)).all (λx=>!x.1))=true
  rw[uD h2]
  rfl
theorem An (pa:PlainAttrs T) (slot:Slot T name id) (hty:typeOf (.builtin id)=pure (.type "method_descriptor")) (hm:eZ X id r) (ho:QE X o to) (ha:QA X (e :: es) t)
 (hbase:attributeBase o name X.env (eval o X.env)=eval o X.env:=by rfl) (hn:cu (e :: es)=true:=by rfl) (hf:decide ((e :: es).length+0+0 < 30)=true:=by rfl)
 (hline:(apos.endLine == cpos.line)=true:=by rfl):QE X (.Call (.Attribute o name apos) (e :: es) [] cpos) (m7 X.K T r to t) :=
 ⟨BO pa slot hty hm ho.h ha.h hbase (by rw[uD hn]; exact hf) hline (cK (cS hn).1) (fU (cS hn).2)⟩
end
section
variable {st:Stmt}{sts ss2:List Stmt}{s t1 u1:TS}{tg it:Expr}{g:TG}{gs:eY}{wi:TI}
theorem bL:d7 X [] kI:=⟨AU⟩
theorem ap(h1:QS X st t1)(h2:d7 X sts u1):d7 X (st :: sts) (mX t1 u1):=⟨AV h1.h h2.h⟩
theorem au(h1:QS X st t1):d7 X [st] t1:=⟨AT h1.h⟩
theorem nL:QS X st se:=⟨A1⟩
theorem aJ(he:QE X e te):QS X (.Return (some e) pos) (rX te):=⟨AZ he.h⟩
theorem dQ(he:QE X e te)(hs:swapsWith e none pos.line X.env=pure false:=by rfl):QS X (.Expr e pos) (sk te):=⟨A5 he.h hs⟩
theorem bM(hc:QT X c tA)(ha:d7 X sts t1)(hb:d7 X ss2 u1):QS X (.If c sts ss2 pos) (mY tA t1 u1):=⟨A2 hc.h ha.h hb.h⟩
theorem aE{i:Nat}{x:Str}{pos':Pos}(hN:X.N.Nodup)(hi:X.N[i]? = some x)(hx:fe X.env.scope x)(he:QE X e te)(hs:swapsWith e (some (.Name x pos')) pos.line X.env=pure false:=by rfl)(hf:X.fn x=true\/X.env.scope.names.lookup x=some .local:=by first | exact .inl rfl | exact .inr rfl | assumption) :
 QS X (.Assign [.Name x pos'] e pos) (iz te (bF i)):=⟨AY hN hi hx he.h hs hf⟩
theorem Ab(he:QE X e te)(hg:QG X tg g)(hs:swapsWithSole [tg] e pos.line X.env=pure false:=by rfl)(hw:swappedStores [tg] e X.env=pure none:=by rfl)
 (h1:(assignEach [tg] X.env).map (·.2)=[assign tg X.env]:=by rfl):QS X (.Assign [tg] e pos) (iz te g):=⟨A8 he.h hg.h hs hw h1⟩
theorem aD{i:Nat}{x:Str}(hN:X.N.Nodup)(hi:X.N[i]? = some x)(hx:fe X.env.scope x)(hf:X.fn x=true\/X.env.scope.names.lookup x=some .local:=by first | exact .inl rfl | exact .inr rfl | assumption):QG X (.Name x pos) (bF i):=⟨Bq hN hi hx hf⟩
theorem cY:kj X [] jj:=⟨Bn⟩
theorem bq(h1:QG X e g)(h2:kj X es gs)(hs:(assignEach (e :: es) X.env).map (·.2)=assign e X.env :: (assignEach es X.env).map (·.2):=by rfl):kj X (e :: es) (eU g gs):=⟨Bo h1.h h2.h hs⟩
theorem Ai{k n:Nat}(hc:X.calm=true)(h:kj X es gs)(hn:(assignEach es X.env).length=n:=by rfl)(hst:(assignEach es X.env).findIdx? (·.1)=none:=by rfl):QG X (.Tuple es k pos) (hW X.K n gs):=⟨Bp hc h.h hn hst⟩
theorem Af{l:Expr}{tl:TE}(hl:QE X l tl):QI X tg l (oB X.K tl):=⟨Bj hl.h⟩
theorem nN (hg:Gl X "range") (hm:X.mg "range" = none) (ha:QA X [a] t) (hs:cT a=false:=by rfl):QI X tg (.Call (.Name "range" p) [a] [] pos) (vm t):=⟨Bi hg hm ha.h (cK hs)⟩
theorem bN{body:List Stmt}{tb1:TS}(hp:PassesOwn (model X.prog X.w) X.A X.env X.xe)(hc:X.calm=true)(hi:QI X tg it wi)(hg:QG X tg g)(hb:d7 X body tb1)
 (hs : ∀ x,foldedSetIterable it X.env x=pure x:=by intro _; rfl):QS X (.For tg it body [] pos) (si wi g tb1):=⟨A3 hp hc hi.h hg.h hb.h hs⟩
theorem nJ{body:List Stmt}{tb1:TS}(hp:PassesOwn (model X.prog X.w) X.A X.env X.xe)(hc:QT X c tA)(hb:d7 X body tb1):QS X (.While c body [] pos) (rS tA tb1):=⟨AW hp hc.h hb.h⟩
theorem fq:mH X [] fi:=⟨AK⟩
theorem kX(h:QT X c tA):mH X [c] tA:=⟨AJ h.h⟩
theorem eJ{scope:Scope}{Nc:List Str}{nv:Nat}{caps:List Nat}{ifs:List Expr}(hc:X.calm=true)(S:bZ X Nc nv caps scope)(hi:QI X tg it wi)
 (hg : ∀ C s H fp,QG (bJ X Nc scope C s H fp) tg g) (ht : ∀ C s H fp,mH (bJ X Nc scope C s H fp) ifs tt) (he : ∀ C s H fp,QE (bJ X Nc scope C s H fp) e te)
 (hs : ∀ x,foldedSetIterable it X.env x=pure x:=by intro _; rfl):QE X (.ListComp e [⟨tg,it,ifs,0⟩] scope pos) (kJ nv caps wi g tt te) :=
 ⟨BI hc S hi.h (λC s H fp=>(hg C s H fp).h) (λC s H fp=>(ht C s H fp).h) (λC s H fp=>(he C s H fp).h) hs⟩
theorem nK{scope:Scope}{Nc:List Str}{nv:Nat}{caps:List Nat}{ifs:List Expr}{spos py:Pos}{i:Nat}{y:Str}(hN:X.N.Nodup)(hy:X.N[i]? = some y)(hx:fe X.env.scope y)(hc:X.calm=true)(S:bZ X Nc nv caps scope)(hi:QI X tg it wi)
 (hg : ∀ C s H fp,QG (bJ X Nc scope C s H fp) tg g) (ht : ∀ C s H fp,mH (bJ X Nc scope C s H fp) ifs tt) (he : ∀ C s H fp,QE (bJ X Nc scope C s H fp) e te)
 (hsw:swapsWith (.ListComp e [⟨tg,it,ifs,0⟩] scope pos) (some (.Name y py)) spos.line X.env=pure true:=by rfl)
 (hs : ∀ x,foldedSetIterable it X.env x=pure x:=by intro _; rfl) (hf:X.fn y=true\/X.env.scope.names.lookup y=some .local:=by first | exact .inl rfl | exact .inr rfl | assumption) :
 QS X (.Assign [.Name y py] (.ListComp e [⟨tg,it,ifs,0⟩] scope pos) spos) (iz (kJ nv caps wi g tt te) (bF i)) :=
 ⟨AX hN hy hx hc S hi.h (λC s H fp=>(hg C s H fp).h) (λC s H fp=>(ht C s H fp).h) (λC s H fp=>(he C s H fp).h) hsw hs hf⟩
end
end
section
variable {X:Cx}{K:W.Frag}{a b c e o:Expr}{es rest:List Expr}{pos p p2:Pos}{ta tb tc te to:TE}{tA tB' tt:TT}{t tk:TA}
theorem aL(h:X.K=K):dJ X (vN K):=by subst h; exact EA
theorem dS(h:X.K=K):gf X (vL K):=by subst h; exact Ev
theorem cL(h:X.K=K):aA X (binaryOp .Add) (vS K):=by subst h; exact EX
theorem eT(h:X.K=K)(hu:X.A.units+64 < cLine):aA X (compareOp .Eq) (hX K false):=by subst h; exact EO hu
theorem jh(h:X.K=K)(hu:X.A.units+64 < cLine):aA X (compareOp .NotEq) (hX K true):=by subst h; exact Ex hu
theorem EL(h:X.K=K):aA X (compareOp .In) (vP K false):=by subst h; exact EM
theorem bR (h:X.K=K):bA X (.builtin "len") (oO K):=by subst h; exact Gf
theorem jp (h:X.K=K):bA X (.type "list") (oN K):=by subst h; exact Gc
theorem ic (h:X.K=K):bA X (.type "tuple") (oK K):=by subst h; exact FX
theorem wG (h:X.K=K) (hc:X.calm=true):bA X (.builtin "all") (oR K false):=by subst h; exact Gh hc
theorem jq (h:X.K=K):bA X (.builtin "isinstance") (oP K):=by subst h; exact Gg
theorem Ct (h:X.K=K):eZ X "list.extend" (oQ K):=by subst h; exact Cu
theorem k9(h:X.K=K)(q:QE X e te)(he : ∀ whole,isTrue e X.env whole=(do let v <- whole; standAt e.pos; holding [v] (truthy v)):=by intro _; rfl):QT X e (oh K te):=by subst h; exact Ao q he
theorem dz{tg l:Expr}{tl:TE}(h:X.K=K)(hl:QE X l tl):QI X tg l (oB K tl):=by subst h; exact Af hl
theorem cZ{k n:Nat}{gs:eY}(h:X.K=K)(hc:X.calm=true)(q:kj X es gs)(hn:(assignEach es X.env).length=n:=by rfl)(hst:(assignEach es X.env).findIdx? (·.1)=none:=by rfl):QG X (.Tuple es k pos) (hW K n gs):=by subst h; exact Ai hc q hn hst
theorem fu {name:Str} {apos cpos:Pos} {T id:String} {r:V->List V->Hp->VK->Prop} (h:X.K=K) (pa:PlainAttrs T) (slot:Slot T name id) (hty:typeOf (.builtin id)=pure (.type "method_descriptor")) (hm:eZ X id r) (ho:QE X o to) (ha:QA X (e :: es) t)
 (hbase:attributeBase o name X.env (eval o X.env)=eval o X.env:=by rfl) (hn:cu (e :: es)=true:=by rfl) (hf:decide ((e :: es).length+0+0 < 30)=true:=by rfl)
 (hline:(apos.endLine == cpos.line)=true:=by rfl):QE X (.Call (.Attribute o name apos) (e :: es) [] cpos) (m7 K T r to t):=by subst h; exact An pa slot hty hm ho ha hbase hn hf hline
theorem Ak {name:Str} {apos cpos:Pos} {T id:String} {r:V->List V->Hp->VK->Prop} (h:X.K=K) (pa:PlainAttrs T) (slot:Slot T name id) (hty:typeOf (.builtin id)=pure (.type "method_descriptor")) (hm:eZ X id r) (ho:QE X o to)
 (hbase:attributeBase o name X.env (eval o X.env)=eval o X.env:=by rfl) (hline:(apos.endLine == cpos.line)=true:=by rfl):QE X (.Call (.Attribute o name apos) [] [] cpos) (m5 K T r to):=by subst h; exact Am pa slot hty hm ho hbase hline
end
theorem aU.okQ{P:Program}{w:World}{K:W.Frag}{mg:Str->Option Value}{base:Heap}{x qual:Str}{st:Stmt}{f:Addr}{fd:FuncData}{N ps:List Str}{k:Nat}{sp:Sp}(F:aU K x qual st f fd)(S:aQ N ps (am st))(len : ∀ vs H Q E,sp vs H Q E->vs.length=ps.length)
 (hbody : ∀ (cdv:Value) (A:Around) (outer:List Env) (s:Shared) (H:Hp) (vs:List V) (Q:VK) (E:XK),aS k (A.deeper (envOfC qual (am st) s.heap.objs.size f cdv))->sp vs H Q E ->
   ∃ t,d7 (fH bI P w K mg base N qual (am st) f cdv A outer s H E).nox (aC st) t/\t { nx:=λ_ H'=>Q .non H',rt:=Q } (dX N vs) H):bt P w K mg base bI (k+1) f fd ps sp :=
 F.ok S len λcdv A outer s H vs Q E hr h=>let ⟨t,q,r⟩:=hbody cdv A outer s H vs Q E hr h; ⟨t,q.h,r⟩
section
variable {X:Cx}{pins:List (Addr × Obj)}{σ:St}{H:Hp}{s:Shared}{h':Heap}
theorem ad.turnedL{t':Nat}{fp:List Addr}(I:ad X pins σ H s)(k : ∀ b o,b∉fp->s.heap.get? b=some o->h'.get? b=some o)(hf : ∀ b∈fp,dL X pins H b):ad X pins σ H { s with heap:=h',toks:=t' }:=by
 have nit : ∀ b u,H b=some u->b∉fp:=λb u e z=>by rw[(hf b z).1]at e; cases e
 refine I.step (g':=s.gens) (d':=s.drawn) (ch:=fp) (λb hb=>?_) (λb o _ _ hc e _=>k b o hc e) (λb o _ _ hc e _=>⟨o.slots,k b o hc e⟩) (λ_ _ _ _ n=>n) (λb o hc e=>⟨o,k b o hc e⟩) (λ_ _ e=>e) (λ_ _ _ e=>e) (λb ps e=>⟨#[],by rw[e]; simp⟩) (λm hm=>?_) (λb u e=>?_) I.bare
 ·obtain⟨f0,f1,f2,f3,f4,f5⟩:=hf b hb
  exact⟨f3,f1,f4,f5⟩
 ·obtain⟨o,es,ep,ho,r⟩:=hm
  exact⟨o,es,ep,k _ o (λz=>(hf _ z).2.1 rfl) ho,r⟩
 ·refine (I.hok b u e).stay (λc v hc q=>k c v ?_ q) (λ_ q=>q) λ_ _ q=>q
  rcases hc with z | z
  ·rw[z]; exact nit b u e
  ·exact nit c _ z
theorem ad.turnedN{t':Nat}{fp:List Addr}{T:Addr}{ob:HO}(I:ad X pins σ H s)(k : ∀ b o,b∉fp->s.heap.get? b=some o->h'.get? b=some o)(hf : ∀ b∈fp,dL X pins H b)(hT:s.heap.objs.size<=T)
 (new:aO X.prog X.w (upd H T ob) h' T ob):ad X pins σ (upd H T ob) { s with heap:=h',toks:=t' }:=by
 have I1:ad X pins σ H { s with heap:=h',toks:=t' }:=I.turnedL k hf
 have hn:H T=none:=I.hok.fresh hT
 have ne : ∀ b u,H b=some u->b≠T:=λb u e z=>by rw[z,hn]at e; cases e
 refine I.step (g':=s.gens) (d':=s.drawn) (ch:=fp) (λb hb=>?_) (λb o _ _ hc e _=>k b o hc e) (λb o _ _ hc e _=>⟨o.slots,k b o hc e⟩) (λb o _ e n=>?_) (λb o hc e=>⟨o,k b o hc e⟩) (λb xs e=>by rw[ak (ne b _ e)]; exact e) (λb o u e=>by rw[ak (ne b _ e)]; exact e) (λb ps e=>⟨#[],by rw[ak (ne b _ e),e]; simp⟩) (λm hm=>?_) (I1.hok.adopt hn new) I.bare
 ·obtain⟨f0,f1,f2,f3,f4,f5⟩:=hf b hb
  exact⟨f3,f1,f4,f5⟩
 ·rw[ak (λz=>absurd (Nat.lt_of_lt_of_le (Heap.lt_size e) (by rw[z]; exact hT)) (Nat.lt_irrefl _))]
  exact n
 ·obtain⟨o,es,ep,ho,r⟩:=hm
  exact⟨o,es,ep,k _ o (λz=>(hf _ z).2.1 rfl) ho,r⟩
end
def ir(K:W.Frag)(a:Addr):It :=
 ⟨λi H=>∃ xs x,ax K H a xs/\xs[i]? = some x,λi H x H'=>∃ p v,x=.ref p/\(∀ xs,ax K H a xs->xs[i]? = some v)/\aP H p (.tup [.int (i:Int),v]) H',λi H=>∃ xs,ax K H a xs/\xs.length<=i⟩
theorem lC{P:Program}{w:World}{H:Hp}{h:Heap}{T:Addr}{v1 v2:V}{u1 u2:Value}(hT:h.IsTuple T #[u1,u2])(r1:aq v1 u1)(r2:aq v2 u2):aO P w (upd H T (.tup [v1,v2])) h T (.tup [v1,v2]):=by
 refine⟨sz rfl,[u1,u2],.cons r1 (.cons r2 .nil),?_⟩
 exact hT
theorem x6{P:Program}{w:World}{K:W.Frag}{es:List Expr}{kk:Nat}{pp:Pos}(a e it:Addr)(hei:e≠it):dg P w K (.Tuple es kk pp) (ir K a) [e,it] e (λi h=>(∃ old,IsEnum h e it i old)/\h.IsListIter it a i) where
 mem:=by simp
 obj:=λi h st b hb=>by
  obtain⟨⟨old,h1⟩,o,e2,c,d⟩:=st
  have hb':b=e\/b=it:=by simpa using hb
  rcases hb' with z | z
  ·subst z
   exact⟨_,h1,λv z=>by cases (show Data.fields _=Data.cell v from z)⟩
  ·subst z
   exact⟨o,e2,λv z=>by rw[d]at z; cases z⟩
 keep:=λi h h' st k=>by
  obtain⟨⟨old,h1⟩,h2⟩:=st
  exact⟨⟨old,k e (by simp) _ h1⟩,h2.at λo x=>k it (by simp) o x⟩
 item:=by
  intro X hP hw hK hc i pins s σ H E I hf st hg
  subst hP hw hK
  obtain⟨⟨old,h1⟩,h2⟩:=st
  obtain⟨xs,x,hq,hx⟩:=hg
  obtain⟨its,rv,p,hz⟩:=I.list hq
  obtain⟨u,hu,ru⟩:=rv.get hx
  have helt:e < s.heap.objs.size:=Heap.lt_size h1
  have hilt:it < s.heap.objs.size:=by obtain⟨_,z,_⟩:=h2; exact Heap.lt_size z
  refine wpAny_pyNext_enum_item h1 h2 p.isList (x:=u) (by simpa using hu) hei λh' ho hit' hT hsz hk=>?_
  refine⟨_,rfl,wpAny_letOwnedTupleGo_enum (s:={ s with heap:=h',toks:=s.toks+1 }) ho λh'' he' hs'=>?_⟩
  have hTe:s.heap.objs.size≠e:=Nat.ne_of_gt helt
  have hT2:h''.get? s.heap.objs.size=some { cls:=.type "tuple",data:=.seq #[.int i s.toks,u] }:=(hs'.2 _ hTe).trans hT
  have I2:ad X pins σ (upd H s.heap.objs.size (.tup [.int (i:Int),x])) { s with heap:=h'',toks:=s.toks+1 }:=by
   refine I.turnedN (fp:=[e,it]) (λb o hb eo=>?_) hf (Nat.le_refl _) (lC ⟨_,hT2,rfl,_,rfl⟩ ⟨_,rfl⟩ ru)
   have hbe:b≠e:=λz=>hb (by simp[z])
   have hbi:b≠it:=λz=>hb (by simp[z])
   exact (hs'.2 b hbe).trans (hk b o hbe hbi eo)
  refine⟨.ref s.heap.objs.size,_,I2,rfl,⟨_,x,rfl,λys hy=>by rw[I.list_inj hy hq]; exact hx,.mk' I.fresh⟩,⟨⟨_,by simpa using he'⟩,hit'.at λo y=>(hs'.2 it hei.symm).trans y⟩,λb hb=>?_⟩
  have hb':b=e\/b=it:=by simpa using hb
  rw[ak (by rcases hb' with z | z <;> (rw[z]; first | exact Nat.ne_of_lt helt | exact Nat.ne_of_lt hilt))]
  exact (hf b hb).1
 done:=by
  intro X hP hw hK hc i pins s σ H E I hf st hg
  subst hP hw hK
  obtain⟨⟨old,h1⟩,h2⟩:=st
  obtain⟨xs,hq,hx⟩:=hg
  obtain⟨its,rv,p,hz⟩:=I.list hq
  have hl:=rv.length
  refine wpAny_pyNext_enum_end (I.ok.hd hc) h1 h2 p.isList (by simp; omega) λh' eb=>⟨rfl,I.turnedL (t':=s.toks) (fp:=[e,it]) (λb o hb eo=>eb b o (λz=>hb (by simp[z])) eo) hf⟩
 self:=λ_ _ _ _ _ st h=>wpAny_pyIter_enum st.1.choose_spec h
def vt(K:W.Frag)(ta:TA):TI:=λσ H R=>ta σ H λvs H1=>∃ a xs,vs=[.ref a]/\ax K H1 a xs/\R (ir K a) H1
section
variable {X:Cx}{tg:Expr}{es:List Expr}{kk:Nat}{pp:Pos}
theorem Bm {a:Expr} {ta:TA} {p pos:Pos} (hg:Gl X "enumerate") (hm:X.mg "enumerate" = none) (ha:PA X [a] ta) (hs:starEach [a] X.env=[(false,eval a X.env)]:=by rfl):PI X (.Tuple es kk pp) (.Call (.Name "enumerate" p) [a] [] pos) (vt X.K ta):=by
 intro pins s σ H R I h
 refine Call_ (fA I hg hm boot_enumerate (PyProof.Rows.callWith_type1 (aj (ha pos pins s σ H _ I h) λus s1 ⟨vs,H1,I1,r1,q1⟩=>?_) hs rfl))
 obtain⟨l,xs,e,hq,q⟩:=q1
 subst e
 cases r1 with
 | cons r rr =>
  cases rr
  cases r
  obtain⟨its,rv,pl,hz⟩:=I1.list hq
  refine call_enumerate_list pl.isList λh' he hit hsz hk=>?_
  refine wpAny_pyIter_enum (s:={ s1 with heap:=h' }) he ?_
  have I2:ad X pins σ H1 { s1 with heap:=h' }:=I1.kept (t':=s1.toks) hk
  refine⟨s1.heap.objs.size+1,[s1.heap.objs.size+1,s1.heap.objs.size],_,ir X.K l,H1,rfl,I2,x6 l _ _ (Nat.succ_ne_self _),⟨⟨_,he⟩,hit⟩,λb hb=>?_,q⟩
  have hb':b=s1.heap.objs.size+1\/b=s1.heap.objs.size:=by simpa using hb
  have hle:s1.heap.objs.size<=b:=by
   rcases hb' with z | z
   ·rw[z]; exact Nat.le_succ _
   ·rw[z]; exact Nat.le_refl _
  exact I1.fpOk hle (I1.hok.fresh hle)
end
def rE(lo c:Int)(n:Nat):It:=⟨λi _=>i < n,λi H x H'=>H'=H/\x=.int (lo+i*c),λi _=>n<=i⟩
theorem xX{P:Program}{w:World}{K:W.Frag}{tg:Expr}(it:Addr)(lo c:Int)(n:Nat):dg P w K tg (rE lo c n) [it] it (λi h=>IsRangeIter h it (lo+(i:Nat)*c) ((n:Int) - (i:Nat)) c) where
 mem:=by simp
 obj:=λi h st b hb=>by
  have e:b=it:=by simpa using hb
  subst e
  exact⟨_,st,λv z=>by
   have z':Data.fields _=Data.cell v:=z
   cases z'⟩
 keep:=λi h h' st k=>k it (by simp) _ st
 item:=by
  intro X hP hw hK hc i pins s σ H E I hf st hg
  subst hP hw hK
  obtain⟨f0,f1,f2,f3,f4,f5⟩:=hf it (by simp)
  have W:=Walks.range (prog:=X.prog) (w:=X.w) (I.ok.hd hc) it lo c n
  refine W.item i s _ _ hg st λv h' tk hv st' kk=>?_
  obtain⟨t,rfl⟩:=hv
  have I1:ad X pins σ H { s with heap:=h',toks:=tk }:=I.turned (λb o hb e=>kk b o (by simpa using hb) e) f0 f1 f3 f4 f5
  exact⟨_,rfl,fZ (s:={ s with heap:=h',toks:=tk }) (n := "range_iterator") st' rfl rfl (by decide) ⟨.int (lo+i*c),H,I1,⟨t,rfl⟩,⟨rfl,rfl⟩,st',λb hb=>(hf b hb).1⟩⟩
 done:=by
  intro X hP hw hK hc i pins s σ H E I hf st hg
  subst hP hw hK
  obtain⟨f0,f1,f2,f3,f4,f5⟩:=hf it (by simp)
  exact wpAny_pyNext_range_end (I.ok.hd hc) st (by have:n<=i:=hg; omega) λh' eb=>⟨rfl,I.turned (t':=s.toks) (λb o hb e=>eb b o hb e) f0 f1 f3 f4 f5⟩
 self:=λ_ _ _ _ _ st h=>wpAny_pyIter_rangeiter st h
def vk(ta:TA):TI:=λσ H R=>ta σ H λvs H1=>∃ (n c:Nat),vs=[.int 0,.int (n:Int),.int (c:Int)]/\n<=1000000000/\0 < c/\c<=1000000/\R (rE 0 (c:Int) ((n+(c - 1)) / c)) H1
theorem y8{n c:Nat}(hn:n<=1000000000)(h0:0 < c)(hc:c<=1000000):Builtin.Range.rangeSize 0 (n:Int) (c:Int)=(((n+(c - 1)) / c:Nat):Int)/\Builtin.Range.small 0 (n:Int) (c:Int)=true:=by
 have e:Builtin.Range.rangeSize 0 (n:Int) (c:Int)=(((n+(c - 1)) / c:Nat):Int):=by
  rw[rangeSize_pos (by omega) (by omega)]
  rw[Int.natCast_ediv]
  congr 1
  omega
 refine⟨e,?_⟩
 have hle:(n+(c - 1)) / c<=n+(c - 1):=Nat.div_le_self _ _
 have hmul:(((n+(c - 1)) / c:Nat):Int)*(c:Int)<=n+(c - 1):=by
  have:=Nat.div_mul_le_self (n+(c - 1)) c
  rw[<- Int.natCast_mul]
  omega
 unfold Builtin.Range.small
 rw[e]
 generalize (n+(c - 1)) / c=k at hle hmul ⊢
 simp only [Builtin.Range.rangeFitsLong,Bool.and_eq_true,Bool.or_eq_true,decide_eq_true_eq,beq_iff_eq]
 refine⟨by omega,Or.inr ?_⟩
 rw[if_pos (by omega)]
 simp only [Bool.and_eq_true,decide_eq_true_eq]
 omega
section
variable {X:Cx}{tg:Expr}
theorem Bh {a b d:Expr} {ta:TA} {p pos:Pos} (hg:Gl X "range") (hm:X.mg "range" = none) (ha:PA X [a,b,d] ta) (hs:starEach [a,b,d] X.env=(false,eval a X.env) :: starEach [b,d] X.env:=by rfl) (hpl:(backTo pos (starEach [b,d] X.env)).any (·.1)=false:=by rfl) :
 PI X tg (.Call (.Name "range" p) [a,b,d] [] pos) (vk ta):=by
 intro pins s σ H R I h
 refine Call_ (fA I hg hm boot_range (PyProof.Rows.callWith_type1 (aj (ha pos pins s σ H _ I h) λus s1 ⟨vs,H1,I1,r1,q1⟩=>?_) hs hpl))
 obtain⟨n,c,e,q1,q2,q3,q⟩:=q1
 subst e
 cases r1 with
 | cons r rr =>
  cases rr with
  | cons r' rr =>
   cases rr with
   | cons r'' rr =>
    cases rr
    obtain⟨t,rfl⟩:=r
    obtain⟨t',rfl⟩:=r'
    obtain⟨t'',rfl⟩:=r''
    obtain⟨e,sm⟩:=y8 q1 q2 q3
    refine call_range_3 (by omega) ?_ (Or.inl (PyProof.noPylong_small (by omega)))
    refine wpAny_pyIter_range (IsRange.new ..) sm ?_
    have I2:ad X pins σ H1 { s1 with heap:=s1.heap.push { cls:=.type "range",data:=.fields #[.int 0 t,.int n t',.int c t''] },toks:=s1.toks }:=I1.kept λb o e=>Heap.get?_push_of_some _ e
    refine⟨_,[_],_,_,H1,rfl,I2.kept (t':=s1.toks) λb o e=>Heap.get?_push_of_some _ e,xX _ 0 (c:Int) ((n+(c - 1)) / c),?_,λb hb=>?_,q⟩
    ·show IsRangeIter _ _ (0+((0:Nat):Int)*_) ((((n+(c - 1)) / c:Nat):Int) - ((0:Nat):Int)) _
     have e1:(0:Int)+((0:Nat):Int)*(c:Int)=0:=by simp
     have e2:((((n+(c - 1)) / c:Nat):Int) - ((0:Nat):Int))=Builtin.Range.rangeSize 0 (n:Int) (c:Int):=by rw[e]; simp
     rw[e1,e2]
     exact Heap.get?_push_size _ rfl
    ·have e:=List.mem_singleton.mp hb
     subst e
     exact I2.fpOk (Nat.le_refl _) (I2.hok.fresh (Nat.le_refl _))
theorem vV{K:W.Frag}{a:Addr}{xs:List V}{g:TG}{tb:TS}{D:cP}{σ:St}{H:Hp}(Pv:Nat->St->Hp->Prop)(h0:Pv 0 σ H)(hl : ∀ i σ H,i<=xs.length->Pv i σ H->ax K H a xs)
 (hs : ∀ i x p σ H H',xs[i]? = some x->Pv i σ H->aP H p (.tup [.int (i:Int),x]) H'->g (.ref p) σ H' λσ2 H2=>tb { D with nx:=Pv (i+1),ct:=Pv (i+1),bk:=D.nx } σ2 H2) (hd : ∀ σ H,Pv xs.length σ H->D.nx σ H) :
 ∃ W:Nat->Nat->St->Hp->Prop,(∃ m,W 0 m σ H)/\∀ i m σ H,W i m σ H ->
  ((ir K a).stop i H/\D.nx σ H)\/((ir K a).go i H/\∃ N:St->Hp->Prop,(∀ σ' H',N σ' H'->∃ m',m' < m/\W (i+1) m' σ' H')/\∀ x H',(ir K a).yld i H x H'->g x σ H' λσ2 H2=>tb { D with nx:=N,ct:=N,bk:=D.nx } σ2 H2):=by
 refine⟨λi m σ H=>m=xs.length - i/\i<=xs.length/\Pv i σ H,⟨xs.length,by simp,Nat.zero_le _,h0⟩,?_⟩
 rintro i m σ H ⟨rfl,hi,p⟩
 have q:=hl i σ H hi p
 by_cases hlt:i < xs.length
 ·refine .inr ⟨⟨xs,xs[i],q,by simp[hlt]⟩,Pv (i+1),λσ' H' p'=>⟨xs.length - (i+1),by omega,rfl,hlt,p'⟩,λx H' y=>?_⟩
  obtain⟨pp,v,rfl,y,gr⟩:=y
  exact hs i v pp σ H H' (y xs q) p gr
 ·have e:i=xs.length:=by omega
  subst e
  exact .inl ⟨⟨xs,q,Nat.le_refl _⟩,hd σ H p⟩
end
def oM(K:W.Frag):List V->Hp->VK->Prop:=λxs H Q=>match xs with
 | [.ref p]=>∃ ns:List Int,ax K H p (ns.map V.int)/\Q (.int ns.sum) H
 | _=>False
theorem ue(ns:List Int) : ∀ k,k<=ns.length->preSum (λi=>(ns[i]?).getD 0) k=(ns.take k).sum
 | 0,_=>by simp[preSum]
 | k+1,h=>by
  have hk:k < ns.length:=by omega
  rw[preSum,ue ns k (by omega),<- List.take_append_getElem hk,List.sum_append]
  simp[List.getElem?_eq_getElem hk]
theorem FZ {X:Cx} (hc:X.calm=true):bA X (.builtin "sum") (oM X.K):=by
 intro pins s σ H xs us Q I r q
 unfold oM at q
 split at q
 ·rename_i p
  obtain⟨ns,hq,q⟩:=q
  obtain⟨u,rfl,rx⟩:=gx r
  cases rx
  obtain⟨its,rv,pl,_⟩:=I.list hq
  have hl:=rv.length
  rw[List.length_map]at hl
  have hlt:p < s.heap.objs.size:=by
   obtain⟨o,n,e,_⟩:=pl
   exact Heap.lt_size e
  have hne:p≠s.heap.objs.size:=Nat.ne_of_lt hlt
  refine call_sum_walkG (wpAny_pyIter_list pl.isList ⟨s.heap.objs.size,_,_,_,_,_,λi=>(ns[i]?).getD 0,rfl,Walks.list (A:=X.A.in1) (show X.A.in1.handled=none from I.ok.hd hc) s.heap.objs.size p hne its.toArray,⟨⟨_,Heap.get?_push_size _ rfl,rfl,rfl⟩,?_⟩,λb hb=>?_,λi v hv=>?_,λh' tk t' k=>?_⟩)
  ·exact pl.isList.at λo e=>Heap.get?_push_of_some _ e
  ·have hb':b=s.heap.objs.size\/b=p:=by simpa using hb
   show b < (s.heap.push _).objs.size
   rw[Heap.size_push]
   rcases hb' with z | z
   ·rw[z]; exact Nat.lt_succ_self _
   ·rw[z]; exact Nat.lt_succ_of_lt hlt
  ·have hi:i < its.length:=by
    have:=(Array.getElem?_eq_some_iff.mp hv).1
    simpa using this
   have hb:i < ns.length:=by omega
   obtain⟨u,hu,ru⟩:=rv.get (i:=i) (x:=V.int ns[i]) (by simp[hb])
   have e:its.toArray[i]? = some u:=by simpa using hu
   rw[e]at hv
   cases hv
   obtain⟨t,rfl⟩:=ru
   exact⟨t,by simp[hb]⟩
  ·refine⟨.int ns.sum,H,I.kept (h':=h') (t':=tk) λb o e=>k b o (λz=>?_) (Heap.get?_push_of_some _ e),⟨t',?_⟩,q⟩
   ·have e':b=s.heap.objs.size:=by simpa using z
    exact absurd (Heap.lt_size e) (by rw[e']; exact Nat.lt_irrefl _)
   ·rw[List.size_toArray,<- hl,ue ns _ (Nat.le_refl _),List.take_length]
 ·exact q.elim
theorem FK{K:W.Frag}{a:Addr}{xs:List V}{cs:St}{tt:TT}{te:TE}{H:Hp}{Q:VK}(Pv:Nat->List V->Hp->Prop)(h0:Pv 0 [] H)(hl : ∀ i ys H,i<=xs.length->Pv i ys H->ax K H a xs/\ys.length<=i)(hz:xs.length<=sizeLine)
 (hs : ∀ i x ys H H' (N:List V->Hp->Prop),xs[i]? = some x->Pv i ys H->ag H H'->(∀ ys' H',Pv (i+1) ys' H'->N ys' H')->tt (some (.int (i:Int)) :: some x :: cs) H' λb H4=>if b=true then te (some (.int (i:Int)) :: some x :: cs) H4 λy H5=>N (ys++[y]) H5 else N ys H4)
 (hd : ∀ ys H p H',Pv xs.length ys H->aP H p (.lst ys) H'->Q (.ref p) H') :
 fM (ir K a) H (List.replicate 2 none++cs) (hW K 2 (eU (bF 0) (eU (bF 1) jj))) tt te Q:=by
 refine⟨λi m ys σ H=>m=xs.length - i/\i<=xs.length/\Pv i ys H/\∃ v0 v1,σ=v0 :: v1 :: cs,⟨xs.length,by simp,Nat.zero_le _,h0,none,none,rfl⟩,?_⟩
 rintro i m ys σ H2 ⟨rfl,hi,p,v0,v1,rfl⟩
 obtain⟨q,ql⟩:=hl i ys H2 hi p
 by_cases hlt:i < xs.length
 ·refine .inr ⟨⟨xs,xs[i],q,by simp[hlt]⟩,by omega,λys' σ' H'=>Pv (i+1) ys' H'/\∃ v0 v1,σ'=v0 :: v1 :: cs,λys' σ' H' ⟨p',e⟩=>⟨xs.length - (i+1),by omega,rfl,hlt,p',e⟩,λx H' y=>?_⟩
  obtain⟨pp,v,rfl,y,gr⟩:=y
  refine⟨pp,_,rfl,gr.tup,rfl,_,_,rfl,_,_,rfl,rfl,?_⟩
  exact hs i v ys H2 H' (λys' H'=>Pv (i+1) ys' H'/\∃ v0 v1,some (V.int (i:Int)) :: some v :: cs=v0 :: v1 :: cs) (y xs q) p gr.sm λ_ _ z=>⟨z,_,_,rfl⟩
 ·have e:i=xs.length:=by omega
  subst e
  exact .inl ⟨⟨xs,q,Nat.le_refl _⟩,by omega,λp' H' g=>hd ys H2 p' H' p g⟩
section
variable {X:Cx}{K:W.Frag}{a b c e o:Expr}{es rest:List Expr}{pos p p2 pos2:Pos}{t:TA}{kk:Nat}
theorem FY (h:X.K=K) (hc:X.calm=true):bA X (.builtin "sum") (oM K):=by subst h; exact FZ hc
theorem nP (h:X.K=K) (hg:Gl X "enumerate") (hm:X.mg "enumerate" = none) (ha:QA X [a] t) (hs:cT a=false:=by rfl):QI X (.Tuple es kk p2) (.Call (.Name "enumerate" p) [a] [] pos) (vt K t):=by subst h; exact⟨Bm hg hm ha.h (cK hs)⟩
theorem Ae {tg:Expr} (hg:Gl X "range") (hm:X.mg "range" = none) (ha:QA X [a,b,c] t) (hs:cT a=false:=by rfl) (hs2:cT b=false:=by rfl) (hs3:cT c=false:=by rfl):QI X tg (.Call (.Name "range" p) [a,b,c] [] pos) (vk t) :=
 ⟨Bh hg hm ha.h (cK hs) (by rw[cK hs2,cK hs3]; rfl)⟩
end
theorem aP.after{H H1 H2:Hp}{p:Addr}{o:HO}(s:ag H H1)(g:aP H1 p o H2):aP H p o H2:=⟨s.free g.nw,s.trans g.sm,g.at_⟩
theorem rR{α:Type}{rs:List α}{i:Nat}{y:α}(h:rs[i]? = some y):rs.take (i+1)=rs.take i++[y]:=by rw[List.take_add_one,h]; rfl
theorem Ec{α β:Type}{xs:List α}{rs:List β}{i:Nat}{x:α}(hl:rs.length=xs.length)(h:xs[i]? = some x) : ∃ y,rs[i]? = some y:=by
 have:=(List.getElem?_eq_some_iff.mp h).1
 exact⟨rs[i]'(by omega),by simp⟩
theorem mv{K:W.Frag}{a:Addr}{xs:List V}{cs:St}{te:TE}{H:Hp}{Q:VK}(rs:List V)(hl:rs.length=xs.length)(hq:ax K H a xs)(hz:xs.length<=sizeLine)
 (hs : ∀ (i:Nat) x y H' (N:VK),xs[i]? = some x->rs[i]? = some y->ag H H'->(∀ H'',ag H' H''->N y H'')->te (some x :: cs) H' N) (hd : ∀ p H',aP H p (.lst rs) H'->Q (.ref p) H') :
 fM (iq K a) H (List.replicate 1 none++cs) (bF 0) fi te Q:=by
 refine wz (λi ys H'=>ag H H'/\ys=rs.take i) ⟨ag.refl _,rfl⟩ (λi ys H' hi z=>⟨z.1.seq hq,by rw[z.2,List.length_take]; omega⟩) hz (λi x ys H' N hx z hN=>?_) λys H' p H'' z g=>?_
 ·obtain⟨s,rfl⟩:=z
  obtain⟨y,hy⟩:=Ec hl hx
  simp only [fi,if_true]
  exact hs i x y H' _ hx hy s λH'' s'=>hN _ _ ⟨s.trans s',by rw[rR hy]⟩
 ·obtain⟨s,rfl⟩:=z
  rw[<- hl,List.take_length]at g
  exact hd p H'' (g.after s)
theorem oz{ns:List Int}{i:Nat}{x:V}(h:(ns.map V.int)[i]? = some x) : ∃ p,ns[i]? = some p/\x=.int p:=by
 rw[List.getElem?_map]at h
 cases e:ns[i]? with
 | none=>rw[e]at h; cases h
 | some p=>rw[e]at h; cases h; exact⟨p,rfl,rfl⟩
theorem kN{t u:TS}{D:cP}{σ:St}{H:Hp}(M:St->Hp->Prop)(h1 : ∀ nx:St->Hp->Prop,(∀ σ' H',M σ' H'->nx σ' H')->t { D with nx:=nx } σ H)(h2 : ∀ σ' H',M σ' H'->u D σ' H'):mX t u D σ H:=h1 (u D) h2
structure jB (P:Program) (w:World) (K:W.Frag) (mg:Str->Option Value) (base:Heap) (C:Addr) (m:Str) (k:Nat) (f:Addr) (fd:FuncData) (ps:List Str) (sp:Sp):Prop where
 c:dt K C
 mt:dF K C m f
 b:ay K fd ps []
 ok:bt P w K mg base bI k f fd ps sp
structure Ii (P:Program) (w:World) (K:W.Frag) (mg:Str->Option Value) (base:Heap) (x:Str) (C:Addr) (k:Nat) (f:Addr) (fd:FuncData) (ps:List Str) (sp:Sp):Prop where
 g:mg x=some (.ref C)
 mkx:Mk K C f
 b:ay K fd ps []
 ok:bt P w K mg base bI k f fd ps sp
section
variable {X:Cx}{K:W.Frag}{k j:Nat}{f C:Addr}{fd:FuncData}{ps:List Str}{sp:Sp}{x m:Str}{p pos apos pos':Pos}{e o value:Expr}{es:List Expr}{ta tv:TE}{t:TA}
theorem lw{X:Cx}:gj bI X E0:=λ_ _ _ _ _ _ _ z=>z.elim
theorem Aq{pl:Sem Bool}(F:jB X.prog X.w X.K X.mg X.base C m j f fd ps sp)(hr:aS k X.A)(ho:QE X o ta)(ha:QA X (e :: es) t)(hj:j<=k:=by decide)(hn:cu (e :: es)=true:=by rfl)
 (ht:eval (.Call (.Attribute o m apos) (e :: es) [] pos) X.env=(do
   let ov <- eval o X.env
   standAt apos.atName
   let (f,first) <- holding [ov] (getMethod ov m pl)
   callWith pos f first (backTo pos (starEach (e :: es) X.env)) (backToKw pos (keywordEach [] X.env))):=by rfl) :
 QE X (.Call (.Attribute o m apos) (e :: es) [] pos) (jI C m sp [] E0 ta t) :=
 ⟨uj (pl:=pl) ho.h F.c F.mt F.ok (hr.mono hj) F.b .nil lw ha.h (cK (cS hn).1) (fU (cS hn).2) ht⟩
theorem nR{pl:Sem Bool}(F:jB X.prog X.w X.K X.mg X.base C m j f fd ps sp)(hr:aS k X.A)(ho:QE X o ta)(hj:j<=k:=by decide)
 (ht:eval (.Call (.Attribute o m apos) [] [] pos) X.env=(do
   let ov <- eval o X.env
   standAt apos.atName
   let (f,first) <- holding [ov] (getMethod ov m pl)
   callWith pos f first (backTo pos (starEach [] X.env)) (backToKw pos (keywordEach [] X.env))):=by rfl) :
 QE X (.Call (.Attribute o m apos) [] [] pos) (jI C m sp [] E0 ta kH) :=
 ⟨Bx (pl:=pl) ho.h F.c F.mt F.ok (hr.mono hj) F.b .nil lw ht⟩
theorem gY{f:Str}(h:X.K=K)(he:QE X e ta)(hb:attributeBase e f X.env (eval e X.env)=eval e X.env:=by rfl):QE X (.Attribute e f pos) (sj K ta f):=by subst h; exact⟨BC he.h hb⟩
theorem nM{f:Str}(h:X.K=K)(ha:QE X o ta)(hv:QE X value tv)(hs:swapsWith value (some (.Attribute o f pos')) pos.line X.env=pure false:=by rfl):QS X (.Assign [.Attribute o f pos'] value pos) (tp K ta tv f):=by subst h; exact⟨A4 ha.h hv.h hs⟩
end
structure Ib (K:W.Frag) (C:Addr):Prop where
 makes:W.makesIn K C=true
 init:W.findIn K (.ref C) "__init__" = some (some (.builtin "object.__init__"))
 kp:W.keepIn K (.ref C)=true
structure gp (K:W.Frag) (x qual:Str) (st:Stmt) (f:Addr) (fd:FuncData) (vs:List Value):Prop where
 ex : ∃ (oc:Value) (od:Option Addr) (kV doc pm:Value) (an:Option Addr) (cdv ct:Value) (osl:Array (Option Value)) (d:Addr) (dc:Value) (dd:Option Addr) (n:Nat) (dsl:Array (Option Value)),
  fd=W.fnOf x qual (aI st) (aC st) (am st) (.ref d) kV doc pm an cdv ct/\K.lookup f=some ⟨oc,od,.func fd,osl⟩/\W.codeIn K cdv qual=true/\K.lookup d=some ⟨dc,dd,.seq vs.toArray n,dsl⟩
 kp:W.keepIn K (.ref f)=true
section
variable {P:Program}{w:World}{K:W.Frag}{mg:Str->Option Value}{base:Heap}{x qual:Str}{st:Stmt}{f:Addr}{fd:FuncData}{N ps:List Str}{k:Nat}{sp:Sp}{vs:List Value}
theorem gp.okQ(F:gp K x qual st f fd vs)(S:aQ N ps (am st))(len : ∀ vs H Q E,sp vs H Q E->vs.length=ps.length)
 (hbody : ∀ (cdv:Value) (A:Around) (outer:List Env) (s:Shared) (H:Hp) (vs:List V) (Q:VK) (E:XK),aS k (A.deeper (envOfC qual (am st) s.heap.objs.size f cdv))->sp vs H Q E ->
   ∃ t,d7 (fH bI P w K mg base N qual (am st) f cdv A outer s H E).nox (aC st) t/\t { nx:=λ_ H'=>Q .non H',rt:=Q } (dX N vs) H):bt P w K mg base bI (k+1) f fd ps sp:=by
 obtain⟨oc,od,kV,doc,pm,an,cdv,ct,osl,d,dc,dd,n,dsl,rfl,lk,hcd,_⟩:=F.ex
 refine oW lk hcd S len λA outer s H vs Q E hr hsp=>?_
 obtain⟨t,h,q⟩:=hbody cdv A outer s H vs Q E hr hsp
 exact⟨t,h.h.nox,q⟩
theorem oU{oc dc:Value}{od an dd:Option Addr}{osl dsl:Array (Option Value)}{kV doc pm cdv ct:Value}{d:Addr}{n:Nat}(l:K.lookup f=some ⟨oc,od,.func (W.fnOf x qual (aI st) (aC st) (am st) (.ref d) kV doc pm an cdv ct),osl⟩)
 (c:W.codeIn K cdv qual=true) (k:W.keepIn K (.ref f)=true) (ld:K.lookup d=some ⟨dc,dd,.seq vs.toArray n,dsl⟩):gp K x qual st f (W.fnOf x qual (aI st) (aC st) (am st) (.ref d) kV doc pm an cdv ct) vs :=
 ⟨⟨oc,od,kV,doc,pm,an,cdv,ct,osl,d,dc,dd,n,dsl,rfl,l,c,ld⟩,k⟩
theorem gp.binds{ds:List Value}(F:gp K x qual st f fd vs)
 (h : ∀ (d:Addr) (kV doc pm:Value) (an:Option Addr) (cdv ct:Value) (us:List Value),(us++ds).length=ps.length->∃ kk:Option (Array Value)->Sem (List (Str × Value)),
   bindArgs (W.fnOf x qual (aI st) (aC st) (am st) (.ref d) kV doc pm an cdv ct) ⟨us,[]⟩=seqItems? (.ref d) >>= kk/\kk (some vs.toArray)=pure (ps.zip (us++ds))):ay K fd ps ds:=by
 obtain⟨oc,od,kV,doc,pm,an,cdv,ct,osl,d,dc,dd,n,dsl,rfl,lk,hcd,ld⟩:=F.ex
 intro s us KX hl
 obtain⟨kk,h1,h2⟩:=h d kV doc pm an cdv ct us hl
 exact BindsTo.of_defaults (T:=d) rfl (KX _ _ ld) rfl h1 h2
end
structure mL (P:Program) (w:World) (K:W.Frag) (mg:Str->Option Value) (base:Heap) (C:Addr) (m:Str) (k:Nat) (f:Addr) (fd:FuncData) (ps:List Str) (dvs:List V) (sp:Sp):Prop where
 c:dt K C
 mt:dF K C m f
 b : ∃ ds,ay K fd ps ds/\ar dvs ds
 ok:bt P w K mg base bI k f fd ps sp
section
variable {X:Cx}{k j:Nat}{f C:Addr}{fd:FuncData}{ps:List Str}{sp:Sp}{m:Str}{pos apos:Pos}{e o:Expr}{es:List Expr}{ta:TE}{t:TA}{dvs:List V}
theorem nQ{pl:Sem Bool}(F:mL X.prog X.w X.K X.mg X.base C m j f fd ps dvs sp)(hr:aS k X.A)(ho:QE X o ta)(ha:QA X (e :: es) t)(hj:j<=k:=by decide)(hn:cu (e :: es)=true:=by rfl)
 (ht:eval (.Call (.Attribute o m apos) (e :: es) [] pos) X.env=(do
   let ov <- eval o X.env
   standAt apos.atName
   let (f,first) <- holding [ov] (getMethod ov m pl)
   callWith pos f first (backTo pos (starEach (e :: es) X.env)) (backToKw pos (keywordEach [] X.env))):=by rfl) :
 QE X (.Call (.Attribute o m apos) (e :: es) [] pos) (jI C m sp dvs E0 ta t):=by
 obtain⟨ds,hb,hd⟩:=F.b
 exact⟨uj (pl:=pl) ho.h F.c F.mt F.ok (hr.mono hj) hb hd lw ha.h (cK (cS hn).1) (fU (cS hn).2) ht⟩
end
def vI:Value->Option Int
 | .int k _=>some k
 | _=>none
def vR:Value->Option Addr
 | .ref a=>some a
 | _=>none
def dictOf:List DictEntry->Option (List (Int × Addr))
 | []=>some []
 | e :: r=>(vI e.key).bind λk=>(vR e.val).bind λa=>if e.hash == hashInt k then (dictOf r).bind λl=>some ((k,a) :: l) else none
structure Ip (K:W.Frag) (a:Addr) (m:List (Int × Addr)):Prop where
 ex : ∃ es ep,K.lookup a=some ⟨.type "dict",none,.dict es ep,#[]⟩/\dictOf es.toList=some m
 nd:(m.map (·.1)).Nodup
 ns:(a == sysModules)=false
structure ke (h:Heap) (e C:Addr) (od:Option Addr) (tb:Value) (oe:Obj) (vs:Array Value) (q:Bool:=false):Prop where
 at_:h.get? e=some oe
 cls:oe.cls=.ref C
 dict:oe.dict=od
 data:oe.data=.fields vs
 size:vs.size=6
 tb1:vs[1]? = some tb
 cx:q=false->vs[2]? = some .none
def ro(h:Heap)(e T:Addr)(fl:Value):Prop:=∃ oT ts,h.get? T=some oT/\oT.data=.fields ts/\ts[3]? = some fl/\T≠e
section
variable {M:Model}{A:Around}{E:Value->Shared->Prop}{s:Shared}
structure Ia (l:List Env) (e C T':Addr) (od:Option Addr) (tb fl:Value) (h h':Heap) (q:Bool:=false):Prop where
 keep : ∀ b o,h.get? b=some o->b≠e->.ref b≠tb->b∉cw l->h'.get? b=some o
 slot : ∀ b o,h.get? b=some o->b∈cw l->∃ sl,h'.get? b=some { o with slots:=sl }
 there : ∀ b o,h.get? b=some o->∃ o',h'.get? b=some o'
 new:h.objs.size<=T'
 size:h.objs.size<=h'.objs.size
 exc : ∃ oe vs,ke h' e C od (.ref T') oe vs q
 ent:ro h' e T' fl
def Hm(h:Heap)(e:Addr)(tb:Value):Prop:=tb=.none\/∃ T,tb=.ref T/\ro h e T .none
end
def xφ(e C:Addr)(od:Option Addr)(q:Bool):Heap->Prop:=λh=>∃ tb oe vs,ke h e C od tb oe vs q
def xν(e C:Addr)(od:Option Addr):Heap->Prop:=λh=>∃ oe vs,ke h e C od .none oe vs
def XO(e C:Addr)(od:Option Addr)(q:Bool:=false):HO:=.ext (xφ e C od q)
def XN(e C:Addr)(od:Option Addr):HO:=.ext (xν e C od)
def rJ(P:Program)(w:World):du:=λouter H s E v s'=>∃ (e C T:Addr) (od:Option Addr) (q:Bool) (H':Hp) (oe:Obj) (vs:Array Value),v=.ref e/\s'.os=s.os/\AllBare s'.gens /\
 Un (cw outer) [] H H' s.heap s'.heap/\aT P w H' s'.heap/\H' e=some (XO e C od q)/\s.heap.get? e=none/\s.heap.objs.size<=T/\s.heap.objs.size<=s'.heap.objs.size/\H' T=none /\
 ke s'.heap e C od (.ref T) oe vs q/\ro s'.heap e T .none/\E (.ref C) (some e) H'
def Hs(X:Cx)(pins:List (Addr × Obj))(Es:St->XK)(v:Value)(s':Shared):Prop:=∃ (σ:St) (H':Hp) (e C:Addr) (od:Option Addr) (q:Bool) (tb:Value) (oe:Obj) (vs:Array Value),v=.ref e/\ad X pins σ H' s' /\
 H' e=some (XO e C od q)/\ke s'.heap e C od tb oe vs q/\Hm s'.heap e tb/\(∀ T,tb=.ref T->H' T=none/\X.s₀.heap.objs.size<=T/\∀ p∈X.pn++pins,p.1≠T)/\(X.ex=[]->X.s₀.heap.get? e=none)/\Es σ (.ref C) (some e) H'
structure Ic (X:Cx) (Es:St->XK):Prop where
 up : ∀ pins v s',Hs X pins Es v s'->X.xe v s'
structure Ie (P:Program) (w:World) (K:W.Frag) (mg:Str->Option Value) (base:Heap) (x:Str) (k:Nat) (f:Addr) (fd:FuncData) (ps:List Str) (dvs:List V) (sp:Sp):Prop where
 g:mg x=some (.ref f)
 kp:W.keepIn K (.ref f)=true
 b : ∃ ds,ay K fd ps ds/\ar dvs ds
 ok:bt P w K mg base (rJ P w) k f fd ps sp
structure Ig (P:Program) (w:World) (K:W.Frag) (mg:Str->Option Value) (base:Heap) (C:Addr) (m:Str) (k:Nat) (f:Addr) (fd:FuncData) (ps:List Str) (dvs:List V) (sp:Sp):Prop where
 c:dt K C
 mt:dF K C m f
 b : ∃ ds,ay K fd ps ds/\ar dvs ds
 ok:bt P w K mg base (rJ P w) k f fd ps sp
structure Ih (P:Program) (w:World) (K:W.Frag) (mg:Str->Option Value) (base:Heap) (x:Str) (C:Addr) (k:Nat) (f:Addr) (fd:FuncData) (ps:List Str) (dvs:List V) (sp:Sp):Prop where
 g:mg x=some (.ref C)
 mkx:Mk K C f
 b : ∃ ds,ay K fd ps ds/\ar dvs ds
 ok:bt P w K mg base (rJ P w) k f fd ps sp
abbrev wI:List Value:=[.type "ValueError",.type "Exception",.type "BaseException",.type "object"]
structure w5 (P:Program) (w:World) (K:W.Frag) (mg:Str->Option Value) (base:Heap) (x:Str) (C:Addr) (k:Nat) (f:Addr) (fd:FuncData) (ps:List Str) (dvs:List V) (sp:Sp):Prop where
 g:mg x=some (.ref C)
 mkx:Mk K C f
 b : ∃ ds,ay K fd ps ds/\ar dvs ds
 ok:bt P w K mg base bI k f fd ps sp
section
variable {X:Cx}{k j:Nat}{f C:Addr}{fd:FuncData}{ps:List Str}{sp:Sp}{x:Str}{p pos:Pos}{e:Expr}{es:List Expr}{t:TA}{dvs:List V}
theorem Au(F:w5 X.prog X.w X.K X.mg X.base x C j f fd ps dvs sp)(hr:aS k X.A)(ha:QA X (e :: es) t)(hj:j+1<=k:=by decide)(hg:Gl X x:=by rfl)(hdb:(x == ("__debug__" : Str))=false:=by decide)(hn:cu (e :: es)=true:=by rfl) :
 QE X (.Call (.Name x p) (e :: es) [] pos) (sf C sp dvs E0 t):=by
 obtain⟨ds,hb,hd⟩:=F.b
 exact⟨By F.mkx F.ok (hr.mono hj) hg F.g hb hd lw ha.h hdb (cK (cS hn).1) (fU (cS hn).2)⟩
end
end L2
namespace L2
open PySem PySem.Spec PyProof.Rows PySem.W
structure rm (K:W.Frag) (C:Addr):Prop where
 ga:findIn K (.ref C) "__getattribute__" = some (some (.builtin "BaseException.__getattribute__"))
 noga:findIn K (.ref C) "__getattr__" = some none
 base:mroIn K C (.type "BaseException")=some true
 obj:mroIn K C (.type "object")=some true
 hd:hasDictIn K C=true
 cls:findIn K (.ref C) "__class__" = some (some (.builtin "object.__class__"))
 clsG:specialIn K (.builtin "object.__class__") "__get__" = some (some (.builtin "getset_descriptor.__get__"))
 clsT:takesIn K (.builtin "object.__class__")=some true
inductive rn (K:W.Frag) (H:Hp):V->Value->Prop where
 | of {x:V} {t:Value} (h:cz K H x t):rn K H x t
 | exc {e C:Addr} {q:Bool} (h:H e=some (XO e C none q)) (c:rm K C):rn K H (.ref e) (.ref C)
def vY(K:W.Frag)(C:Addr)(bmB:List Value)(newId:String):Bool:=match K.lookup C with
 | some ⟨.type "type",_,.cls cd,sl⟩=>(match cd.mro,sl.toList with
  | .ref C' :: bm,[_,_,_,_,some (.builtin n),_]=>C' == C && (n == newId && (!cd.hasDel && (W.tailIn K bmB bm && W.nsOkIn K cd.ns)))
  | _,_=>false)
 | _=>false
structure wX (K:W.Frag) (C f:Addr):Prop where
 x:vY K C wI "ValueError.__new__" = true
 init:W.findIn K (.ref C) "__init__" = some (some (.ref f))
 fn:W.isFn K (.ref f)=true
 kp:W.keepIn K (.ref C)=true
structure Il (P:Program) (w:World) (K:W.Frag) (mg:Str->Option Value) (base:Heap) (x:Str) (C:Addr) (k:Nat) (f:Addr) (fd:FuncData) (ps:List Str) (sp:Sp):Prop where
 g:mg x=some (.ref C)
 mkx:wX K C f
 b:ay K fd ps []
 ok:bt P w K mg base bI k f fd ps sp
section
variable {X:Cx}{pins:List (Addr × Obj)}{σ:St}{H:Hp}{s:Shared}{h':Heap}{e C d0:Addr}{fs:List (Str × V)}{f:Str}
structure HZ (K:W.Frag) (C:Addr):Prop where
 x:vY K C wI "ValueError.__new__" = true
 c:rm K C
 sa:W.findIn K (.ref C) "__setattr__" = some (some (.builtin "object.__setattr__"))
end
structure Ir (K:W.Frag) (Y:Addr):Prop where
 sp:W.specialIn K (.ref Y) "__getattribute__" = some (some (.builtin "type.__getattribute__"))
 rd:W.readsIn K Y (.type "type")=true
 fc:W.findCls K (.ref Y) (.type "type") "__init__" = some (.val (.builtin "ValueError.__init__"))
inductive wS (K:W.Frag) (H:Hp):V->Value->Prop where
 | of {x:V} {t:Value} (h:rn K H x t):wS K H x t
 | exd {e C d0:Addr} {fs:List (Str × V)} (h:H e=some (XN e C (some d0))\/∃ q,H e=some (XO e C (some d0) q)) (hd:H d0=some (.xd fs)) (c:rm K C):wS K H (.ref e) (.ref C)
structure Ho (k:Nat) (A:Around):Prop where
 dp:A.depth+3*k+5 < recursionLimit
 un:A.units+16*k+200 < cLine
structure w9 (P:Program) (w:World) (K:W.Frag) (mg:Str->Option Value) (base:Heap) (k:Nat) (f:Addr) (fd:FuncData) (ps:List Str) (sp:Sp):Prop where
 len : ∀ vs H Q E,sp vs H Q E->vs.length=ps.length
 run : ∀ (A:Around) (outer:List Env) (s:Shared) (H:Hp) (args:Args) (us:List Value) (vs:List V) (Q:VK) (E:XK),Ho k A->dM P w K mg base A outer s H->BindsTo s fd args (ps.zip us)->ar vs us->sp vs H Q E ->
  codeAny (model P w) A (.call (.ref f) args) (CR bI outer P w H s Q E) s
structure Ik (P:Program) (w:World) (K:W.Frag) (mg:Str->Option Value) (base:Heap) (x:Str) (C:Addr) (k:Nat) (f:Addr) (fd:FuncData) (ps:List Str) (sp:Sp):Prop where
 g:mg x=some (.ref C)
 mkx:wX K C f
 b:ay K fd ps []
 ok:w9 P w K mg base k f fd ps sp
section
variable {X:Cx}{k j:Nat}{f C:Addr}{fd:FuncData}{ps:List Str}{sp:Sp}{x m:Str}{p pos:Pos}{e:Expr}{es:List Expr}{t:TA}{dvs:List V}{ds:List Value}{Es:St->XK}
structure Ij (P:Program) (w:World) (K:W.Frag) (mg:Str->Option Value) (base:Heap) (x:Str) (k:Nat) (f:Addr) (fd:FuncData) (ps:List Str) (sp:Sp):Prop where
 g:mg x=some (.ref f)
 kp:W.keepIn K (.ref f)=true
 b:ay K fd ps []
 ok:w9 P w K mg base k f fd ps sp
end
section
variable {X:Cx}{K:W.Frag}{o i value:Expr}{td ty tv:TE}{pos pos':Pos}
theorem li(hu:X.A.units+64 < cLine)(ho:QE X o td)(hi:QE X i ty)(hs:jv i:=by intro _ _; rfl):QE X (.Subscript o i pos) (sr td ty):=⟨BG (by omega) ho.h hi.h hs⟩
theorem jP(hu:X.A.units+64 < cLine)(ho:QE X o td)(hi:QE X i ty)(hv:QE X value tv)(hs:swapsWith value (some (.Subscript o i pos')) pos.line X.env=pure false:=by rfl):QS X (.Assign [.Subscript o i pos'] value pos) (tw td ty tv):=⟨A6 (by omega) ho.h hi.h hv.h hs⟩
end
section
variable {X:Cx}{K:W.Frag}
def E3:R2:=λy x H Q=>∃ a ov,x=.ref a/\cC H a y ov/\Q (.bl ov.isSome) H
theorem EK(hu:X.A.units+64 < cLine):aA X (compareOp .In) E3:=by
 intro pins s σ H x y v u Q I rx ry q
 obtain⟨a,ov,rfl,g,q⟩:=q
 obtain rfl:u=Value.ref a:=ry
 exact Fw (by omega) I g rx λs' I'=>⟨.bl ov.isSome,H,I',rfl,q⟩
end
section
open HT
variable {prog:Program}{w:World}{A:Around}{E:Value->Shared->Prop}{s:Shared}
theorem Ef{t sl:Addr}{items:Array Value}{vl vu:Value}{lo hi:Option Int}{Q:Value->Shared->Prop}(ht:IsTup s.heap t items)(hs:s.heap.IsSliceOf sl vl vu .none)(pl:IsPart vl lo)(pu:IsPart vu hi)
 (hw:sIx items.size 0 lo=0/\sIx items.size items.size hi=items.size) (h:Q (.ref t) s):wpAny (model prog w) A (getItem (.ref t) (.ref sl)) Q E s:=by
 obtain⟨os,hos,hcs,hds⟩:=id hs
 have hTs:s.TypeIs (.ref sl) "slice":=⟨os,hos,hcs⟩
 unfold getItem
 try with_reducible refine wpAny_holding ?_
 first | refine wpAny_bind (wpAny_pure ?_) | skip
 refine wpAny_bind (wpAny_sequenceKey ht.typeIs (by decide) ?_)
 refine wpAny_bind (wpAny_callSpecial?_slot (name:=Str.ofString "__getitem__") ht.typeIs PyProof.Rows.slot_tuple_getitem
  (wpAny_call_entry PyProof.Rows.slot_tuple_getitem ht.typeIs entry_tuple_getitem ?_ (args_tuple_getitem _ _)))
 show wpAny _ _ (Builtin.Tuple.tupleItemsOf (.ref t) >>= _) _ _ s
 refine wpAny_bind (tupleItemsOf_ ht ?_)
 refine wpAny_bind (wpAny_typeOf hTs ?_)
 rw[if_pos (by decide)]
 refine wpAny_bind (sR hs pl pu ?_)
 have hyes:((((sIx items.size 0 lo:Nat):Int) == 0 && (1:Int) == 1 && (sIx items.size items.size hi - sIx items.size 0 lo) == items.size)=true):=by
  rw[hw.1,hw.2]
  simp
 show wpAny _ _ (if (((sIx items.size 0 lo:Nat):Int) == 0 && (1:Int) == 1 && (sIx items.size items.size hi - sIx items.size 0 lo) == items.size)=true then _ else _) _ _ s
 rw[if_pos hyes]
 unfold Builtin.Tuple.tupleIsExact
 refine wpAny_bind (wpAny_bind (wpAny_typeOf ht.typeIs (wpAny_pure ?_)))
 rw[if_pos (by decide)]
 refine wpAny_bind (wpAny_rule ?_)
 first
  | exact wpAny_pure ⟨_,rfl,wpAny_pure h⟩
  | exact wpAny_bind (wpAny_pure ⟨_,rfl,wpAny_pure h⟩)
  | exact wpAny_bind (wpAny_pure (wpAny_pure ⟨_,rfl,wpAny_pure h⟩))
end
section
variable {X:Cx}{K:W.Frag}{pos:Pos}
def CP:TE:=λ_ H Q=>∀ p H',aP H p (.dT []) H'->Q (.ref p) H'
theorem tV:QE X (.Dict [] [] pos) CP:=⟨BD.imp λσ H Q q=>λp hp=>q p _ (.mk' hp)⟩
def vK(K:W.Frag):V->Option Int->Option Int->Hp->VK->Prop:=λx lo hi H Q=>match x with
 | .ref a=>∃ xs,bT K H a xs/\H a=some (.tup xs)/\∀ p H',ag H H'->H' p=some (.tup (cy xs lo hi))->Q (.ref p) H'
 | _=>False
theorem Eu:gf X (vK X.K):=by
 intro pins s σ H x v vl vu lo hi sl Q I rx hs pl pu q
 cases x with
 | ref a =>
  obtain⟨xs,h1,h2,q⟩:=q
  by_cases hw:HT.sIx xs.length 0 lo=0/\HT.sIx xs.length xs.length hi=xs.length
  ·cases rx
   obtain⟨its,r,ht,hz⟩:=I.tuple h1
   have hlen:its.toArray.size=xs.length:=by rw[List.size_toArray]; exact r.length.symm
   refine⟨"tuple",_,PyProof.Rows.slot_tuple_getitem.lookup,ht.typeIs,?_⟩
   refine Ef ht hs pl pu (by rw[hlen]; exact hw) ?_
   refine⟨.ref a,H,I,rfl,q a H (ag.refl _) ?_⟩
   rw[h2]
   unfold cy
   rw[hw.1,hw.2,List.drop_zero,List.take_of_length_le (by omega)]
  ·exact zb pins s σ H _ v vl vu lo hi sl Q I rx hs pl pu ⟨a,xs,rfl,h1,hw,λp hp=>q p _ (aP.mk' hp).sm (aP.mk' hp).at_⟩
 | _=>exact False.elim q
theorem vG(h:X.K=K):gf X (vK K):=by subst h; exact Eu
end
open PySem.AutoSeq1 (wpAny_loadPart')
open PySem.MeetsSeq
theorem wP{f:Nat->Int} : ∀ {k:Nat} (i:Nat),i<=k->f i<=f (argBest (λi j=>decide (f i > f j)) k)
 | 0,i,h=>by
  obtain rfl:i=0:=by omega
  exact Int.le_refl _
 | k+1,i,h=>by
  have ih:=wP (f:=f) (k:=k)
  unfold argBest
  by_cases c:f (k+1) > f (argBest (λi j=>decide (f i > f j)) k)
  ·simp only [decide_eq_true c,if_true]
   by_cases e:i=k+1
   ·rw[e]; exact Int.le_refl _
   ·have:=ih i (by omega); omega
  ·rw[if_neg (by rw[decide_eq_false c]; decide)]
   by_cases e:i=k+1
   ·rw[e]; omega
   ·exact ih i (by omega)
section
variable {X:Cx}{K:W.Frag}
def vM(K:W.Frag):List V->Hp->VK->Prop:=λxs H Q=>match xs with
 | [.ref p]=>∃ ns:List Int,ax K H p (ns.map V.int)/\ns≠[]/\∀ m∈ns,(∀ n∈ns,n<=m)->Q (.int m) H
 | _=>False
theorem Ga (h:X.K=K) (hc:X.calm=true):bA X (.builtin "max") (vM K):=by
 subst h
 intro pins s σ H xs us Q I r q
 unfold vM at q
 split at q
 ·rename_i p
  obtain⟨ns,hq,hne0,q⟩:=q
  obtain⟨u,rfl,rx⟩:=gx r
  cases rx
  obtain⟨its,rv,pl,_⟩:=I.list hq
  have hl:=rv.length
  rw[List.length_map]at hl
  have hpos:0 < ns.length:=List.length_pos_iff.mpr hne0
  have hlt:p < s.heap.objs.size:=by
   obtain⟨o,n,e,_⟩:=pl
   exact Heap.lt_size e
  have hne:p≠s.heap.objs.size:=Nat.ne_of_lt hlt
  have hval : ∀ (i:Nat) (v:Value),its.toArray[i]? = some v->∃ t,v=.int ((ns[i]?).getD 0) t/\i < ns.length:=λi v hv=>by
   have hi:i < its.length:=by
    have:=(Array.getElem?_eq_some_iff.mp hv).1
    simpa using this
   have hb:i < ns.length:=by omega
   obtain⟨u,hu,ru⟩:=rv.get (i:=i) (x:=V.int ns[i]) (by simp[hb])
   have e:its.toArray[i]? = some u:=by simpa using hu
   rw[e]at hv
   cases hv
   obtain⟨t,rfl⟩:=ru
   exact⟨t,by simp[hb],hb⟩
  refine call_max_walk (wpAny_pyIter_list pl.isList ⟨s.heap.objs.size,_,_,_,_,_,λi j=>decide ((ns[i]?).getD 0 > (ns[j]?).getD 0),rfl,Walks.list (A:=X.A.in1) (show X.A.in1.handled=none from I.ok.hd hc) s.heap.objs.size p hne its.toArray,⟨⟨_,Heap.get?_push_size _ rfl,rfl,rfl⟩,?_⟩,λb hb=>?_,?_,CmpOf.ints_gt (λi=>(ns[i]?).getD 0) (λi v hv=>?_),λv h' tk hv k=>?_⟩)
  ·exact pl.isList.at λo e=>Heap.get?_push_of_some _ e
  ·have hb':b=s.heap.objs.size\/b=p:=by simpa using hb
   show b < (s.heap.push _).objs.size
   rw[Heap.size_push]
   rcases hb' with z | z
   ·rw[z]; exact Nat.lt_succ_self _
   ·rw[z]; exact Nat.lt_succ_of_lt hlt
  ·rw[List.size_toArray,<- hl]; exact hpos
  ·obtain⟨t,e,_⟩:=hval i v hv
   exact⟨t,e⟩
  ·obtain⟨t,e,hb⟩:=hval _ v hv
   refine⟨.int _,H,I.kept (h':=h') (t':=tk) λb o e=>k b o (λz=>?_) (Heap.get?_push_of_some _ e),⟨t,e⟩,q _ ?_ ?_⟩
   ·have e':b=s.heap.objs.size:=by simpa using z
    exact absurd (Heap.lt_size e) (by rw[e']; exact Nat.lt_irrefl _)
   ·rw[List.getElem?_eq_getElem hb]; exact List.getElem_mem hb
   ·intro n hn
    obtain⟨i,hi,rfl⟩:=List.mem_iff_getElem.mp hn
    have:=wP (f:=λi=>(ns[i]?).getD 0) (k:=its.toArray.size - 1) i (by rw[List.size_toArray]; omega)
    simpa [hi] using this
 ·exact q.elim
end
section
variable {X:Cx}{o e:Expr}{apos cpos:Pos}{td ty:TE}
theorem tY (hu:X.A.units+64 < cLine) (ho:QE X o td) (he:QE X e ty) (hb:attributeBase o "get" X.env (eval o X.env)=eval o X.env:=by rfl)
 (hf:((backTo cpos (starEach [e] X.env)).all (λx=>!x.1) && (backToKw cpos (keywordEach [] X.env)).all (λx=>x.1.isSome)
   && decide (([e]:List Expr).length+([]:List Keyword).length+(if ([]:List Keyword).isEmpty then 0 else 1) < 30))=true:=by rfl)
 (hl:(apos.endLine == cpos.line)=true:=by rfl) (ht:backTo cpos (starEach [e] X.env)=[(false,eval e X.env)]:=by rfl) :
 QE X (.Call (.Attribute o "get" apos) [e] [] cpos) (sn td ty):=⟨BF (by omega) ho.h he.h ⟨hb,hf,hl,ht⟩⟩
end
theorem Paired.nth{α β:Type}{F:α->β->Prop} : ∀ {l₁:List α} {l₂:List β},Paired F l₁ l₂->∀ {i:Nat} {a:α} {b:β},l₁[i]? = some a->l₂[i]? = some b->F a b
 | _,_,.nil,_,_,_,h,_=>by simp at h
 | _,_,.cons r t,0,_,_,h,h'=>by simp at h h'; subst h; subst h'; exact r
 | _,_,.cons r t,i+1,_,_,h,h'=>Paired.nth t (i:=i) (by simpa using h) (by simpa using h')
theorem Dd{P:Program}{w:World}{k:ao}{u:Value}(h:(bB P w).is k u=true):aq (kV k) u:=by
 rw[Cr]at h
 cases k with
 | inl i =>
  cases u <;> simp[fD,Value.isInt]at h
  subst h
  exact⟨_,rfl⟩
 | inr x =>
  cases u <;> simp[fD,Value.isStrOf]at h
  subst h
  exact⟨_,rfl⟩
theorem pV:entryFor table "dict_itemiterator.__iter__" = some Builtin.«dict_keyiterator.__iter__» :=
 entryFor_alias (id' := "dict_keyiterator.__iter__") (by kernel_rfl) (by first | rfl | decide +kernel | (unfold String.splitOn; simp +decide [String.splitOnAux])) (by decide +kernel) (by kernel_rfl)
def ip(d:Addr)(ob:Obj)(kvs:List (ao × V)):It :=
 ⟨λi H=>H d=some (.frz ob (.dK kvs))/\i < kvs.length,λi H x H'=>∃ p k v,x=.ref p/\kvs[i]? = some (k,v)/\aP H p (.tup [kV k,v]) H',λi H=>H d=some (.frz ob (.dK kvs))/\kvs.length<=i⟩
theorem l7{X:Cx}{pins:List (Addr × Obj)}{σ:St}{H:Hp}{s:Shared}{d:Addr}{ob:Obj}{kvs:List (ao × V)}{es:Array DictEntry}{ep:Nat}(I:ad X pins σ H s)(h:H d=some (.frz ob (.dK kvs)))(he:ob.data=.dict es ep) : ∃ vs,KV kvs vs/\s.heap.DictAt (bB X.prog X.w) d vs ep:=by
 obtain⟨e1,z,hd,vs,rel,o',es',ep',e2,c1,c2,c3⟩:=I.hok d _ h
 rw[e1]at e2; cases e2
 rw[he]at c2; cases c2
 exact⟨vs,rel,ob,es,e1,c1,he,c3⟩
theorem x5{P:Program}{w:World}{K:W.Frag}{tes:List Expr}{kk:Nat}{pp:Pos}(d it:Addr)(ob:Obj)(kvs:List (ao × V))(es:Array DictEntry)(ep:Nat)(he:ob.data=.dict es ep)(hdi:d≠it):dg P w K (.Tuple tes kk pp) (ip d ob kvs) [it] it (λi h=>∃ ok ov,IsItemIter h it d i kvs.length ep ok ov) where
 mem:=by simp
 obj:=λi h st b hb=>by
  obtain⟨ok,ov,h1⟩:=st
  have hb':b=it:=by simpa using hb
  subst hb'
  exact⟨_,h1,λv z=>by cases (show Data.fields _=Data.cell v from z)⟩
 keep:=λi h h' st k=>by
  obtain⟨ok,ov,h1⟩:=st
  exact⟨ok,ov,k it (by simp) _ h1⟩
 item:=by
  intro X hP hw hK hc i pins s σ H E I hf st hg
  subst hP hw hK
  obtain⟨ok,ov,h1⟩:=st
  obtain⟨hq,hi⟩:=hg
  obtain⟨vs,rel,da⟩:=l7 I hq he
  have hl:=rel.length
  obtain⟨⟨k,v⟩,hkv⟩ : ∃ kv,kvs[i]? = some kv:=⟨_,List.getElem?_eq_getElem hi⟩
  obtain⟨⟨k',u⟩,hvs,hk',ru⟩ : ∃ q,vs[i]? = some q/\k=q.1/\aq v q.2:=by
   obtain⟨q,hq2⟩ : ∃ q,vs[i]? = some q:=⟨_,List.getElem?_eq_getElem (by omega)⟩
   exact⟨q,hq2,Paired.nth rel hkv hq2⟩
  obtain rfl:k=k':=hk'
  have hilt:it < s.heap.objs.size:=Heap.lt_size h1
  rw[hl]at h1
  refine wpAny_pyNext_items_item h1 da hvs λkey h' hkey ho hT hsz hk=>?_
  refine⟨_,rfl,wpAny_letOwnedTupleGo_items (s:={ s with heap:=h' }) ho λh'' he' hs'=>?_⟩
  have hTe:s.heap.objs.size≠it:=Nat.ne_of_gt hilt
  have hT2:h''.get? s.heap.objs.size=some { cls:=.type "tuple",data:=.seq #[key,u] }:=(hs'.2 _ hTe).trans hT
  have I2:ad X pins σ (upd H s.heap.objs.size (.tup [kV k,v])) { s with heap:=h'' }:=by
   refine I.turnedN (t':=s.toks) (fp:=[it]) (λb o hb eo=>?_) hf (Nat.le_refl _) (lC ⟨_,hT2,rfl,_,rfl⟩ (Dd hkey) ru)
   have hbe:b≠it:=λz=>hb (by simp[z])
   exact (hs'.2 b hbe).trans (hk b o hbe eo)
  refine⟨.ref s.heap.objs.size,_,I2,rfl,⟨_,k,v,rfl,hkv,.mk' I.fresh⟩,⟨_,_,by rw[hl]; exact he'⟩,λb hb=>?_⟩
  have hb':b=it:=by simpa using hb
  rw[ak (by rw[hb']; exact Nat.ne_of_lt hilt)]
  exact (hf b hb).1
 done:=by
  intro X hP hw hK hc i pins s σ H E I hf st hg
  subst hP hw hK
  obtain⟨ok,ov,h1⟩:=st
  obtain⟨hq,hi⟩:=hg
  obtain⟨vs,rel,da⟩:=l7 I hq he
  have hl:=rel.length
  rw[hl]at h1
  exact wpAny_pyNext_items_end (I.ok.hd hc) h1 da (List.getElem?_eq_none (by omega)) λh' eb=>⟨rfl,I.turnedL (t':=s.toks) (fp:=[it]) (λb o hb eo=>eb b o (λz=>hb (by simp[z])) eo) hf⟩
 self:=λA i s Q E st h=>by
  obtain⟨ok,ov,h1⟩:=st
  have hT:s.TypeIs (.ref it) "dict_itemiterator":=⟨_,h1,rfl⟩
  refine wpAny_pyIter_slot hT PySem.F.slot_dict_itemiterator_iter (wpAny_call_entry PySem.F.slot_dict_itemiterator_iter hT pV ?_ (PySem.F.args_dict_itemiterator_iter_1 _))
  show wpAny _ _ (ret (.ref it)) _ _ s
  exact wpAny_pure ⟨_,rfl, "dict_itemiterator",_,hT,PySem.F.slot_dict_itemiterator_next.lookup,h⟩
def vo(td:TE):TI:=λσ H R=>td σ H λx H1=>∃ d kvs,x=.ref d/\H1 d=some (.dK kvs)/\∀ ob,R (ip d ob kvs) (upd H1 d (.frz ob (.dK kvs)))
section
variable {X:Cx}{o:Expr}{es:List Expr}{kk:Nat}{pp apos cpos:Pos}{td:TE}
theorem Bl (ho:PE X o td) (hb:attributeBase o "items" X.env (eval o X.env)=eval o X.env) (hl:(apos.endLine == cpos.line)=true):PI X (.Tuple es kk pp) (.Call (.Attribute o "items" apos) [] [] cpos) (vo td):=by
 intro pins s σ H R I h
 refine wpAny_Call_method (T := "dict") (id := "dict.items") hb rfl hl PySem.F.plainAttrs_dict PySem.F.slot_dict_items PySem.F.type_dict_items (aj (ho pins s σ H _ I h) λu s1 ⟨x,H1,I1,rx,d,kvs,ex,hd,q⟩=>?_)
 subst ex
 obtain rfl:u=Value.ref d:=rx
 obtain⟨z,hdS,vs,rel,dd⟩:=mf I1.hok hd
 refine⟨dd.typeIs,dd.mapOf.noDict,?_⟩
 show wpAny _ _ (callWith cpos (.builtin "dict.items") [.ref d] [] []) _ _ s1
 refine method_meetsIn PySem.F.slot_dict_items PySem.F.entry_dict_items rfl (PyProof.Rows.evalArgs_none ⟨rfl,dd.typeIs,PySem.F.args_dict_items_1 _,_,meets_dict_items (bB X.prog X.w) d hdS,⟨vs,dd⟩,?_⟩)
 obtain⟨ep,da⟩:=dd.dictAt
 refine wpAny_pyIter_items (knd:=bB X.prog X.w) (d:=d) (kvs:=vs) (ep:=ep) ⟨_,Heap.get?_push_size _ rfl,rfl,rfl⟩ (da.push _) ?_
 obtain⟨ob,es',ho1,c1,c2,c3⟩:=id da
 have hsz:(s1.heap.push { cls:=.type "dict_items",data:=.fields #[.ref d] }).objs.size=s1.heap.objs.size+1:=Heap.size_push ..
 have k2 : ∀ b o,s1.heap.get? b=some o->((s1.heap.push { cls:=.type "dict_items",data:=.fields #[.ref d] }).push { cls:=.type "dict_itemiterator",data:=.fields #[.none,.bool false,.ref d,.int 0 0,.int vs.length 0,.int ep 0,.none,.none] }).get? b=some o:=λb o e=>Heap.get?_push_of_some _ (Heap.get?_push_of_some _ e)
 have I2:=I1.kept (t':=s1.toks) k2
 have hd2:=k2 d ob ho1
 have I3:=I2.write (x:=d) (e:=d) (o:=.frz ob (.dK kvs)) (t':=s1.toks) (by rw[hd]; exact True.intro) (.inl rfl) (λb u _ e=>e) ⟨ob,hd2⟩ ⟨hd2,z,hdS,vs,rel,ob,es',ep,hd2,c1,c2,c3⟩
 have hle:s1.heap.objs.size<=(s1.heap.push { cls:=.type "dict_items",data:=.fields #[.ref d] }).objs.size:=by rw[hsz]; exact Nat.le_succ _
 have hdi:d≠(s1.heap.push { cls:=.type "dict_items",data:=.fields #[.ref d] }).objs.size:=by rw[hsz]; exact Nat.ne_of_lt (Nat.lt_succ_of_lt (Heap.lt_size ho1))
 refine⟨_,[_],_,ip d ob kvs,_,rfl,I3,x5 d _ ob kvs es' ep c2 hdi,⟨.none,.none,by rw[rel.length]; exact Heap.get?_push_size _ rfl⟩,λb hb=>?_,q ob⟩
 have hb':b=(s1.heap.push { cls:=.type "dict_items",data:=.fields #[.ref d] }).objs.size:=by simpa using hb
 have f1:=I1.fpOk (b:=b) (by rw[hb']; exact hle) (I1.hok.fresh (by rw[hb']; exact hle))
 obtain⟨f0,f⟩:=f1
 exact⟨by rw[ak (by rw[hb']; exact hdi.symm)]; exact f0,f⟩
theorem kY (ho:QE X o td) (hb:attributeBase o "items" X.env (eval o X.env)=eval o X.env:=by rfl) (hl:(apos.endLine == cpos.line)=true:=by rfl):QI X (.Tuple es kk pp) (.Call (.Attribute o "items" apos) [] [] cpos) (vo td):=⟨Bl ho.h hb hl⟩
theorem E9{d:Addr}{ob:Obj}{kvs:List (ao × V)}{g:TG}{tb:TS}{D:cP}{σ:St}{H:Hp}(Pv:Nat->St->Hp->Prop)(h0:Pv 0 σ H)(hl : ∀ i σ H,i<=kvs.length->Pv i σ H->H d=some (.frz ob (.dK kvs)))
 (hs : ∀ i k v p σ H H',kvs[i]? = some (k,v)->Pv i σ H->aP H p (.tup [kV k,v]) H'->g (.ref p) σ H' λσ2 H2=>tb { D with nx:=Pv (i+1),ct:=Pv (i+1),bk:=D.nx } σ2 H2) (hd : ∀ σ H,Pv kvs.length σ H->D.nx σ H) :
 ∃ W:Nat->Nat->St->Hp->Prop,(∃ m,W 0 m σ H)/\∀ i m σ H,W i m σ H ->
  ((ip d ob kvs).stop i H/\D.nx σ H)\/((ip d ob kvs).go i H/\∃ N:St->Hp->Prop,(∀ σ' H',N σ' H'->∃ m',m' < m/\W (i+1) m' σ' H')/\∀ x H',(ip d ob kvs).yld i H x H'->g x σ H' λσ2 H2=>tb { D with nx:=N,ct:=N,bk:=D.nx } σ2 H2):=by
 refine⟨λi m σ H=>m=kvs.length - i/\i<=kvs.length/\Pv i σ H,⟨kvs.length,by simp,Nat.zero_le _,h0⟩,?_⟩
 rintro i m σ H ⟨rfl,hi,p⟩
 have q:=hl i σ H hi p
 by_cases hlt:i < kvs.length
 ·refine .inr ⟨⟨q,hlt⟩,Pv (i+1),λσ' H' p'=>⟨kvs.length - (i+1),by omega,rfl,hlt,p'⟩,λx H' y=>?_⟩
  obtain⟨pp,k,v,rfl,y,gr⟩:=y
  exact hs i k v pp σ H H' y p gr
 ·have e:i=kvs.length:=by omega
  subst e
  exact .inl ⟨⟨q,Nat.le_refl _⟩,hd σ H p⟩
end
section
variable {prog:Program}{w:World}
def cH(prog:Program)(w:World)(h:Heap)(k:Int × List Int)(a:Addr):Prop :=
 ∃ (o:Obj) (t b n:Nat),h.get? a=some o/\o.cls=.type "tuple"/\o.data=.seq #[.int k.1 t,.ref b] n/\IsTupleKey (intKind prog w) h k.2 b
theorem cH.ty {s:Shared} {k:Int × List Int} {a:Addr} (x:cH prog w s.heap k a):s.TypeIs (.ref a) "tuple":=by
 obtain⟨o,t,b,n,h1,h2,_⟩:=x
 exact⟨o,h1,h2⟩
theorem cH.one{h:Heap}{a:Addr}{x y:Int × List Int}(hx:cH prog w h x a)(hy:cH prog w h y a):x=y:=by
 obtain⟨o,t,b,n,h1,_,h3,h4⟩:=hx
 obtain⟨o',t',b',n',g1,_,g3,g4⟩:=hy
 rw[h1]at g1; cases g1
 rw[h3]at g3
 injection g3 with e _
 injection e with e
 injection e with e1 e2
 injection e1 with e1 _
 injection e2 with e2 _
 injection e2 with e2
 subst e2
 exact Prod.ext e1 (h4.inj g4)
theorem cH.stay{h h':Heap}{k:Int × List Int}{a d:Addr}{o:Obj}{es:Array DictEntry}{ep:Nat}(x:cH prog w h k a)(ho:h.get? d=some o)(hd:o.data=.dict es ep)(sb:Heap.SameBut d h h'):cH prog w h' k a:=by
 obtain⟨u,t,b,n,h1,h2,h3,h4⟩:=x
 refine⟨u,t,b,n,(sb.2 a ?_).trans h1,h2,h3,h4.keeps ho hd sb⟩
 intro z
 subst z
 rw[h1]at ho; cases ho
 rw[hd]at h3; cases h3
variable {A:Around}{E:Value->Shared->Prop}{s:Shared}
def sA(prog:Program)(w:World)(k:Int × List Int):Int:=reduceHash (Builtin.Tuple.tupleHashOf [(intKind prog w).hash k.1,tupleKeyHash (intKind prog w) k.2])
theorem yC{k:Int × List Int}{a:Addr}{Q:Int->Shared->Prop}(hu:A.units+8 < cLine)(hk:cH prog w s.heap k a)(q:Q (sA prog w k) { s with toks:=s.toks+(k.2.length+3) }):wpAny (model prog w) A (pyHash (.ref a)) Q E s:=by
 have ty:=hk.ty
 obtain⟨o,t,b,n,h1,h2,h3,h4⟩:=hk
 unfold pyHash
 first | unfold pyHashByItsType | skip
 first | refine wpAny_bind (wpAny_cRoomFor_or (.inr (by omega)) ?_) | skip
 refine wpAny_bind (wpAny_specialOf ty PySem.F.slot_tuple_hash.lookup ?_)
 show wpAny _ _ (if (some (Value.builtin "tuple.__hash__") == some Value.none)=true then _ else _) _ _ _
 rw[if_neg (by rw[beq_builtin_none]; decide)]
 refine wpAny_bind (wpAny_specialOf ty PySem.F.slot_tuple_hash.lookup ?_)
 show wpAny _ _ (callSpecialIfBoundUnlessNone? (.ref a) "__hash__" _ >>= _) _ _ _
 refine wpAny_bind (wpAny_callSpecialIfBoundUnlessNone?_slot ty PySem.F.slot_tuple_hash (wpAny_call_entry PySem.F.slot_tuple_hash ty PySem.F.entry_tuple_hash ?_ (PySem.F.args_tuple_hash_1 _)))
 show wpAny _ _ (Builtin.Tuple.tupleItemsOf (.ref a) >>= _) _ _ _
 refine wpAny_bind (wpAny_tupleItemsOf h1 h3 ?_)
 refine wpAny_bind ?_
 rw[<- Array.forIn_toList]
 rw[List.forIn_cons]
 refine wpAny_bind (wpAny_bind ((intKind prog w).pyHash (k:=k.1) (by exact (beq_self_eq_true k.1)) ?_))
 first
  | refine wpAny_pure ?_
  | refine wpAny_bind (wpAny_pure (wpAny_pure ?_))
 dsimp only
 rw[List.forIn_cons]
 refine wpAny_bind (wpAny_bind (wpAny_pyHash_tuple (knd:=intKind prog w) (ks:=k.2) ?_ h4 ?_))
 ·show A.units+1 < cLine
  omega
 first
  | refine wpAny_pure ?_
  | refine wpAny_bind (wpAny_pure (wpAny_pure ?_))
 dsimp only
 rw[List.forIn_nil]
 refine wpAny_pure ?_
 refine wpAny_ret_mkInt ?_
 have e:((#[].push ((intKind prog w).hash k.1)).push (tupleKeyHash (intKind prog w) k.2)).toList=[(intKind prog w).hash k.1,tupleKeyHash (intKind prog w) k.2]:=rfl
 rw[e]
 generalize eH:Builtin.Tuple.tupleHashOf [(intKind prog w).hash k.1,tupleKeyHash (intKind prog w) k.2]=N
 have q':Q (reduceHash N) { s with toks:=s.toks+(k.2.length+3) }:=by rw[<- eH]; exact q
 unfold reduceHash at q'
 have et:s.toks+1+(k.2.length+1)+1=s.toks+(k.2.length+3):=by omega
 show wpAny _ _ (if (decide (-(2:Int) ^ 63<=N) && decide (N < 2 ^ 63))=true then _ else _) _ _ { s with toks:=s.toks+1+(k.2.length+1)+1 }
 rw[et]
 split
 ·rename_i c
  rw[if_pos c]at q'
  exact wpAny_pure q'
 ·rename_i c
  rw[if_neg c]at q'
  exact wpAny_bind (wpAny_rule (wpAny_pure q'))
theorem yD{x y:Int × List Int}{a b:Addr}{P:Fin->Shared->Prop}(hu:A.units+4 < cLine)(hx:cH prog w s.heap x a)(hy:cH prog w s.heap y b)(q:P (.done (.ret (.bool (decide (x=y))))) s) :
 wpAny (model prog w) A (Builtin.«tuple.__eq__» ⟨[.ref a,.ref b],[]⟩) P E s:=by
 have ty:=hy.ty
 obtain⟨o,t,c,n,h1,h2,h3,h4⟩:=hx
 obtain⟨o',t',c',n',g1,g2,g3,g4⟩:=hy
 show wpAny _ _ (isInstance (.ref b) (.type "tuple") >>= _) _ _ _
 refine wpAny_bind (wpAny_isInstance ty isSubtype_tuple_tuple ?_)
 simp only [Bool.not_true,Bool.false_eq_true,if_false]
 refine wpAny_bind (wpAny_tupleItemsOf h1 h3 ?_)
 refine wpAny_bind (wpAny_tupleItemsOf g1 g3 ?_)
 refine wpAny_bind ?_
 show wpAny _ _ (forIn [(Value.int x.1 t,Value.int y.1 t'),(Value.ref c,Value.ref c')] _ _) _ _ _
 rw[List.forIn_cons]
 refine wpAny_bind (wpAny_bind ((intKind prog w).eqBool (a:=x.1) (b:=y.1) (by exact (beq_self_eq_true x.1)) (by exact (beq_self_eq_true y.1)) ?_))
 by_cases e1:x.1=y.1
 ·rw[decide_eq_true e1]
  simp only [Bool.not_true,Bool.false_eq_true,if_false]
  refine wpAny_pure ?_
  dsimp only
  rw[List.forIn_cons]
  refine wpAny_bind (wpAny_bind (wpAny_eqBool_tuple (knd:=intKind prog w) (x:=x.2) (y:=y.2) (by omega) h4 g4 ?_))
  by_cases e2:x.2=y.2
  ·rw[decide_eq_true e2]
   simp only [Bool.not_true,Bool.false_eq_true,if_false]
   refine wpAny_pure ?_
   dsimp only
   rw[List.forIn_nil]
   refine wpAny_pure (wpAny_pure ?_)
   rw[decide_eq_true (Prod.ext e1 e2)]at q
   exact q
  ·rw[decide_eq_false e2]
   simp only [Bool.not_false,if_true]
   rw[decide_eq_false (λz=>e2 (by rw[z]))]at q
   exact wpAny_bind (wpAny_pure (wpAny_pure (wpAny_pure (wpAny_pure q))))
 ·rw[decide_eq_false e1]
  simp only [Bool.not_false,if_true]
  rw[decide_eq_false (λz=>e1 (by rw[z]))]at q
  exact wpAny_bind (wpAny_pure (wpAny_pure (wpAny_pure (wpAny_pure q))))
theorem yE{x y:Int × List Int}{a b:Addr}{Q:Bool->Shared->Prop}(hu:A.units+8 < cLine)(hx:cH prog w s.heap x a)(hy:cH prog w s.heap y b)(q:Q (decide (x=y)) s):wpAny (model prog w) A (eqBool (.ref a) (.ref b)) Q E s:=by
 unfold eqBool
 try with_reducible refine wpAny_holding ?_
 show wpAny _ _ (if (Value.ref a == Value.ref b)=true then _ else _) _ _ _
 by_cases e:(Value.ref a == Value.ref b)=true
 ·rw[if_pos e]
  have z:a=b:=by
   have:=eq_of_beq e
   injection this
  subst z
  obtain rfl:=hx.one hy
  rw[decide_eq_true rfl]at q
  exact wpAny_bind (wpAny_rule (wpAny_pure q))
 ·rw[if_neg e]
  exact wpAny_bind (wpAny_richCompare_same_room (op:=.Eq) hx.ty hy.ty PySem.F.slot_tuple_eq (wpAny_call_entry PySem.F.slot_tuple_eq hx.ty PySem.F.entry_tuple_eq (yD (by show A.units+1+4 < cLine; omega) hx hy ⟨_,rfl,nofun,wpAny_truthy_bool q⟩) (PySem.F.args_tuple_eq_2 _ _)) (by omega))
theorem zZ(n:Nat){ks:List Int}{a:Addr}{Q:Bool->Shared->Prop}(hk:IsTupleKey (intKind prog w) s.heap ks a)(q:Q true s):wpAny (model prog w) A (eqIsQuiet (n+1) (.ref a)) Q E s:=by
 have ty:=hk.typeIs
 obtain⟨o,its,m,h1,_,h3,h4⟩:=hk
 unfold eqIsQuiet
 refine wpAny_bind (wpAny_specialOf ty PySem.F.slot_tuple_eq.lookup ?_)
 show wpAny _ _ (isInstance (.ref a) (.type "tuple") >>= _) _ _ _
 refine wpAny_bind (wpAny_isInstance ty isSubtype_tuple_tuple ?_)
 simp only [Bool.not_true,Bool.false_eq_true,if_false]
 refine wpAny_bind (wpAny_seqItems h1 h3 ?_)
 refine wpAny_bind ?_
 show wpAny _ _ (forIn its _ _) _ _ _
 rw[<- Array.forIn_toList]
 refine wpAny_forIn_list _ (λl r s'=>r.1=none/\s'=s/\∀ v∈l,carriedByValue v=true) _ ?_ ?_ _ _ ⟨rfl,rfl,h4.byValue⟩
 ·rintro v l r s' ⟨hr,rfl,al⟩
  rw[eqIsQuiet_byValue _ (al v (List.mem_cons_self ..))]
  refine wpAny_bind (wpAny_pure ?_)
  simp only [Bool.not_true,Bool.false_eq_true,if_false]
  exact wpAny_pure ⟨rfl,rfl,λu z=>al u (List.mem_cons_of_mem _ z)⟩
 ·rintro⟨r1,r2⟩ s' ⟨hr,rfl,_⟩
  obtain rfl:r1=none:=hr
  exact wpAny_pure q
theorem yB{k:Int × List Int}{a:Addr}{Q:Bool->Shared->Prop}(hk:cH prog w s.heap k a)(q:Q true s):wpAny (model prog w) A (eqIsQuiet 8 (.ref a)) Q E s:=by
 have ty:=hk.ty
 obtain⟨o,t,b,n,h1,h2,h3,h4⟩:=hk
 unfold eqIsQuiet
 refine wpAny_bind (wpAny_specialOf ty PySem.F.slot_tuple_eq.lookup ?_)
 show wpAny _ _ (isInstance (.ref a) (.type "tuple") >>= _) _ _ _
 refine wpAny_bind (wpAny_isInstance ty isSubtype_tuple_tuple ?_)
 simp only [Bool.not_true,Bool.false_eq_true,if_false]
 refine wpAny_bind (wpAny_seqItems h1 h3 ?_)
 refine wpAny_bind ?_
 show wpAny _ _ (forIn #[Value.int k.1 t,Value.ref b] _ _) _ _ _
 rw[<- Array.forIn_toList]
 rw[List.forIn_cons,eqIsQuiet_byValue _ (show carriedByValue (Value.int k.1 t)=true from rfl)]
 refine wpAny_bind (wpAny_bind (wpAny_pure ?_))
 simp only [Bool.not_true,Bool.false_eq_true,if_false]
 refine wpAny_pure ?_
 dsimp only
 rw[List.forIn_cons]
 refine wpAny_bind (wpAny_bind (zZ 6 h4 ?_))
 simp only [Bool.not_true,Bool.false_eq_true,if_false]
 refine wpAny_pure ?_
 dsimp only
 rw[List.forIn_nil]
 exact wpAny_pure (wpAny_pure q)
def iA(prog:Program)(w:World):HeapKind prog w (Int × List Int) where
 is:=cH prog w
 hash:=sA prog w
 draws:=λk=>k.2.length+3
 room:=λA=>A.units+8 < cLine
 inj:=λx y=>x.one y
 keeps:=λx ho hd sb=>x.stay ho hd sb
 pyHash:=λhu hk q=>yC hu hk q
 eqBool:=λhu hx hy q=>yE hu hx hy q
 quiet:=λhk q=>yB hk q
end
structure dj (h:Heap) (d:Addr) (es:Array DictEntry) (ep:Nat):Prop where
 big:(d == sysModules)=false
 obj : ∃ o,h.get? d=some o/\o.ExactDict/\o.data=.dict es ep
theorem dj.ty {s:Shared} {d:Addr} {es:Array DictEntry} {ep:Nat} (r:dj s.heap d es ep):s.TypeIs (.ref d) "dict":=by
 obtain⟨o,e,c,_⟩:=r.obj
 exact⟨o,e,c.1⟩
theorem dj.to{h h':Heap}{d:Addr}{es:Array DictEntry}{ep:Nat}(r:dj h d es ep)(k : ∀ o,h.get? d=some o->h'.get? d=some o):dj h' d es ep:=by
 obtain⟨b,o,e,c⟩:=r
 exact⟨b,o,k o e,c⟩
theorem dj.lt{h:Heap}{d:Addr}{es:Array DictEntry}{ep:Nat}(r:dj h d es ep):d < h.objs.size:=by
 obtain⟨o,e,_⟩:=r.obj
 exact Heap.lt_size e
section
variable {prog:Program}{w:World}{A:Around}{E:Value->Shared->Prop}{s:Shared}{it d:Addr}{i ep:Nat}{es:Array DictEntry}
theorem tF{Q:Value->Shared->Prop}(r:dj s.heap d es ep)(q:Q (.ref s.heap.objs.size) { s with heap:=s.heap.push { cls:=.type "dict_keyiterator",data:=.fields #[.ref d,.int 0 0,.int es.size 0,.int ep 0] } }):wpAny (model prog w) A (pyIter (.ref d)) Q E s:=by
 have ty:=r.ty
 obtain⟨o,e1,e2,e3⟩:=r.obj
 refine wpAny_pyIter_slot ty PySem.F.slot_dict_iter (wpAny_call_entry PySem.F.slot_dict_iter ty PySem.F.entry_dict_iter ?_ (PySem.F.args_dict_iter_1 _))
 unfold Builtin.«dict.__iter__» Builtin.Dict.dictSlotNone
 refine wpAny_bind (wpAny_bind (wpAny_notOrdered_dict ty ?_))
 show wpAny _ _ (pure (Value.ref d)) _ _ _
 refine wpAny_pure ?_
 show wpAny _ _ (Builtin.Dict.showsAll d >>= _) _ _ _
 unfold Builtin.Dict.showsAll
 rw[if_neg (by rw[r.big]; decide)]
 refine wpAny_bind (wpAny_pure (wpAny_bind (wpAny_dictEntries e1 e3 (wpAny_bind (wpAny_dictEpoch e1 e3 ?_)))))
 refine wpAny_bind (wpAny_newObj_type (wpAny_pure ⟨_,rfl, "dict_keyiterator",_,⟨_,Heap.get?_push_size _ rfl,rfl⟩,PySem.F.slot_dict_keyiterator_next.lookup,?_⟩))
 exact q
theorem tG{e:DictEntry}{Q:Option Value->Shared->Prop}(ki:s.heap.IsKeyIter it d i es.size ep)(r:dj s.heap d es ep)(he:es[i]? = some e)
 (q : ∀ h',h'.IsKeyIter it d (i+1) es.size ep->Heap.SameBut it s.heap h'->Q (some e.key) { s with heap:=h' }):wpAny (model prog w) A (pyNext (.ref it)) Q E s:=by
 obtain⟨o,k1,k2,k3⟩:=id ki
 obtain⟨u,e1,e2,e3⟩:=r.obj
 unfold pyNext
 refine wpAny_bind (wpAny_attempt (wpAny_callSpecial?_slot (name:=Str.ofString "__next__") ki.typeIs PySem.F.slot_dict_keyiterator_next (wpAny_call_entry PySem.F.slot_dict_keyiterator_next ki.typeIs PySem.F.entry_dict_keyiterator_next ?_ (PySem.F.args_dict_keyiterator_next_1 _))))
 refine wpAny_bind (wpAny_pure (wpAny_bind (wpAny_bind ?_)))
 first | refine wpAny_bind (wpAny_typeNameOfWhole_keyiter ki.typeIs (wpAny_pure ?_)) | refine wpAny_bind (wpAny_typeNameOf_keyiter ki.typeIs (wpAny_pure ?_))
 refine wpAny_bind (wpAny_fieldsOf k1 k3 ?_)
 simp only [show Builtin.Dict_items.ownsTuple "dict_keyiterator" = false by decide,Bool.false_eq_true,if_false]
 show wpAny _ _ (if (Value.ref d == Value.none)=true then _ else _) _ _ _
 rw[if_neg (by intro z; cases z)]
 refine wpAny_bind (wpAny_pure (wpAny_bind (wpAny_dictEntries e1 e3 ?_)))
 rw[if_neg (by simp)]
 refine wpAny_bind (wpAny_pure (wpAny_bind (wpAny_dictEpoch e1 e3 ?_)))
 rw[if_neg (by simp)]
 refine wpAny_pure ?_
 simp only [show ¬ ((i:Int) < 0) by omega,if_false,Int.toNat_natCast,he]
 refine wpAny_bind ?_
 first | refine wpAny_bind (wpAny_typeNameOfWhole_keyiter ki.typeIs (wpAny_pure ?_)) | refine wpAny_bind (wpAny_typeNameOf_keyiter ki.typeIs (wpAny_pure ?_))
 refine wpAny_bind (wpAny_isOneOf_keyiter ki.typeIs ?_)
 show wpAny _ _ (setField (.ref it) 1 (rawInt ((i:Int)+1)) >>= _) _ _ _
 refine wpAny_bind (wpAny_setField k1 k3 (by simp) ?_)
 have nx:(s.heap.update it (Obj.mapFields (·.setIfInBounds 1 (rawInt ((i:Int)+1))))).IsKeyIter it d (i+1) es.size ep:=⟨_,Heap.get?_update_self _ k1 (Obj.isFreed_of_fields (Obj.data_mapFields k3 _)),(Obj.cls_mapFields ..).trans k2,by rw[Obj.data_mapFields k3]; simp[rawInt]⟩
 refine wpAny_bind (wpAny_holding (wpAny_bind (wpAny_isOneOf_keyiter (s:={ s with heap:=s.heap.update it (Obj.mapFields (·.setIfInBounds 1 (rawInt ((i:Int)+1)))) }) nx.typeIs ?_)))
 show wpAny _ _ (pure e.key) _ _ _
 exact wpAny_pure (wpAny_pure ⟨_,rfl,wpAny_pure (q _ nx (Heap.SameBut.update ..))⟩)
theorem tH{Q:Option Value->Shared->Prop}(hh:A.handled=none)(ki:s.heap.IsKeyIter it d i es.size ep)(r:dj s.heap d es ep)(he:es.size<=i)(q : ∀ h',Heap.ExtBut it s.heap h'->Q none { s with heap:=h' }):wpAny (model prog w) A (pyNext (.ref it)) Q E s:=by
 obtain⟨o,k1,k2,k3⟩:=id ki
 obtain⟨u,e1,e2,e3⟩:=r.obj
 unfold pyNext
 refine wpAny_bind (wpAny_attempt (wpAny_callSpecial?_slot (name:=Str.ofString "__next__") ki.typeIs PySem.F.slot_dict_keyiterator_next (wpAny_call_entry PySem.F.slot_dict_keyiterator_next ki.typeIs PySem.F.entry_dict_keyiterator_next ?_ (PySem.F.args_dict_keyiterator_next_1 _))))
 refine wpAny_bind (wpAny_pure (wpAny_bind (wpAny_bind ?_)))
 first | refine wpAny_bind (wpAny_typeNameOfWhole_keyiter ki.typeIs (wpAny_pure ?_)) | refine wpAny_bind (wpAny_typeNameOf_keyiter ki.typeIs (wpAny_pure ?_))
 refine wpAny_bind (wpAny_fieldsOf k1 k3 ?_)
 simp only [show Builtin.Dict_items.ownsTuple "dict_keyiterator" = false by decide,Bool.false_eq_true,if_false]
 show wpAny _ _ (if (Value.ref d == Value.none)=true then _ else _) _ _ _
 rw[if_neg (by intro z; cases z)]
 refine wpAny_bind (wpAny_pure (wpAny_bind (wpAny_dictEntries e1 e3 ?_)))
 rw[if_neg (by simp)]
 refine wpAny_bind (wpAny_pure (wpAny_bind (wpAny_dictEpoch e1 e3 ?_)))
 rw[if_neg (by simp)]
 refine wpAny_pure ?_
 simp only [show ¬ ((i:Int) < 0) by omega,if_false,Int.toNat_natCast,Array.getElem?_eq_none he]
 refine wpAny_bind ?_
 first | refine wpAny_bind (wpAny_typeNameOfWhole_keyiter ki.typeIs (wpAny_pure ?_)) | refine wpAny_bind (wpAny_typeNameOf_keyiter ki.typeIs (wpAny_pure ?_))
 show wpAny _ _ (setField (.ref it) 0 .none >>= _) _ _ _
 refine wpAny_bind (wpAny_setField k1 k3 (by simp) ?_)
 show wpAny _ _ (newExc (.type "StopIteration") [] >>= _) _ _ _
 refine wpAny_bind ?_
 simp only [newExc,newTuple]
 refine wpAny_bind (wpAny_newObj_type ?_ (by size_fits))
 refine wpAny_bind (m:=firstArgMember _ _) (wpAny_of_eq (a:=Value.none) (by first | rfl | (simp only [firstArgMember]; rfl)) (wpAny_newObj_type ?_ (by size_fits)))
 simp only [raiseNew]
 refine wpAny_bind (wpAny_handled ?_)
 rw[show A.in1.handled=none from hh]
 refine wpAny_bind (wpAny_pure (wpAny_throw ?_))
 refine wpAny_bind (wpAny_isInstance (T := "StopIteration") (b:=true) ⟨_,Heap.get?_push_size _ rfl,by rfl⟩ isSubtype_stop ?_)
 exact wpAny_pure (q _ (((Heap.SameBut.update ..).extBut.push _).push _))
end
abbrev ae:=Int × List Int
def gz(x:ae × Addr × Value):DictEntry:=⟨reduceHash (Builtin.Tuple.tupleHashOf [hashInt x.1.1,reduceHash (Builtin.Tuple.tupleHashOf (x.1.2.map hashInt))]),.ref x.2.1,x.2.2⟩
theorem sH(P:Program)(w:World):entryOfKey (iA P w)=gz:=rfl
def gw(a:Addr)(xs:List (ae × Addr × Value))(ep:Nat):HO:=.ext λh=>dj h a (xs.map gz).toArray ep
def bU(H:Hp)(k:ae)(p:Addr):Prop:=∃ b,H p=some (.tup [.int k.1,.ref b])/\H b=some (.tup (k.2.map V.int))
abbrev KN:List (ae × Addr × V)->List (ae × Addr × Value)->Prop:=Paired λp q=>p.1=q.1/\p.2.1=q.2.1/\aq p.2.2 q.2.2
structure DN (H:Hp) (a:Addr) (kvs:List (ae × Addr × V)):Prop where
 ex : ∃ xs ep,H a=some (gw a xs ep)/\KN kvs xs
 key : ∀ x∈kvs,bU H x.1 x.2.1
 nd:(kvs.map (·.1)).Nodup
 le:kvs.length<=sizeLine
theorem bU.same{H H':Hp}{k:ae}{p:Addr}(s:ag H H')(h:bU H k p):bU H' k p:=by
 obtain⟨b,h1,h2⟩:=h
 exact⟨b,s _ _ h1,s _ _ h2⟩
theorem DN.same{H H':Hp}{a:Addr}{kvs:List (ae × Addr × V)}(s:ag H H')(d:DN H a kvs):DN H' a kvs:=by
 obtain⟨⟨xs,ep,h1,h2⟩,k,n,l⟩:=d
 exact⟨⟨xs,ep,s _ _ h1,h2⟩,λx hx=>(k x hx).same s,n,l⟩
def bV(kvs:List (ae × Addr × V))(k:ae):Option V:=(kvs.find? λx=>decide (x.1=k)).map (·.2.2)
def eM(kvs:List (ae × Addr × V))(k:ae)(b:Addr)(v:V):List (ae × Addr × V) :=
 if (bV kvs k).isSome then kvs.map (λx=>if x.1=k then (x.1,x.2.1,v) else x) else kvs++[(k,b,v)]
theorem KN.val{kvs:List (ae × Addr × V)}{xs:List (ae × Addr × Value)}(r:KN kvs xs)(k:ae):bG (bV kvs k) ((atKey xs k).map (·.2)):=by
 induction r with
 | nil=>exact True.intro
 | @cons p q ps qs h t ih =>
  obtain⟨h1,_,h2⟩:=h
  by_cases e:p.1=k
  ·have e':q.1=k:=h1.symm.trans e
   have b:atKey (q :: qs) k=some q.2:=by simp[atKey,List.find?_cons,e']
   have c:bV (p :: ps) k=some p.2.2:=by simp[bV,List.find?_cons,e]
   rw[b,c]
   exact h2
  ·have e' : ¬ q.1=k:=λz=>e (h1.trans z)
   have b:atKey (q :: qs) k=atKey qs k:=by simp[atKey,List.find?_cons,e']
   have c:bV (p :: ps) k=bV ps k:=by simp[bV,List.find?_cons,e]
   rw[b,c]
   exact ih
theorem KN.put{kvs:List (ae × Addr × V)}{xs:List (ae × Addr × Value)}(r:KN kvs xs)(k:ae){b:Addr}{y:V}{u:Value}(ry:aq y u):KN (eM kvs k b y) (storedH xs k b u):=by
 have e:(bV kvs k).isSome=(atKey xs k).isSome:=by rw[(r.val k).isSome_eq,Option.isSome_map]
 unfold eM storedH
 rw[e]
 split
 ·induction r with
  | nil=>exact .nil
  | @cons p q ps qs h t ih =>
   rw[List.map_cons,List.map_cons]
   have all : ∀ {l m},KN l m->KN (l.map λx=>if x.1=k then (x.1,x.2.1,y) else x) (m.map (putAt k u)):=by
    intro l m r
    induction r with
    | nil=>exact .nil
    | @cons p q ps qs h t ih =>
     rw[List.map_cons,List.map_cons]
     refine .cons ?_ ih
     obtain⟨h1,h2,h3⟩:=h
     unfold putAt
     by_cases z:p.1=k
     ·rw[if_pos z,if_pos (h1.symm.trans z)]; exact⟨h1,h2,ry⟩
     ·rw[if_neg z,if_neg (λy=>z (h1.trans y))]; exact⟨h1,h2,h3⟩
   exact all (.cons h t)
 ·exact Paired.snoc r ⟨rfl,rfl,ry⟩
theorem KN.keys{kvs:List (ae × Addr × V)}{xs:List (ae × Addr × Value)}(r:KN kvs xs):kvs.map (·.1)=xs.map (·.1):=by
 induction r with
 | nil=>rfl
 | cons h t ih=>rw[List.map_cons,List.map_cons,ih,h.1]
theorem u9 : ∀ {kvs:List (ae × Addr × V)} {xs:List (ae × Addr × Value)},KN kvs xs->∀ {i:Nat} {a:ae × Addr × V} {b:ae × Addr × Value},kvs[i]? = some a->xs[i]? = some b->a.1=b.1/\a.2.1=b.2.1/\aq a.2.2 b.2.2
 | _,_,.nil,_,_,_,h,_=>by simp at h
 | _,_,.cons r t,0,_,_,h,h'=>by simp at h h'; subst h; subst h'; exact r
 | _,_,.cons r t,i+1,_,_,h,h'=>u9 t (i:=i) (by simpa using h) (by simpa using h')
theorem AI(kvs:List (ae × Addr × V))(k:ae)(b:Addr)(v:V) : ∀ x∈eM kvs k b v,(∃ y∈kvs,y.1=x.1/\y.2.1=x.2.1)\/x=(k,b,v):=by
 intro x hx
 unfold eM at hx
 split at hx
 ·obtain⟨y,hy,rfl⟩:=List.mem_map.mp hx
  refine .inl ⟨y,hy,?_⟩
  split <;> exact⟨rfl,rfl⟩
 ·rcases List.mem_append.mp hx with z | z
  ·exact .inl ⟨x,z,rfl,rfl⟩
  ·exact .inr (List.mem_singleton.mp z)
theorem AH(kvs:List (ae × Addr × V))(k:ae)(b:Addr)(v:V):(eM kvs k b v).length<=kvs.length+1:=by
 unfold eM
 split <;> simp
theorem kL{P:Program}{w:World}{H:Hp}{h:Heap}{k:ae}{p:Addr}(ok:aT P w H h)(e:bU H k p):cH P w h k p:=by
 obtain⟨b,h1,h2⟩:=e
 obtain⟨_,its,r,o,a1,a2,n,a3⟩:=(show aO P w H h p (.tup [.int k.1,.ref b]) from ok p _ h1)
 obtain⟨_,its2,r2,o2,b1,b2,n2,b3⟩:=(show aO P w H h b (.tup (k.2.map V.int)) from ok b _ h2)
 cases r with
 | cons c r=>cases r with
  | cons c2 r=>cases r with
   | nil =>
    obtain⟨t,rfl⟩:=c
    cases c2
    refine⟨o,t,b,n,a1,a2,a3,o2,its2.toArray,n2,b1,b2,b3,?_⟩
    have all : ∀ {ks:List Int} {us:List Value},ar (ks.map V.int) us->ItemsAre (intKind P w) ks us:=by
     intro ks
     induction ks with
     | nil=>intro us r; cases r; exact .nil
     | cons k ks ih =>
      intro us r
      cases r with
      | cons a b =>
       obtain⟨t,rfl⟩:=a
       exact .cons (by exact beq_self_eq_true k) (ih b)
    simpa using all r2
section
variable {X:Cx}{pins:List (Addr × Obj)}{σ:St}{H:Hp}{s:Shared}{a b:Addr}{kvs:List (ae × Addr × V)}{k:ae}{v:V}{A:Around}{E:Value->Shared->Prop}
theorem h9(I:ad X pins σ H s)(d:DN H a kvs) : ∃ xs ep,H a=some (gw a xs ep)/\KN kvs xs/\dj s.heap a (xs.map gz).toArray ep/\s.heap.DictOfH (iA X.prog X.w) a xs:=by
 obtain⟨⟨xs,ep,h1,h2⟩,ky,nd,le⟩:=d
 obtain⟨r,_⟩:=I.hok a _ h1
 obtain⟨o,e1,e2,e3⟩:=r.obj
 refine⟨xs,ep,h1,h2,r,o,_,ep,e1,e2,e3,by rw[sH],λx hx=>?_,by rw[<- h2.keys]; exact nd⟩
 have all : ∀ {l m},KN l m->(∀ x∈l,bU H x.1 x.2.1)->∀ x∈m,cH X.prog X.w s.heap x.1 x.2.1:=by
  intro l m r
  induction r with
  | nil=>intro _ x hx; cases hx
  | @cons p q ps qs h t ih =>
   intro al x hx
   rcases List.mem_cons.mp hx with z | z
   ·subst z
    rw[<- h.1,<- h.2.1]
    exact kL I.hok (al p (List.mem_cons_self ..))
   ·exact ih (λy hy=>al y (List.mem_cons_of_mem _ hy)) x z
 exact all h2 ky x hx
theorem Fq{Q:Value->Shared->Prop}(hu:A.units+16 < cLine)(I:ad X pins σ H s)(d:DN H a kvs)(ky:bU H k b)(e:bV kvs k=some v)(q : ∀ w' s',ad X pins σ H s'->aq v w'->Q w' s'):wpAny (model X.prog X.w) A (getItem (.ref a) (.ref b)) Q E s:=by
 obtain⟨xs,ep,h1,h2,r,dd⟩:=h9 I d
 obtain⟨w',hw,rw'⟩:=bG.some_of (v:=v) (o:=(atKey xs k).map (·.2)) (by rw[<- e]; exact h2.val k)
 obtain⟨p,hp,hp2⟩:=Option.map_eq_some_iff.mp hw
 refine wpAny_getItem_heap (knd:=iA X.prog X.w) (by show A.units+1+8 < cLine; omega) (kL I.hok ky) dd hp ?_
 rw[hp2]
 exact q w' _ (I.tok _) rw'
theorem Fp {d0:V} {r0:Value} {Q:Value->Shared->Prop} (hu:A.units+16 < cLine) (I:ad X pins σ H s) (d:DN H a kvs) (ky:bU H k b) (rd:aq d0 r0) (q : ∀ w' s',ad X pins σ H s'->aq ((bV kvs k).getD d0) w'->Q w' s'):wpAny (model X.prog X.w) A (call (.builtin "dict.get") [.ref a,.ref b,r0]) Q E s:=by
 obtain⟨xs,ep,h1,h2,r,dd⟩:=h9 I d
 refine call_meetsIn PySem.F.slot_dict_get dd.typeIs PySem.F.entry_dict_get (PySem.F.args_dict_get_3 _ _ _) (meetsH_dict_get_default (iA X.prog X.w) a b r.big r0) ⟨by show A.units+1+8 < cLine; omega,k,xs,kL I.hok ky,dd,q _ _ (I.tok _) ?_⟩
 exact (h2.val k).getD rd
theorem Fo{u:Value}{Q:Unit->Shared->Prop}(hu:A.units+16 < cLine)(I:ad X pins σ H s)(d:DN H a kvs)(ky:bU H k b)(hl:kvs.length < sizeLine)(rv:aq v u)(q : ∀ H' s',ad X pins σ H' s'->DN H' a (eM kvs k b v)->(∀ c,c≠a->H' c=H c)->Q () s'):wpAny (model X.prog X.w) A (setItem (.ref a) (.ref b) u) Q E s:=by
 obtain⟨xs,ep,h1,h2,r,dd⟩:=h9 I d
 have hz:xs.length<=sizeLine:=by rw[<- Paired.length h2]; exact d.le
 refine wpAny_setItem_heap (hsz:=hz) (knd:=iA X.prog X.w) (by show A.units+1+8 < cLine; omega) (kL I.hok ky) dd λh' dd' hs=>?_
 obtain⟨o,es,ep',e1,e2,e3,e4,e5,e6⟩:=dd'
 have nk : ∀ c ys,H c=some (.tup ys)->c≠a:=λc ys z y=>by subst y; rw[h1]at z; cases z
 have es':es=((storedH xs k b u).map gz).toArray:=by
  rw[sH]at e4
  rw[<- e4,Array.toArray_toList]
 have I':ad X pins σ (upd H a (gw a (storedH xs k b u) ep')) { s with heap:=h',toks:=s.toks+(iA X.prog X.w).draws k }:=by
  refine j8 I (by rw[h1]; exact True.intro) hs ⟨o,e1⟩ ⟨⟨r.big,o,e1,e2,by rw[e3,es']⟩,⟨o,e1⟩,λg1 g2 f kk=>f.to kk⟩
 refine q _ _ I' ⟨⟨_,ep',aN,h2.put k rv⟩,λx hx=>?_,?_,?_⟩ λc hc=>ak hc
 ·have ky':bU H x.1 x.2.1:=by
   rcases AI kvs k b v x hx with ⟨y,hy,z1,z2⟩ | z
   ·rw[<- z1,<- z2]; exact d.key y hy
   ·rw[z]; exact ky
  obtain⟨c,c1,c2⟩:=ky'
  exact⟨c,by rw[ak (nk _ _ c1)]; exact c1,by rw[ak (nk _ _ c2)]; exact c2⟩
 ·rw[(h2.put k rv).keys]; exact e6
 ·have:=AH kvs k b v; omega
end
def CT:TE:=λ_ H Q=>∀ p H',aP H p (gw p [] 0) H'->Q (.ref p) H'
theorem DN.new{H H':Hp}{p:Addr}(g:aP H p (gw p [] 0) H'):DN H' p []:=⟨⟨[],0,g.at_,.nil⟩,λ_ hx=>(nomatch hx),List.nodup_nil,Nat.zero_le _⟩
def yx(td ty:TE):TE:=λσ H Q=>td σ H λx H1=>ty σ H1 λy H2=>∃ a b kvs k v,x=.ref a/\y=.ref b/\DN H2 a kvs/\bU H2 k b/\bV kvs k=some v/\Q v H2
def yw(td ty tx:TE):TE:=λσ H Q=>td σ H λx H1=>∃ a kv0,x=.ref a/\DN H1 a kv0/\ty σ H1 λy H2=>tx σ H2 λz H3=>∃ b kvs k,y=.ref b/\DN H3 a kvs/\bU H3 k b/\Q ((bV kvs k).getD z) H3
def zD(td ty tv:TE):TS:=λD σ H=>tv σ H λv H1=>td σ H1 λx H2=>ty σ H2 λy H3=>∃ a b kvs k,x=.ref a/\y=.ref b/\DN H3 a kvs/\bU H3 k b/\kvs.length < sizeLine/\∀ H4,DN H4 a (eM kvs k b v)->(∀ c,c≠a->H4 c=H3 c)->D.nx σ H4
def jA(d:Addr)(o:HO)(kvs:List (ae × Addr × V)):It :=
 ⟨λi H=>H d=some o/\i < kvs.length,λi H x H'=>H'=H/\∃ k b v,kvs[i]? = some (k,b,v)/\x=.ref b,λi H=>H d=some o/\kvs.length<=i⟩
def Ds(td:TE):TI:=λσ H R=>td σ H λx H1=>∃ d kvs,x=.ref d/\DN H1 d kvs/\∀ o,H1 d=some o->R (jA d o kvs) H1
def EZ:List V->Hp->VK->Prop:=λus H Q=>∃ a kvs,us=[.ref a]/\DN H a kvs/\∀ p H',aP H p (.lst (kvs.map λx=>V.ref x.2.1)) H'->Q (.ref p) H'
theorem ya{P:Program}{w:World}{K:W.Frag}{tg:Expr}(d it:Addr)(xs:List (ae × Addr × Value))(ep:Nat)(kvs:List (ae × Addr × V))(kn:KN kvs xs):dg P w K tg (jA d (gw d xs ep) kvs) [it] it (λi h=>h.IsKeyIter it d i (xs.map gz).toArray.size ep) where
 mem:=by simp
 obj:=λi h st b hb=>by
  have e:b=it:=by simpa using hb
  subst e
  obtain⟨o,e,c,d⟩:=st
  exact⟨o,e,λv z=>by rw[d]at z; cases z⟩
 keep:=λi h h' st k=>st.at λo e=>k it (by simp) o e
 item:=by
  intro X hP hw hK hc i pins s σ H E I hf st hg
  subst hP hw hK
  obtain⟨hq,hi⟩:=hg
  obtain⟨r,_⟩:=I.hok d _ hq
  obtain⟨f0,f1,f2,f3,f4,f5⟩:=hf it (by simp)
  have hl:=Paired.length kn
  obtain⟨⟨k,b,v⟩,hkv⟩ : ∃ y,kvs[i]? = some y:=⟨_,List.getElem?_eq_getElem hi⟩
  obtain⟨⟨k',b',u⟩,hxs⟩ : ∃ y,xs[i]? = some y:=⟨_,List.getElem?_eq_getElem (by omega)⟩
  obtain⟨z1,z2,z3⟩:=u9 kn hkv hxs
  have z2':b=b':=z2
  subst z2'
  refine tG (e:=gz (k',b,u)) st r (by rw[List.getElem?_toArray,List.getElem?_map,hxs]; rfl) λh' st' sb=>?_
  have I1:ad X pins σ H { s with heap:=h' }:=I.turned (t':=s.toks) (λb o hb e=>(sb.2 b hb).trans e) f0 f1 f3 f4 f5
  obtain⟨o,e,c,dd⟩:=id st'
  exact⟨.ref b,rfl,fZ (s:={ s with heap:=h' }) e c dd (by decide) ⟨.ref b,H,I1,rfl,⟨rfl,k,b,v,hkv,rfl⟩,st',λb hb=>(hf b hb).1⟩⟩
 done:=by
  intro X hP hw hK hc i pins s σ H E I hf st hg
  subst hP hw hK
  obtain⟨hq,hi⟩:=hg
  obtain⟨r,_⟩:=I.hok d _ hq
  obtain⟨f0,f1,f2,f3,f4,f5⟩:=hf it (by simp)
  have hl:=Paired.length kn
  exact tH (I.ok.hd hc) st r (by simp; omega) λh' eb=>⟨rfl,I.turned (t':=s.toks) (λb o hb e=>eb b o hb e) f0 f1 f3 f4 f5⟩
 self:=λ_ _ _ _ _ st h=>wpAny_pyIter_keyiter st h
theorem zH {P:Program} {w:World} (d:Addr) (es:Array DictEntry) (ep:Nat):W.KdlSrc P w "dict" d d es.size (λi v=>∃ e,es[i]? = some e/\v=e.key) (λh=>dj h d es ep) where
 type:=λ_ r=>r.ty
 there:=λ_ r=>⟨r.lt,r.lt⟩
 keep:=λ_ _ r k=>r.to λo e=>k d (.inl rfl) o e
 notList:=by decide
 notTuple:=by decide
 hint:=λ_ _ _ _ r q=>W.kdl_hint_dict r.ty q
 iter:=λA s hh r=>⟨_,λi h=>h.IsKeyIter s.heap.objs.size d i es.size ep/\dj h d es ep,(λ_ _ q=>tF r q),{
  sub:=λb hb=>by simp at hb; simp[hb]
  frame:=λ_ _ _ st hk=>⟨st.1.at λo e=>hk _ (by simp) o e,st.2.to λo e=>hk d (by simp) o e⟩
  item:=λi s1 Q E hi st hQ=>by
   obtain⟨e,he⟩ : ∃ e,es[i]? = some e:=⟨_,Array.getElem?_eq_getElem hi⟩
   refine tG st.1 st.2 he λh' st' sb=>hQ _ h' s1.toks ⟨e,he,rfl⟩ ⟨st',st.2.to λo z=>(sb.2 d (Nat.ne_of_lt r.lt)).trans z⟩ λb o hb z=>(sb.2 b (λy=>hb (by simp[y]))).trans z
  done:=λs1 Q E st hQ=>tH hh st.1 st.2 (Nat.le_refl _) λh' eb=>hQ h' s1.toks λb o hb z=>eb b o (λy=>hb (by simp[y])) z
  self:=λ_ _ _ _ st q=>wpAny_pyIter_keyiter st.1 q },⟨⟨_,Heap.get?_push_size _ rfl,rfl,rfl⟩,r.to λo e=>Heap.get?_push_of_some _ e⟩⟩
section
variable {X:Cx}{K:W.Frag}{o i e f value tg l:Expr}{td ty tx tv tl:TE}{pos pos' apos cpos:Pos}
theorem tW:QE X (.Dict [] [] pos) CT:=⟨λpins s σ H Q I h=>by
 refine wpAny_Dict_empty ⟨.ref s.heap.objs.size,_,I.laid (a:=s.heap.objs.size) (o:=gw s.heap.objs.size [] 0) (t':=s.toks) (λ_ _ q=>Heap.get?_push_of_some _ q) (Nat.le_refl _) ?_,rfl,h _ _ (.mk' (I.hok.fresh (Nat.le_refl _)))⟩
 refine⟨⟨beq_eq_false_iff_ne.mpr (Ne.symm (Nat.ne_of_lt I.big)),_,Heap.get?_push_size _ rfl,⟨rfl,rfl,rfl⟩,rfl⟩,⟨_,Heap.get?_push_size _ rfl⟩,λg1 g2 f kk=>f.to kk⟩⟩
theorem Aw(hu:X.A.units+64 < cLine)(ho:QE X o td)(hi:QE X i ty)(hs:jv i:=by intro _ _; rfl):QE X (.Subscript o i pos) (yx td ty):=⟨λpins s σ H Q I h=>by
 refine kK PySem.F.slot_dict_getitem.lookup hs (aj (ho.h pins s σ H _ I h) λu s1 ⟨x,H1,I1,rx,q1⟩=>aj (hi.h pins s1 σ H1 _ I1 q1) λiv s2 ⟨y,H2,I2,ry,a,b,kvs,k,v,ex,ey,d,ky,ev,q2⟩=>?_)
 subst ex ey
 obtain rfl:u=Value.ref a:=rx
 obtain rfl:iv=Value.ref b:=ry
 obtain⟨xs,ep,_,_,r,_⟩:=h9 I2 d
 exact⟨r.ty,Fq (by omega) I2 d ky ev λw' s3 I3 rw'=>⟨v,H2,I3,rw',q2⟩⟩⟩
theorem Ax (hu:X.A.units+64 < cLine) (ho:QE X o td) (he:QE X e ty) (hf:QE X f tx) (hb:attributeBase o "get" X.env (eval o X.env)=eval o X.env:=by rfl)
 (hw:((backTo cpos (starEach [e,f] X.env)).all (λx=>!x.1) && (backToKw cpos (keywordEach [] X.env)).all (λx=>x.1.isSome)
   && decide (([e,f]:List Expr).length+([]:List Keyword).length+(if ([]:List Keyword).isEmpty then 0 else 1) < 30))=true:=by rfl)
 (hl:(apos.endLine == cpos.line)=true:=by rfl) (ht:backTo cpos (starEach [e,f] X.env)=[(false,eval e X.env),(false,eval f X.env)]:=by rfl) :
 QE X (.Call (.Attribute o "get" apos) [e,f] [] cpos) (yw td ty tx):=⟨λpins s σ H Q I h=>by
 refine wpAny_Call_method hb hw hl PySem.F.plainAttrs_dict PySem.F.slot_dict_get PySem.F.type_dict_get (aj (ho.h pins s σ H _ I h) λu s1 ⟨x,H1,I1,rx,a,kv0,ex,d,q1⟩=>?_)
 subst ex
 obtain rfl:u=Value.ref a:=rx
 obtain⟨xs,ep,_,_,r,_⟩:=h9 I1 d
 refine⟨r.ty,λb z=>?_,?_⟩
 ·cases z
  obtain⟨ob,e1,e2,_⟩:=r.obj
  exact⟨ob,e1,e2.2.1⟩
 rw[ht]
 refine Calls.callWith_builtin rfl (Calls.evalArgs_plain (Calls.spliced_cons (aj (he.h pins s1 σ H1 _ I1 q1) λiv s2 ⟨y,H2,I2,ry,q2⟩ =>
  Calls.spliced_cons (aj (hf.h pins s2 σ H2 _ I2 q2) λfv s3 ⟨z,H3,I3,rz,b,kvs,k,ey,d3,ky,q3⟩=>Calls.spliced_nil ?_))))
 subst ey
 obtain rfl:iv=Value.ref b:=ry
 exact Fp (by omega) I3 d3 ky rz λw' s4 I4 rw'=>⟨_,H3,I4,rw',q3⟩⟩
theorem tX(hu:X.A.units+64 < cLine)(ho:QE X o td)(hi:QE X i ty)(hv:QE X value tv)(hs:swapsWith value (some (.Subscript o i pos')) pos.line X.env=pure false:=by rfl):QS X (.Assign [.Subscript o i pos'] value pos) (zD td ty tv):=⟨λpins s σ H D I h=>by
 refine wpAny_Assign_Subscript (aj (hv.h pins s σ H _ I h) λr s1 ⟨v,H1,I1,rv,q1⟩=>aj (ho.h pins s1 σ H1 _ I1 q1) λu s2 ⟨x,H2,I2,rx,q2⟩=>aj (hi.h pins s2 σ H2 _ I2 q2) λiv s3 ⟨y,H3,I3,ry,a,b,kvs,k,ex,ey,d,ky,lt,q3⟩=>?_) hs
 subst ex ey
 obtain rfl:u=Value.ref a:=rx
 obtain rfl:iv=Value.ref b:=ry
 exact Fo (by omega) I3 d ky lt rv λH4 s4 I4 d4 k4=>⟨σ,H4,I4,q3 H4 d4 k4⟩⟩
theorem Ah(hl:QE X l tl):QI X tg l (Ds tl):=⟨λpins s σ H R I h=>by
 refine aj (hl.h pins s σ H _ I h) λv s1 ⟨x,H1,I1,r1,d,kvs,ex,dn,q⟩=>?_
 subst ex
 obtain rfl:v=Value.ref d:=r1
 obtain⟨xs,ep,h1,h2,r,_⟩:=h9 I1 dn
 refine tF r ?_
 refine⟨s1.heap.objs.size,[s1.heap.objs.size],_,jA d (gw d xs ep) kvs,H1,rfl,I1.kept (t':=s1.toks) λb o e=>Heap.get?_push_of_some _ e,ya d _ xs ep kvs h2,⟨_,Heap.get?_push_size _ rfl,rfl,rfl⟩,λb hb=>?_,q _ h1⟩
 have e:b=s1.heap.objs.size:=by simpa using hb
 subst e
 exact I1.fpOk (Nat.le_refl _) (I1.hok.fresh (Nat.le_refl _))⟩
theorem Fb{d:Addr}{o:HO}{kvs:List (ae × Addr × V)}{g:TG}{tb:TS}{D:cP}{σ:St}{H:Hp}(Pv:Nat->St->Hp->Prop)(h0:Pv 0 σ H)(hl : ∀ i σ H,i<=kvs.length->Pv i σ H->H d=some o)
 (hs : ∀ i k b v σ H,kvs[i]? = some (k,b,v)->Pv i σ H->g (.ref b) σ H λσ2 H2=>tb { D with nx:=Pv (i+1),ct:=Pv (i+1),bk:=D.nx } σ2 H2) (hd : ∀ σ H,Pv kvs.length σ H->D.nx σ H) :
 ∃ W:Nat->Nat->St->Hp->Prop,(∃ m,W 0 m σ H)/\∀ i m σ H,W i m σ H ->
  ((jA d o kvs).stop i H/\D.nx σ H)\/((jA d o kvs).go i H/\∃ N:St->Hp->Prop,(∀ σ' H',N σ' H'->∃ m',m' < m/\W (i+1) m' σ' H')/\∀ x H',(jA d o kvs).yld i H x H'->g x σ H' λσ2 H2=>tb { D with nx:=N,ct:=N,bk:=D.nx } σ2 H2):=by
 refine⟨λi m σ H=>m=kvs.length - i/\i<=kvs.length/\Pv i σ H,⟨kvs.length,by simp,Nat.zero_le _,h0⟩,?_⟩
 rintro i m σ H ⟨rfl,hi,p⟩
 have q:=hl i σ H hi p
 by_cases hlt:i < kvs.length
 ·refine .inr ⟨⟨q,hlt⟩,Pv (i+1),λσ' H' p'=>⟨kvs.length - (i+1),by omega,rfl,hlt,p'⟩,λx H' y=>?_⟩
  obtain⟨rfl,k,b,v,y,rfl⟩:=y
  exact hs i k b v σ H' y p
 ·have e:i=kvs.length:=by omega
  subst e
  exact .inl ⟨⟨q,Nat.le_refl _⟩,hd σ H p⟩
theorem Gb (hc:X.calm=true):bA X (.type "list") EZ:=by
 intro pins s σ H us vs Q I r q
 obtain⟨a,kvs,rfl,d,q⟩:=q
 cases r with
 | cons r1 r2=>cases r2 with
  | nil =>
   cases r1
   obtain⟨xs,ep,h1,h2,rw',_⟩:=h9 I d
   have hl:=Paired.length h2
   have sz:(xs.map gz).toArray.size=kvs.length:=by simp[hl]
   refine W.kdl_call (zH a _ ep) (I.ok.hd hc) rw' (by rw[sz]; exact d.le) λh' tk acc c hk hD ha=>?_
   have hn:=I.hok.fresh (Nat.le_refl s.heap.objs.size)
   refine⟨.ref s.heap.objs.size,upd H s.heap.objs.size (.lst (kvs.map λx=>V.ref x.2.1)),I.laid (a:=s.heap.objs.size) (o:=.lst (kvs.map λx=>V.ref x.2.1)) (t':=tk) hk (Nat.le_refl _) ⟨by rw[List.length_map]; exact d.le,acc.toList,c,?_,by rw[Array.toArray_toList]; exact hD⟩,rfl,q _ _ (.mk' hn)⟩
   obtain⟨ha1,ha2⟩:=ha
   have go : ∀ (ys:List (ae × Addr × V)) (zs:List (ae × Addr × Value)) (us:List Value) (_:KN ys zs) (_:us.length=zs.length) (_ : ∀ (j:Nat) (v:Value),us[j]? = some v->∃ z:ae × Addr × Value,zs[j]? = some z/\v=Value.ref z.2.1),ar (ys.map λx=>V.ref x.2.1) us:=by
    intro ys zs us kn
    induction kn generalizing us with
    | nil =>
     intro l _
     obtain rfl:=List.eq_nil_of_length_eq_zero l
     exact .nil
    | @cons p q ps qs h t ih =>
     intro l al
     cases us with
     | nil=>simp at l
     | cons u us =>
      obtain⟨z,e1,e2⟩:=al 0 u rfl
      simp at e1
      subst e1
      refine .cons ?_ (ih us (by simpa using l) λj v hj=>?_)
      ·rw[e2]
       show Value.ref q.2.1=Value.ref p.2.1
       rw[h.2.1]
      ·obtain⟨z,e1,e2⟩:=al (j+1) v (by simpa using hj)
       exact⟨z,by simpa using e1,e2⟩
   refine go kvs xs acc.toList h2 (by rw[Array.length_toList,ha1,sz,hl]) λj v hj=>?_
   obtain⟨e,e1,e2⟩:=ha2 j v (by rw[<- Array.getElem?_toList]; exact hj)
   rw[List.getElem?_toArray,List.getElem?_map]at e1
   obtain⟨z,z1,z2⟩:=Option.map_eq_some_iff.mp e1
   exact⟨z,z1,by rw[e2,<- z2]; rfl⟩
end
section
variable {prog:Program}{w:World}{A:Around}{E:Value->Shared->Prop}{s:Shared}
theorem FQ{t b:Addr}{ws:Array Value}{Q:Value->Shared->Prop}(ht:IsTup s.heap t #[])(hb:IsTup s.heap b ws)(q:Q (.ref b) s):wpAny (model prog w) A (binaryOp .Add (.ref t) (.ref b)) Q E s:=by
 obtain⟨⟨c1,d1,e1,l1⟩,o1,z1,n1,y1⟩:=ht
 obtain⟨⟨c2,d2,e2,l2⟩,o2,z2,n2,y2⟩:=hb
 simp only at z1 y1 z2 y2
 subst z1 y1 z2 y2
 exact concat_meets ⟨_,o1,rfl⟩ ⟨_,o2,rfl⟩ noFill_tuple_add seq_tuple_add PySem.F.slot_tuple_add PySem.F.entry_tuple_add (PySem.F.args_tuple_add_2 _ _) (tuple_addW0 t b #[] ws n1 n2 d1 d2 l1 l2 rfl) ⟨o1,o2,q⟩
end
def E5(K:W.Frag):R2:=λx y H Q=>∃ a b xs ys,x=.ref a/\y=.ref b/\H a=some (.tup xs)/\H b=some (.tup ys)/\xs.length+ys.length<=sizeLine/\∀ p H',ag H H'->H' p=some (.tup (xs++ys))->Q (.ref p) H'
def kx(K:W.Frag)(a:Addr)(n:Nat):It :=
 ⟨λi H=>∃ xs,ax K H a xs/\xs.length=n/\i < n,λi H x H'=>H'=H/\∀ xs,ax K H a xs->xs.length=n->xs.reverse[i]? = some x,λi H=>∃ xs,ax K H a xs/\xs.length=n/\n<=i⟩
def Do(K:W.Frag)(ta:TA):TI:=λσ H R=>ta σ H λvs H1=>∃ a xs,vs=[.ref a]/\ax K H1 a xs/\R (kx K a xs.length) H1
theorem xW{P:Program}{w:World}{K:W.Frag}{tg:Expr}(a it:Addr)(n:Nat)(ne:a≠it):dg P w K tg (kx K a n) [it] it (λi h=>i<=n/\h.IsRevIter it a ((n:Int) - 1 - (i:Int))) where
 mem:=by simp
 obj:=λi h st b hb=>by
  have e:b=it:=by simpa using hb
  subst e
  obtain⟨_,o,e,c,d⟩:=st
  exact⟨o,e,λv z=>by rw[d]at z; cases z⟩
 keep:=λi h h' st k=>⟨st.1,st.2.at λo e=>k it (by simp) o e⟩
 item:=by
  intro X hP hw hK hc i pins s σ H E I hf st hg
  subst hP hw hK
  obtain⟨xs,hq,rfl,hi⟩:=hg
  obtain⟨its,rv,p,hz⟩:=I.list hq
  obtain⟨f0,f1,f2,f3,f4,f5⟩:=hf it (by simp)
  have hl:=rv.length
  have W:=Walks.listRev (prog:=X.prog) (w:=X.w) (I.ok.hd hc) it a ne its.toArray
  have sz:its.toArray.size=xs.length:=by rw[List.size_toArray]; exact hl.symm
  refine W.item i s _ _ (by rw[sz]; exact hi) ⟨by rw[sz]; exact st.1,by rw[sz]; exact st.2,p.isList⟩ λv h' tk hv st' kk=>?_
  have I1:ad X pins σ H { s with heap:=h',toks:=tk }:=I.turned (λb o hb e=>kk b o (by simpa using hb) e) f0 f1 f3 f4 f5
  obtain⟨st1,st2,_⟩:=st'
  rw[sz]at st1 st2 hv
  obtain⟨o,e,c,d⟩:=id st2
  have hx:xs[xs.length - 1 - i]? = some (xs[xs.length - 1 - i]'(by omega)):=List.getElem?_eq_getElem _
  obtain⟨u,hu,ru⟩:=rv.get hx
  have ev:v=u:=by
   rw[List.getElem?_toArray,hu]at hv
   exact (Option.some.inj hv).symm
  subst ev
  refine⟨v,rfl,fZ (s:={ s with heap:=h',toks:=tk }) e c d (by decide) ⟨_,H,I1,ru,⟨rfl,λys hy ly=>?_⟩,⟨st1,st2⟩,λb hb=>(hf b hb).1⟩⟩
  rw[I.list_inj hy hq,List.getElem?_reverse hi]
  exact hx
 done:=by
  intro X hP hw hK hc i pins s σ H E I hf st hg
  subst hP hw hK
  obtain⟨xs,hq,rfl,hi⟩:=hg
  obtain⟨its,rv,p,hz⟩:=I.list hq
  obtain⟨f0,f1,f2,f3,f4,f5⟩:=hf it (by simp)
  have hl:=rv.length
  have W:=Walks.listRev (prog:=X.prog) (w:=X.w) (I.ok.hd hc) it a ne its.toArray
  have sz:its.toArray.size=xs.length:=by rw[List.size_toArray]; exact hl.symm
  obtain⟨st1,st2⟩:=st
  have ei:i=xs.length:=by omega
  rw[ei]at st2
  exact W.done s _ _ ⟨Nat.le_refl _,by rw[sz]; exact st2,p.isList⟩ λh' tk kk=>⟨rfl,I.turned (λb o hb e=>kk b o (by simpa using hb) e) f0 f1 f3 f4 f5⟩
 self:=λ_ _ _ _ _ st h=>wpAny_pyIter_revIter st.2 h
section
variable {X:Cx}{K:W.Frag}{a e tg:Expr}{ta:TA}{te:TE}{p pos pos':Pos}
theorem ES(h:X.K=K):aA X (binaryOp .Add) (E5 K):=by
 subst h
 intro pins s σ H x y v u Q I rx ry q
 obtain⟨a,b,xs,ys,rfl,rfl,ha,hb,hz,q⟩:=q
 by_cases hx:xs=[]
 ·subst hx
  cases rx
  cases ry
  obtain⟨its,r1,p1,_⟩:=I.tuple (.of ha)
  obtain⟨its2,r2,p2,_⟩:=I.tuple (.of hb)
  cases r1
  exact FQ p1 p2 ⟨.ref b,H,I,rfl,q b H (ag.refl _) hb⟩
 ·refine B3 pins s σ H _ _ v u Q I rx ry ⟨a,b,xs,ys,rfl,rfl,.of ha,.of hb,hx,hz,λz=>?_,λ_ l hl=>q l _ (ag.new hl) aN⟩
  subst z
  exact q a H (ag.refl _) (by rw[List.append_nil]; exact ha)
theorem Aa{i:Nat}{x:Str}(hN:X.N.Nodup)(hi:X.N[i]? = some x)(hx:fe X.env.scope x)(he:QE X e te)(hf:X.fn x=true\/X.env.scope.names.lookup x=some .local:=by first | exact .inl rfl | exact .inr rfl | assumption):QS X (.AugAssign (.Name x pos') .Sub e pos) (sv i te (eG λi j=>.int (i - j))):=⟨A7 hN hi hx he.h (λpins s σ H x y v u Q I rx ry q=>vi pins s σ H x y v u Q I rx ry q) hf⟩
theorem Ad (h:X.K=K) (hg:Gl X "reversed") (hm:X.mg "reversed" = none) (ha:QA X [a] ta) (hs:cT a=false:=by rfl):QI X tg (.Call (.Name "reversed" p) [a] [] pos) (Do K ta):=⟨by
 subst h
 intro pins s σ H R I h
 have hs':starEach [a] X.env=[(false,eval a X.env)]:=cK hs
 refine Call_ (fA I hg hm boot_reversed (PyProof.Rows.callWith_type1 (aj (ha.h pos pins s σ H _ I h) λus s1 ⟨vs,H1,I1,r1,q1⟩=>?_) hs' rfl))
 obtain⟨l,xs,rfl,hq,q⟩:=q1
 cases r1 with
 | cons r rr =>
  cases rr
  cases r
  obtain⟨its,rv,pl,hz⟩:=I1.list hq
  have hl:=rv.length
  have sz:its.toArray.size=xs.length:=by rw[List.size_toArray]; exact hl.symm
  have ll:l < s1.heap.objs.size:=by obtain⟨o,_,e,_⟩:=pl; exact Heap.lt_size e
  refine call_reversed_list pl.isList ?_
  have I2:ad X pins σ H1 { s1 with heap:=s1.heap.push (revObj l ((its.toArray.size:Int) - 1)) }:=I1.kept (t':=s1.toks) λb o e=>Heap.get?_push_of_some _ e
  refine wpAny_pyIter_revIter ⟨_,Heap.get?_push_size _ rfl,rfl,rfl⟩ ⟨s1.heap.objs.size,[s1.heap.objs.size],_,_,H1,rfl,I2,xW l _ xs.length (Nat.ne_of_lt ll),⟨Nat.zero_le _,?_⟩,λb hb=>?_,q⟩
  ·refine⟨_,Heap.get?_push_size _ rfl,rfl,?_⟩
   rw[sz]
   simp[revObj]
  ·have e:b=s1.heap.objs.size:=by simpa using hb
   subst e
   exact I1.fpOk (Nat.le_refl _) (I1.hok.fresh (Nat.le_refl _))⟩
theorem E8{a:Addr}{xs:List V}{g:TG}{tb:TS}{D:cP}{σ:St}{H:Hp}(Pv:Nat->St->Hp->Prop)(h0:Pv 0 σ H)(hl : ∀ i σ H,i<=xs.length->Pv i σ H->ax K H a xs)
 (hs : ∀ i x σ H,xs.reverse[i]? = some x->Pv i σ H->g x σ H λσ2 H2=>tb { D with nx:=Pv (i+1),ct:=Pv (i+1),bk:=D.nx } σ2 H2) (hd : ∀ σ H,Pv xs.length σ H->D.nx σ H) :
 ∃ W:Nat->Nat->St->Hp->Prop,(∃ m,W 0 m σ H)/\∀ i m σ H,W i m σ H ->
  ((kx K a xs.length).stop i H/\D.nx σ H)\/((kx K a xs.length).go i H/\∃ N:St->Hp->Prop,(∀ σ' H',N σ' H'->∃ m',m' < m/\W (i+1) m' σ' H')/\∀ x H',(kx K a xs.length).yld i H x H'->g x σ H' λσ2 H2=>tb { D with nx:=N,ct:=N,bk:=D.nx } σ2 H2):=by
 refine⟨λi m σ H=>m=xs.length - i/\i<=xs.length/\Pv i σ H,⟨xs.length,by simp,Nat.zero_le _,h0⟩,?_⟩
 rintro i m σ H ⟨rfl,hi,p⟩
 have q:=hl i σ H hi p
 by_cases hlt:i < xs.length
 ·refine .inr ⟨⟨xs,q,rfl,hlt⟩,Pv (i+1),λσ' H' p'=>⟨xs.length - (i+1),by omega,rfl,hlt,p'⟩,λx H' y=>?_⟩
  obtain⟨rfl,y⟩:=y
  exact hs i x σ H' (y xs q rfl) p
 ·have e:i=xs.length:=by omega
  subst e
  exact .inl ⟨⟨xs,q,rfl,Nat.le_refl _⟩,hd σ H p⟩
end
theorem qh{K:W.Frag}{d:Addr}{ob:Obj}{kvs:List (ao × V)}{cs:St}{tt:TT}{te:TE}{H:Hp}{Q:VK}(Pv:Nat->List V->Hp->Prop)(h0:Pv 0 [] H)(hl : ∀ i ys H,i<=kvs.length->Pv i ys H->H d=some (.frz ob (.dK kvs))/\ys.length<=i)(hz:kvs.length<=sizeLine)
 (hs : ∀ i k v ys H H' (N:List V->Hp->Prop),kvs[i]? = some (k,v)->Pv i ys H->ag H H'->(∀ ys' H',Pv (i+1) ys' H'->N ys' H')->tt (some (kV k) :: some v :: cs) H' λb H4=>if b=true then te (some (kV k) :: some v :: cs) H4 λy H5=>N (ys++[y]) H5 else N ys H4)
 (hd : ∀ ys H p H',Pv kvs.length ys H->aP H p (.lst ys) H'->Q (.ref p) H') :
 fM (ip d ob kvs) H (List.replicate 2 none++cs) (hW K 2 (eU (bF 0) (eU (bF 1) jj))) tt te Q:=by
 refine⟨λi m ys σ H=>m=kvs.length - i/\i<=kvs.length/\Pv i ys H/\∃ v0 v1,σ=v0 :: v1 :: cs,⟨kvs.length,by simp,Nat.zero_le _,h0,none,none,rfl⟩,?_⟩
 rintro i m ys σ H2 ⟨rfl,hi,p,v0,v1,rfl⟩
 obtain⟨q,ql⟩:=hl i ys H2 hi p
 by_cases hlt:i < kvs.length
 ·refine .inr ⟨⟨q,hlt⟩,by omega,λys' σ' H'=>Pv (i+1) ys' H'/\∃ v0 v1,σ'=v0 :: v1 :: cs,λys' σ' H' ⟨p',e⟩=>⟨kvs.length - (i+1),by omega,rfl,hlt,p',e⟩,λx H' y=>?_⟩
  obtain⟨pp,k,v,rfl,y,gr⟩:=y
  refine⟨pp,_,rfl,gr.tup,rfl,_,_,rfl,_,_,rfl,rfl,?_⟩
  exact hs i k v ys H2 H' (λys' H'=>Pv (i+1) ys' H'/\∃ v0 v1,some (kV k) :: some v :: cs=v0 :: v1 :: cs) y p gr.sm λ_ _ z=>⟨z,_,_,rfl⟩
 ·have e:i=kvs.length:=by omega
  subst e
  exact .inl ⟨⟨q,Nat.le_refl _⟩,by omega,λp' H' g=>hd ys H2 p' H' p g⟩
def jx(d:Addr)(ob:Obj)(kvs:List (ao × V)):It :=
 ⟨λi H=>H d=some (.frz ob (.dK kvs))/\i < kvs.length,λi H x H'=>H'=H/\∃ k,kvs[i]? = some (k,x),λi H=>H d=some (.frz ob (.dK kvs))/\kvs.length<=i⟩
theorem Fg:entryFor table "dict_valueiterator.__iter__" = some Builtin.«dict_keyiterator.__iter__» :=
 entryFor_alias (id' := "dict_keyiterator.__iter__") (by kernel_rfl) rfl (by decide +kernel) (by kernel_rfl)
theorem xV{P:Program}{w:World}{K:W.Frag}{tg:Expr}(d it:Addr)(ob:Obj)(kvs:List (ao × V))(es:Array DictEntry)(ep:Nat)(he:ob.data=.dict es ep):dg P w K tg (jx d ob kvs) [it] it (λi h=>h.IsValIter it d i kvs.length ep) where
 mem:=by simp
 obj:=λi h st b hb=>by
  have e:b=it:=by simpa using hb
  subst e
  obtain⟨o,e,c,dd⟩:=st
  exact⟨o,e,λv z=>by rw[dd]at z; cases z⟩
 keep:=λi h h' st k=>by
  obtain⟨o,e,c⟩:=st
  exact⟨o,k it (by simp) o e,c⟩
 item:=by
  intro X hP hw hK hc i pins s σ H E I hf st hg
  subst hP hw hK
  obtain⟨hq,hi⟩:=hg
  obtain⟨vs,rel,da⟩:=l7 I hq he
  have hl:=rel.length
  obtain⟨⟨k,v⟩,hkv⟩ : ∃ kv,kvs[i]? = some kv:=⟨_,List.getElem?_eq_getElem hi⟩
  obtain⟨⟨k',u⟩,hvs,hk',ru⟩ : ∃ q,vs[i]? = some q/\k=q.1/\aq v q.2:=by
   obtain⟨q,hq2⟩ : ∃ q,vs[i]? = some q:=⟨_,List.getElem?_eq_getElem (by omega)⟩
   exact⟨q,hq2,Paired.nth rel hkv hq2⟩
  obtain⟨f0,f1,f2,f3,f4,f5⟩:=hf it (by simp)
  rw[hl]at st
  refine wpAny_pyNext_values_item st da hvs λh' st' sb=>?_
  have I1:ad X pins σ H { s with heap:=h' }:=I.turned (t':=s.toks) (λb o hb e=>(sb.2 b hb).trans e) f0 f1 f3 f4 f5
  obtain⟨o,e,c,dd⟩:=id st'
  exact⟨u,rfl,fZ (s:={ s with heap:=h' }) e c dd (by decide) ⟨v,H,I1,ru,⟨rfl,k,hkv⟩,by rw[hl]; exact st',λb hb=>(hf b hb).1⟩⟩
 done:=by
  intro X hP hw hK hc i pins s σ H E I hf st hg
  subst hP hw hK
  obtain⟨hq,hi⟩:=hg
  obtain⟨vs,rel,da⟩:=l7 I hq he
  have hl:=rel.length
  rw[hl]at st
  exact wpAny_pyNext_values_end (I.ok.hd hc) st da (List.getElem?_eq_none (by omega)) λh' eb=>⟨rfl,I.turnedL (t':=s.toks) (fp:=[it]) (λb o hb eo=>eb b o (λz=>hb (by simp[z])) eo) hf⟩
 self:=λA i s Q E st h=>by
  have hT:=st.typeIs
  refine wpAny_pyIter_slot hT PySem.F.slot_dict_valueiterator_iter (wpAny_call_entry PySem.F.slot_dict_valueiterator_iter hT Fg ?_ (PySem.F.args_dict_valueiterator_iter_1 _))
  show wpAny _ _ (ret (.ref it)) _ _ s
  exact wpAny_pure ⟨_,rfl, "dict_valueiterator",_,hT,PySem.F.slot_dict_valueiterator_next.lookup,h⟩
def vj(td:TE):TI:=λσ H R=>td σ H λx H1=>∃ d kvs,x=.ref d/\H1 d=some (.dK kvs)/\∀ ob,R (jx d ob kvs) (upd H1 d (.frz ob (.dK kvs)))
section
variable {X:Cx}{o tg:Expr}{apos cpos:Pos}{td:TE}
theorem Bg (ho:PE X o td) (hb:attributeBase o "values" X.env (eval o X.env)=eval o X.env) (hl:(apos.endLine == cpos.line)=true):PI X tg (.Call (.Attribute o "values" apos) [] [] cpos) (vj td):=by
 intro pins s σ H R I h
 refine wpAny_Call_method (T := "dict") (id := "dict.values") hb rfl hl PySem.F.plainAttrs_dict PySem.F.slot_dict_values PySem.F.type_dict_values (aj (ho pins s σ H _ I h) λu s1 ⟨x,H1,I1,rx,d,kvs,ex,hd,q⟩=>?_)
 subst ex
 obtain rfl:u=Value.ref d:=rx
 obtain⟨z,hdS,vs,rel,dd⟩:=mf I1.hok hd
 refine⟨dd.typeIs,dd.mapOf.noDict,?_⟩
 show wpAny _ _ (callWith cpos (.builtin "dict.values") [.ref d] [] []) _ _ s1
 refine method_meetsIn PySem.F.slot_dict_values PySem.F.entry_dict_values rfl (PyProof.Rows.evalArgs_none ⟨rfl,dd.typeIs,PySem.F.args_dict_values_1 _,_,meets_dict_values (bB X.prog X.w) d hdS,⟨vs,dd⟩,?_⟩)
 obtain⟨ep,da⟩:=dd.dictAt
 refine wpAny_pyIter_values (knd:=bB X.prog X.w) (d:=d) (kvs:=vs) (ep:=ep) ⟨_,Heap.get?_push_size _ rfl,rfl,rfl⟩ (da.push _) ?_
 obtain⟨ob,es',ho1,c1,c2,c3⟩:=id da
 have hsz:(s1.heap.push { cls:=.type "dict_values",data:=.fields #[.ref d] }).objs.size=s1.heap.objs.size+1:=Heap.size_push ..
 have k2 : ∀ b o,s1.heap.get? b=some o->((s1.heap.push { cls:=.type "dict_values",data:=.fields #[.ref d] }).push { cls:=.type "dict_valueiterator",data:=.fields #[.ref d,.int 0 0,.int vs.length 0,.int ep 0] }).get? b=some o:=λb o e=>Heap.get?_push_of_some _ (Heap.get?_push_of_some _ e)
 have I2:=I1.kept (t':=s1.toks) k2
 have hd2:=k2 d ob ho1
 have I3:=I2.write (x:=d) (e:=d) (o:=.frz ob (.dK kvs)) (t':=s1.toks) (by rw[hd]; exact True.intro) (.inl rfl) (λb u _ e=>e) ⟨ob,hd2⟩ ⟨hd2,z,hdS,vs,rel,ob,es',ep,hd2,c1,c2,c3⟩
 have hle:s1.heap.objs.size<=(s1.heap.push { cls:=.type "dict_values",data:=.fields #[.ref d] }).objs.size:=by rw[hsz]; exact Nat.le_succ _
 have hdi:d≠(s1.heap.push { cls:=.type "dict_values",data:=.fields #[.ref d] }).objs.size:=by rw[hsz]; exact Nat.ne_of_lt (Nat.lt_succ_of_lt (Heap.lt_size ho1))
 refine⟨_,[_],_,jx d ob kvs,_,rfl,I3,xV d _ ob kvs es' ep c2,⟨_,Heap.get?_push_size _ rfl,rfl,by rw[rel.length]; rfl⟩,λb hb=>?_,q ob⟩
 have hb':b=(s1.heap.push { cls:=.type "dict_values",data:=.fields #[.ref d] }).objs.size:=by simpa using hb
 have f1:=I1.fpOk (b:=b) (by rw[hb']; exact hle) (I1.hok.fresh (by rw[hb']; exact hle))
 obtain⟨f0,f⟩:=f1
 exact⟨by rw[ak (by rw[hb']; exact hdi.symm)]; exact f0,f⟩
theorem Ac (ho:QE X o td) (hb:attributeBase o "values" X.env (eval o X.env)=eval o X.env:=by rfl) (hl:(apos.endLine == cpos.line)=true:=by rfl):QI X tg (.Call (.Attribute o "values" apos) [] [] cpos) (vj td):=⟨Bg ho.h hb hl⟩
end
section
variable {X:Cx}{pins:List (Addr × Obj)}{σ:St}{H:Hp}{s:Shared}{d:Addr}{ob:Obj}{u:HO}
theorem ad.thaw(I:ad X pins σ H s)(h:H d=some (.frz ob u))(n0 : ∀ o v,X.H₀ d≠some (.frz o v)):ad X pins σ (upd H d u) s:=by
 have nn : ∀ {b:Addr},H b=none->b≠d:=λ{b} e z=>by rw[z,h]at e; cases e
 have nd : ∀ {b:Addr} {v:HO},H b=some v->(∀ o w,v ≠ .frz o w)->b≠d:=λ{b v} e k z=>by
  rw[z,h]at e
  exact k _ _ (Option.some.inj e).symm
 obtain⟨hob,hu⟩:=(show aO X.prog X.w H s.heap d (.frz ob u) from I.hok d _ h)
 have st : ∀ {b:Addr} {v:HO},aO X.prog X.w H s.heap b v->aO X.prog X.w (upd H d u) s.heap b v:=λ{b v} x =>
  x.stay (λc v hc r=>r) (λc r=>by rw[ak (nd r λo w z=>nomatch z)]; exact r) λc xs r=>by rw[ak (nd r λo w z=>nomatch z)]; exact r
 refine⟨I.ok,I.os,I.bare,⟨I.base.keep,I.base.slot,λb o e n hx=>?_,I.base.there,λb xs e=>?_,λb o v e=>?_,λb ps e=>?_⟩,I.loc,I.cell,?_,λx c e=>?_,λp hp=>?_,λb v e=>?_,I.len⟩
 ·have:=I.base.free b o e n hx
  rw[ak (nn this)]
  exact this
 ·have:=I.base.tups b xs e
  rw[ak (nd this λo w z=>nomatch z)]
  exact this
 ·have q:=I.base.frzs b o v e
  rw[ak (show b≠d from λz=>n0 o v (by rw[<- z]; exact e))]
  exact q
 ·obtain⟨m,q⟩:=I.base.tbls b ps e
  exact⟨m,by rw[ak (nd q λo w z=>nomatch z)]; exact q⟩
 ·rw[ak (nn I.free)]; exact I.free
 ·rw[ak (nn (I.freeC x c e))]; exact I.freeC x c e
 ·obtain⟨a1,a2,a3⟩:=I.pin p hp
  exact⟨a1,by rw[ak (nn a2)]; exact a2,a3⟩
 ·by_cases z:b=d
  ·subst z
   rw[aN]at e
   cases e
   exact st hu
  ·rw[ak z]at e
   exact st (I.hok b v e)
def rV(t:TE):TE:=λσ H Q=>∃ d u,(∀ o v,H d≠some (.frz o v))/\t σ H λx H'=>(∃ ob,H' d=some (.frz ob u))/\Q x (upd H' d u)
theorem Bt{e:Expr}{t:TE}(h:PE X e t):PE X e (rV t):=by
 intro pins s σ H Q I q
 obtain⟨d,u,nf,q⟩:=q
 refine wpAny_mono (h pins s σ H _ I q) (λv s1 z=>?_) λ_ _ e=>e
 obtain⟨x,H1,I1,r,⟨ob,ho⟩,k⟩:=z
 exact⟨x,_,I1.thaw ho λo v e=>nf o v (I.base.frzs _ _ _ e),r,k⟩
theorem nI{e:Expr}{t:TE}(h:QE X e t):QE X e (rV t):=⟨Bt h.h⟩
end
end L2
namespace L2
open PySem PySem.Spec PyProof.Rows PySem.W
structure dW (h:Heap) (d:Addr) (es:Array DictEntry) (ep:Nat):Prop where
 big:(d == sysModules)=false
 obj : ∃ o,h.get? d=some o/\o.ExactDict/\o.data=.dict es ep
section
variable {prog:Program}{w:World}{A:Around}{E:Value->Shared->Prop}{s:Shared}{it d:Addr}{i ep:Nat}{es:Array DictEntry}{ok ov:Value}
theorem kM{h:Heap}{it:Addr}{vs:Array Value}{c x:Value}{i:Nat}(k:h.get? it=some { cls:=c,data:=.fields vs }):(h.update it (Obj.mapFields (·.setIfInBounds i x))).get? it=some { cls:=c,data:=.fields (vs.setIfInBounds i x) }/\Heap.SameBut it h (h.update it (Obj.mapFields (·.setIfInBounds i x))):=by
 refine⟨?_,Heap.SameBut.update ..⟩
 rw[Heap.get?_update_self _ k (Obj.isFreed_of_fields (Obj.data_mapFields rfl _))]
 rfl
theorem tJ{e:DictEntry}{Q:Option Value->Shared->Prop}(ki:IsItemIter s.heap it d i es.size ep ok ov)(r:dW s.heap d es ep)(he:es[i]? = some e)
 (q : ∀ h',IsItemIterOut h' it d (i+1) es.size ep e.key e.val s.heap.objs.size->h'.get? s.heap.objs.size=some { cls:=.type "tuple",data:=.seq #[e.key,e.val] }->(∀ b o,b≠it->s.heap.get? b=some o->h'.get? b=some o)->Q (some (.ref s.heap.objs.size)) { s with heap:=h' }):wpAny (model prog w) A (pyNext (.ref it)) Q E s:=by
 have ty:s.TypeIs (.ref it) "dict_itemiterator":=⟨_,ki,rfl⟩
 obtain⟨u,e1,e2,e3⟩:=r.obj
 unfold pyNext
 refine wpAny_bind (wpAny_attempt (wpAny_callSpecial?_slot (name:=Str.ofString "__next__") ty PySem.F.slot_dict_itemiterator_next (wpAny_call_entry PySem.F.slot_dict_itemiterator_next ty PySem.F.entry_dict_itemiterator_next ?_ (PySem.F.args_dict_itemiterator_next_1 _))))
 refine wpAny_bind (wpAny_pure (wpAny_bind (wpAny_bind ?_)))
 first | refine wpAny_bind (wpAny_typeNameOfWhole_itemiter ty (wpAny_pure ?_)) | refine wpAny_bind (wpAny_typeNameOf_itemiter ty (wpAny_pure ?_))
 refine wpAny_bind (wpAny_fieldsOf ki rfl ?_)
 simp only [show Builtin.Dict_items.ownsTuple "dict_itemiterator" = true by decide,if_true]
 show wpAny _ _ (if (Value.ref d == Value.none)=true then _ else _) _ _ _
 rw[if_neg (by intro z; cases z)]
 refine wpAny_bind (wpAny_pure (wpAny_bind (wpAny_dictEntries e1 e3 ?_)))
 rw[if_neg (by simp)]
 refine wpAny_bind (wpAny_pure (wpAny_bind (wpAny_dictEpoch e1 e3 ?_)))
 rw[if_neg (by simp)]
 refine wpAny_pure ?_
 simp only [show ¬ ((i:Int) < 0) by omega,if_false,Int.toNat_natCast,he]
 refine wpAny_bind ?_
 first | refine wpAny_bind (wpAny_typeNameOfWhole_itemiter ty (wpAny_pure ?_)) | refine wpAny_bind (wpAny_typeNameOf_itemiter ty (wpAny_pure ?_))
 refine wpAny_bind (wpAny_isOneOf_itemiter ty ?_)
 show wpAny _ _ (setField (.ref it) 3 (rawInt ((i:Int)+1)) >>= _) _ _ _
 obtain⟨h1,eh1⟩ : ∃ h1,h1=s.heap.update it (Obj.mapFields (·.setIfInBounds 3 (rawInt ((i:Int)+1)))):=⟨_,rfl⟩
 have k1:IsItemIter h1 it d (i+1) es.size ep ok ov:=by
  rw[eh1]
  show _=_
  rw[Heap.get?_update_self _ ki (Obj.isFreed_of_fields (Obj.data_mapFields rfl _))]
  rfl
 have sb1:Heap.SameBut it s.heap h1:=by rw[eh1]; exact Heap.SameBut.update ..
 refine wpAny_bind (wpAny_setField ki rfl (by simp) ?_)
 rw[<- eh1]
 clear eh1
 have ty1:(Shared.TypeIs { s with heap:=h1 } (.ref it) "dict_itemiterator"):=⟨_,k1,rfl⟩
 refine wpAny_bind (wpAny_holding (wpAny_bind (wpAny_isOneOf_itemiter (s:={ s with heap:=h1 }) ty1 ?_)))
 rw[if_neg (by decide)]
 refine wpAny_bind (wpAny_isOneOf_itemiter (s:={ s with heap:=h1 }) ty1 ?_)
 rw[if_neg (by decide)]
 unfold Builtin.Dict_items.pairFromOwner
 refine wpAny_bind (wpAny_newTuple ?_ (by show 2<=_; decide))
 have hz:h1.objs.size=s.heap.objs.size:=sb1.1
 obtain⟨h2,eh2⟩ : ∃ h2,h2=h1.push { cls:=.type "tuple",data:=.seq [e.key,e.val].toArray }:=⟨_,rfl⟩
 have k2:IsItemIter h2 it d (i+1) es.size ep ok ov:=by rw[eh2]; exact Heap.get?_push_of_some _ k1
 have t2:h2.get? s.heap.objs.size=some { cls:=.type "tuple",data:=.seq #[e.key,e.val] }:=by rw[eh2,<- hz]; exact Heap.get?_push_size _ rfl
 have kp2 : ∀ b o,b≠it->s.heap.get? b=some o->h2.get? b=some o:=λb o hb z=>by rw[eh2]; exact Heap.get?_push_of_some _ ((sb1.2 b hb).trans z)
 rw[<- eh2]
 dsimp only
 rw[hz]
 clear eh2
 unfold Builtin.Dict_items.ownedTupleIsFree
 refine wpAny_bind (wpAny_bind (wpAny_field (s:={ s with heap:=h2 }) (x:=.none) k2 rfl rfl (wpAny_pure ?_)))
 show wpAny _ _ (if true=true then _ else _) _ _ _
 rw[if_pos rfl]
 refine wpAny_bind (wpAny_field (s:={ s with heap:=h2 }) (x:=ok) k2 rfl rfl ?_)
 refine wpAny_bind (wpAny_field (s:={ s with heap:=h2 }) (x:=ov) k2 rfl rfl ?_)
 obtain⟨k3,b3⟩:=kM (i:=6) (x:=e.key) k2
 refine wpAny_bind (wpAny_setField (s:={ s with heap:=h2 }) k2 rfl (by simp) ?_)
 generalize (h2.update it (Obj.mapFields (·.setIfInBounds 6 e.key)))=h3 at k3 b3 ⊢
 obtain⟨k4,b4⟩:=kM (i:=7) (x:=e.val) k3
 refine wpAny_bind (wpAny_setField (s:={ s with heap:=h3 }) k3 rfl (by simp) ?_)
 generalize (h3.update it (Obj.mapFields (·.setIfInBounds 7 e.val)))=h4 at k4 b4 ⊢
 obtain⟨k5,b5⟩:=kM (i:=0) (x:=rawInt (s.heap.objs.size:Nat)) k4
 refine wpAny_bind (wpAny_setField (s:={ s with heap:=h4 }) k4 rfl (by simp) ?_)
 generalize (h4.update it (Obj.mapFields (·.setIfInBounds 0 (rawInt (s.heap.objs.size:Nat)))))=h5 at k5 b5 ⊢
 obtain⟨k6,b6⟩:=kM (i:=1) (x:=.bool false) k5
 refine wpAny_bind (wpAny_setField (s:={ s with heap:=h5 }) k5 rfl (by simp) ?_)
 generalize (h5.update it (Obj.mapFields (·.setIfInBounds 1 (.bool false))))=h6 at k6 b6 ⊢
 refine wpAny_bind (wpAny_letGo (wpAny_pure ?_))
 have kk : ∀ b,b≠it->h6.get? b=h2.get? b:=λb hb=>(b6.2 b hb).trans ((b5.2 b hb).trans ((b4.2 b hb).trans (b3.2 b hb)))
 have nt:s.heap.objs.size≠it:=Nat.ne_of_gt (Heap.lt_size ki)
 exact wpAny_pure ⟨_,rfl,wpAny_pure (q h6 k6 ((kk _ nt).trans t2) λb o hb z=>(kk b hb).trans (kp2 b o hb z))⟩
theorem tK{Q:Option Value->Shared->Prop}(hh:A.handled=none)(ki:IsItemIter s.heap it d i es.size ep ok ov)(r:dW s.heap d es ep)(he:es.size<=i)(q : ∀ h',Heap.ExtBut it s.heap h'->Q none { s with heap:=h' }):wpAny (model prog w) A (pyNext (.ref it)) Q E s:=by
 have ty:s.TypeIs (.ref it) "dict_itemiterator":=⟨_,ki,rfl⟩
 obtain⟨u,e1,e2,e3⟩:=r.obj
 unfold pyNext
 refine wpAny_bind (wpAny_attempt (wpAny_callSpecial?_slot (name:=Str.ofString "__next__") ty PySem.F.slot_dict_itemiterator_next (wpAny_call_entry PySem.F.slot_dict_itemiterator_next ty PySem.F.entry_dict_itemiterator_next ?_ (PySem.F.args_dict_itemiterator_next_1 _))))
 refine wpAny_bind (wpAny_pure (wpAny_bind (wpAny_bind ?_)))
 first | refine wpAny_bind (wpAny_typeNameOfWhole_itemiter ty (wpAny_pure ?_)) | refine wpAny_bind (wpAny_typeNameOf_itemiter ty (wpAny_pure ?_))
 refine wpAny_bind (wpAny_fieldsOf ki rfl ?_)
 simp only [show Builtin.Dict_items.ownsTuple "dict_itemiterator" = true by decide,if_true]
 show wpAny _ _ (if (Value.ref d == Value.none)=true then _ else _) _ _ _
 rw[if_neg (by intro z; cases z)]
 refine wpAny_bind (wpAny_pure (wpAny_bind (wpAny_dictEntries e1 e3 ?_)))
 rw[if_neg (by simp)]
 refine wpAny_bind (wpAny_pure (wpAny_bind (wpAny_dictEpoch e1 e3 ?_)))
 rw[if_neg (by simp)]
 refine wpAny_pure ?_
 simp only [show ¬ ((i:Int) < 0) by omega,if_false,Int.toNat_natCast,Array.getElem?_eq_none he]
 refine wpAny_bind ?_
 first | refine wpAny_bind (wpAny_typeNameOfWhole_itemiter ty (wpAny_pure ?_)) | refine wpAny_bind (wpAny_typeNameOf_itemiter ty (wpAny_pure ?_))
 show wpAny _ _ (setField (.ref it) 2 .none >>= _) _ _ _
 refine wpAny_bind (wpAny_setField ki rfl (by simp) ?_)
 show wpAny _ _ (newExc (.type "StopIteration") [] >>= _) _ _ _
 refine wpAny_bind ?_
 simp only [newExc,newTuple]
 refine wpAny_bind (wpAny_newObj_type ?_ (by size_fits))
 refine wpAny_bind (m:=firstArgMember _ _) (wpAny_of_eq (a:=Value.none) (by first | rfl | (simp only [firstArgMember]; rfl)) (wpAny_newObj_type ?_ (by size_fits)))
 simp only [raiseNew]
 refine wpAny_bind (wpAny_handled ?_)
 rw[show A.in1.handled=none from hh]
 refine wpAny_bind (wpAny_pure (wpAny_throw ?_))
 refine wpAny_bind (wpAny_isInstance (T := "StopIteration") (b:=true) ⟨_,Heap.get?_push_size _ rfl,by rfl⟩ isSubtype_stop ?_)
 exact wpAny_pure (q _ (((Heap.SameBut.update ..).extBut.push _).push _))
theorem uG(d:Addr)(lo:(d == sysModules)=false):MeetsIn prog w (Builtin.«dict.items» { pos:=[Value.ref d] }) λx R s=>s.TypeIs (.ref d) "dict"/\R (Except.ok (Flow.ret (Value.ref s.heap.objs.size))) { s with heap:=s.heap.push { cls:=Value.type "dict_items",data:=Data.fields #[Value.ref d] } }:=by
 intro A R s ⟨ty,q⟩
 unfold Builtin.«dict.items» Builtin.Dict.noArgs
 refine wpAny_bind (wpAny_bind (wpAny_notOrdered_dict ty ?_))
 refine wpAny_bind (m:=Builtin.Dict.nameIsSure _ _ _) ?_
 show wpAny _ _ (pure ()) _ _ _
 refine wpAny_pure ?_
 refine wpAny_bind (m:=selfOnly _ _) ?_
 show wpAny _ _ (pure (Value.ref d)) _ _ _
 refine wpAny_pure ?_
 show wpAny _ _ (pure d) _ _ _
 refine wpAny_pure ?_
 unfold Builtin.Dict.showsAll
 rw[if_neg (by rw[lo]; decide)]
 refine wpAny_bind (wpAny_pure (wpAny_bind (wpAny_newObj_type (wpAny_pure q))))
theorem tI{v:Addr}{Q:Value->Shared->Prop}(hv:s.heap.IsItemsView v d)(r:dW s.heap d es ep)(q:Q (.ref s.heap.objs.size) { s with heap:=s.heap.push { cls:=.type "dict_itemiterator",data:=.fields #[.none,.bool false,.ref d,.int 0 0,.int es.size 0,.int ep 0,.none,.none] } }):wpAny (model prog w) A (pyIter (.ref v)) Q E s:=by
 obtain⟨o,v1,v2,v3⟩:=id hv
 have ty:s.TypeIs (.ref v) "dict_items":=⟨o,v1,v2⟩
 obtain⟨u,e1,e2,e3⟩:=r.obj
 refine wpAny_pyIter_slot ty PySem.F.slot_dict_items_iter (wpAny_call_entry PySem.F.slot_dict_items_iter ty PySem.F.entry_dict_items_iter ?_ (PySem.F.args_dict_items_iter_1 _))
 unfold Builtin.«dict_items.__iter__» Builtin.Dict_items.slot0
 refine wpAny_bind (wpAny_bind ?_)
 show wpAny _ _ (pure (Value.ref v,[])) _ _ _
 refine wpAny_pure (wpAny_pure ?_)
 unfold Builtin.Dict_items.dictOf
 refine wpAny_bind (wpAny_bind (wpAny_field (x:=.ref d) v1 v3 rfl ?_))
 show wpAny _ _ (pure d) _ _ _
 refine wpAny_pure ?_
 unfold Builtin.Dict_items.newIterator
 refine wpAny_bind (wpAny_bind (wpAny_dictEntries e1 e3 (wpAny_bind (wpAny_dictEpoch e1 e3 ?_))))
 refine wpAny_newObj_type (wpAny_pure ⟨_,rfl, "dict_itemiterator",_,⟨_,Heap.get?_push_size _ rfl,rfl⟩,PySem.F.slot_dict_itemiterator_next.lookup,?_⟩) (by show (8:Nat)<=sizeLine+2; decide)
 exact q
end
def mJ(d:Addr)(ob:Obj)(kvs:List (List ao × V)):It :=
 ⟨λi H=>H d=some (.frz ob (.dT kvs))/\i < kvs.length,λi H x H'=>∃ p k b v,x=.ref p/\kvs[i]? = some (k,v)/\H b=some (.tup (k.map kV))/\aP H p (.tup [.ref b,v]) H',λi H=>H d=some (.frz ob (.dT kvs))/\kvs.length<=i⟩
theorem vT{X:Cx}{pins:List (Addr × Obj)}{σ:St}{H:Hp}{s:Shared}{d:Addr}{ob:Obj}{kvs:List (List ao × V)}{es:Array DictEntry}{ep:Nat}(I:ad X pins σ H s)(h:H d=some (.frz ob (.dT kvs)))(he:ob.data=.dict es ep) : ∃ xs,KT H kvs xs/\dW s.heap d es ep/\es.toList=xs.map (entryOfKey (tupleKind (bB X.prog X.w))):=by
 obtain⟨e1,z,hd,xs,rel,o',es',ep',e2,c1,c2,c3,c4⟩:=I.hok d _ h
 rw[e1]at e2; cases e2
 rw[he]at c2; cases c2
 exact⟨xs,rel,⟨hd,ob,e1,c1,he⟩,c3⟩
theorem x3{P:Program}{w:World}{K:W.Frag}{tes:List Expr}{kk:Nat}{pp:Pos}(d it:Addr)(ob:Obj)(kvs:List (List ao × V))(es:Array DictEntry)(ep:Nat)(he:ob.data=.dict es ep)(hel:es.size=kvs.length)(hdi:d≠it):dg P w K (.Tuple tes kk pp) (mJ d ob kvs) [it] it (λi h=>∃ ok ov,IsItemIter h it d i es.size ep ok ov) where
 mem:=by simp
 obj:=λi h st b hb=>by
  obtain⟨ok,ov,h1⟩:=st
  have hb':b=it:=by simpa using hb
  subst hb'
  exact⟨_,h1,λv z=>by cases (show Data.fields _=Data.cell v from z)⟩
 keep:=λi h h' st k=>by
  obtain⟨ok,ov,h1⟩:=st
  exact⟨ok,ov,k it (by simp) _ h1⟩
 item:=by
  intro X hP hw hK hc i pins s σ H E I hf st hg
  subst hP hw hK
  obtain⟨ok,ov,h1⟩:=st
  obtain⟨hq,hi⟩:=hg
  obtain⟨xs,rel,raw,ees⟩:=vT I hq he
  have hl:xs.length=es.size:=by have:=congrArg List.length ees; rw[List.length_map,Array.length_toList]at this; exact this.symm
  obtain⟨⟨k,v⟩,hkv⟩ : ∃ kv,kvs[i]? = some kv:=⟨_,List.getElem?_eq_getElem hi⟩
  obtain⟨⟨k',b,u⟩,hxs⟩ : ∃ q,xs[i]? = some q:=⟨_,List.getElem?_eq_getElem (by omega)⟩
  obtain⟨z1,z2,z3⟩:=Paired.nth rel hkv hxs
  dsimp only at z1 z2 z3
  have hee:es[i]? = some (entryOfKey (tupleKind (bB X.prog X.w)) (k',b,u)):=by
   rw[<- Array.getElem?_toList,ees,List.getElem?_map,hxs]
   rfl
  have hilt:it < s.heap.objs.size:=Heap.lt_size h1
  refine tJ h1 raw hee λh' ho hT hk=>?_
  refine⟨_,rfl,wpAny_letOwnedTupleGo_items (s:={ s with heap:=h' }) ho λh'' he' hs'=>?_⟩
  have hTe:s.heap.objs.size≠it:=Nat.ne_of_gt hilt
  have hT2:h''.get? s.heap.objs.size=some { cls:=.type "tuple",data:=.seq #[.ref b,u] }:=(hs'.2 _ hTe).trans hT
  have I2:ad X pins σ (upd H s.heap.objs.size (.tup [.ref b,v])) { s with heap:=h'' }:=by
   refine I.turnedN (t':=s.toks) (fp:=[it]) (λb o hb eo=>?_) hf (Nat.le_refl _) (lC ⟨_,hT2,rfl,_,rfl⟩ rfl z3)
   have hbe:b≠it:=λz=>hb (by simp[z])
   exact (hs'.2 b hbe).trans (hk b o hbe eo)
  refine⟨.ref s.heap.objs.size,_,I2,rfl,⟨_,k,b,v,rfl,hkv,z2,.mk' I.fresh⟩,⟨_,_,he'⟩,λb hb=>?_⟩
  have hb':b=it:=by simpa using hb
  rw[ak (by rw[hb']; exact Nat.ne_of_lt hilt)]
  exact (hf b hb).1
 done:=by
  intro X hP hw hK hc i pins s σ H E I hf st hg
  subst hP hw hK
  obtain⟨ok,ov,h1⟩:=st
  obtain⟨hq,hi⟩:=hg
  obtain⟨xs,rel,raw,ees⟩:=vT I hq he
  exact tK (I.ok.hd hc) h1 raw (by omega) λh' eb=>⟨rfl,I.turnedL (t':=s.toks) (fp:=[it]) (λb o hb eo=>eb b o (λz=>hb (by simp[z])) eo) hf⟩
 self:=λA i s Q E st h=>by
  obtain⟨ok,ov,h1⟩:=st
  have hT:s.TypeIs (.ref it) "dict_itemiterator":=⟨_,h1,rfl⟩
  refine wpAny_pyIter_slot hT PySem.F.slot_dict_itemiterator_iter (wpAny_call_entry PySem.F.slot_dict_itemiterator_iter hT pV ?_ (PySem.F.args_dict_itemiterator_iter_1 _))
  show wpAny _ _ (ret (.ref it)) _ _ s
  exact wpAny_pure ⟨_,rfl, "dict_itemiterator",_,hT,PySem.F.slot_dict_itemiterator_next.lookup,h⟩
def vn(td:TE):TI:=λσ H R=>td σ H λx H1=>∃ d kvs,x=.ref d/\H1 d=some (.dT kvs)/\∀ ob,R (mJ d ob kvs) (upd H1 d (.frz ob (.dT kvs)))
section
variable {X:Cx}{o:Expr}{es:List Expr}{kk:Nat}{pp apos cpos:Pos}{td:TE}
theorem Bk (ho:PE X o td) (hb:attributeBase o "items" X.env (eval o X.env)=eval o X.env) (hl:(apos.endLine == cpos.line)=true):PI X (.Tuple es kk pp) (.Call (.Attribute o "items" apos) [] [] cpos) (vn td):=by
 intro pins s σ H R I h
 refine wpAny_Call_method (T := "dict") (id := "dict.items") hb rfl hl PySem.F.plainAttrs_dict PySem.F.slot_dict_items PySem.F.type_dict_items (aj (ho pins s σ H _ I h) λu s1 ⟨x,H1,I1,rx,d,kvs,ex,hd,q⟩=>?_)
 subst ex
 obtain rfl:u=Value.ref d:=rx
 obtain⟨z,hdS,xs,rel,ob,es',ep,ho1,c1,c2,c3,c4⟩:=(show aO X.prog X.w H1 s1.heap d (.dT kvs) from I1.hok d _ hd)
 have ty:s1.TypeIs (.ref d) "dict":=⟨ob,ho1,c1.1⟩
 have hel:es'.size=kvs.length:=by
  have:=congrArg List.length c3
  rw[List.length_map,Array.length_toList]at this
  rw[this,Paired.length rel]
 refine⟨ty,λb z=>by cases z; exact⟨ob,ho1,c1.2.1⟩,?_⟩
 show wpAny _ _ (callWith cpos (.builtin "dict.items") [.ref d] [] []) _ _ s1
 refine method_meetsIn PySem.F.slot_dict_items PySem.F.entry_dict_items rfl (PyProof.Rows.evalArgs_none ⟨rfl,ty,PySem.F.args_dict_items_1 _,_,uG d hdS,ty,?_⟩)
 refine tI (d:=d) (es:=es') (ep:=ep) ⟨_,Heap.get?_push_size _ rfl,rfl,rfl⟩ ⟨hdS,ob,Heap.get?_push_of_some _ ho1,c1,c2⟩ ?_
 have hsz:(s1.heap.push { cls:=.type "dict_items",data:=.fields #[.ref d] }).objs.size=s1.heap.objs.size+1:=Heap.size_push ..
 have k2 : ∀ b o,s1.heap.get? b=some o->((s1.heap.push { cls:=.type "dict_items",data:=.fields #[.ref d] }).push { cls:=.type "dict_itemiterator",data:=.fields #[.none,.bool false,.ref d,.int 0 0,.int es'.size 0,.int ep 0,.none,.none] }).get? b=some o:=λb o e=>Heap.get?_push_of_some _ (Heap.get?_push_of_some _ e)
 have I2:=I1.kept (t':=s1.toks) k2
 have hd2:=k2 d ob ho1
 have nt : ∀ {b ys},H1 b=some (.tup ys)->b≠d:=λ{b ys} e z=>by rw[z,hd]at e; cases e
 have rel2:KT (upd H1 d (.frz ob (.dT kvs))) kvs xs:=KT.keeps rel λb ys e=>by rw[ak (nt e)]; exact e
 have I3:=I2.write (x:=d) (e:=d) (o:=.frz ob (.dT kvs)) (t':=s1.toks) (by rw[hd]; exact True.intro) (.inl rfl) (λb u _ e=>e) ⟨ob,hd2⟩ ⟨hd2,z,hdS,xs,rel2,ob,es',ep,hd2,c1,c2,c3,c4⟩
 have hle:s1.heap.objs.size<=(s1.heap.push { cls:=.type "dict_items",data:=.fields #[.ref d] }).objs.size:=by rw[hsz]; exact Nat.le_succ _
 have hdi:d≠(s1.heap.push { cls:=.type "dict_items",data:=.fields #[.ref d] }).objs.size:=by rw[hsz]; exact Nat.ne_of_lt (Nat.lt_succ_of_lt (Heap.lt_size ho1))
 refine⟨_,[_],_,mJ d ob kvs,_,rfl,I3,x3 d _ ob kvs es' ep c2 hel hdi,⟨.none,.none,Heap.get?_push_size _ rfl⟩,λb hb=>?_,q ob⟩
 have hb':b=(s1.heap.push { cls:=.type "dict_items",data:=.fields #[.ref d] }).objs.size:=by simpa using hb
 have f1:=I1.fpOk (b:=b) (by rw[hb']; exact hle) (I1.hok.fresh (by rw[hb']; exact hle))
 obtain⟨f0,f⟩:=f1
 exact⟨by rw[ak (by rw[hb']; exact hdi.symm)]; exact f0,f⟩
theorem Ag (ho:QE X o td) (hb:attributeBase o "items" X.env (eval o X.env)=eval o X.env:=by rfl) (hl:(apos.endLine == cpos.line)=true:=by rfl):QI X (.Tuple es kk pp) (.Call (.Attribute o "items" apos) [] [] cpos) (vn td):=⟨Bk ho.h hb hl⟩
end
theorem FI{K:W.Frag}{d:Addr}{ob:Obj}{kvs:List (List ao × V)}{cs:St}{tt:TT}{te:TE}{H:Hp}{Q:VK}(Pv:Nat->List V->Hp->Prop)(h0:Pv 0 [] H)(hl : ∀ i ys H,i<=kvs.length->Pv i ys H->H d=some (.frz ob (.dT kvs))/\ys.length<=i)(hz:kvs.length<=sizeLine)
 (hs : ∀ i k b v ys H H' (N:List V->Hp->Prop),kvs[i]? = some (k,v)->H b=some (.tup (k.map kV))->Pv i ys H->ag H H'->(∀ ys' H',Pv (i+1) ys' H'->N ys' H')->tt (some (.ref b) :: some v :: cs) H' λc H4=>if c=true then te (some (.ref b) :: some v :: cs) H4 λy H5=>N (ys++[y]) H5 else N ys H4)
 (hd : ∀ ys H p H',Pv kvs.length ys H->aP H p (.lst ys) H'->Q (.ref p) H') :
 fM (mJ d ob kvs) H (List.replicate 2 none++cs) (hW K 2 (eU (bF 0) (eU (bF 1) jj))) tt te Q:=by
 refine⟨λi m ys σ H=>m=kvs.length - i/\i<=kvs.length/\Pv i ys H/\∃ v0 v1,σ=v0 :: v1 :: cs,⟨kvs.length,by simp,Nat.zero_le _,h0,none,none,rfl⟩,?_⟩
 rintro i m ys σ H2 ⟨rfl,hi,p,v0,v1,rfl⟩
 obtain⟨q,ql⟩:=hl i ys H2 hi p
 by_cases hlt:i < kvs.length
 ·refine .inr ⟨⟨q,hlt⟩,by omega,λys' σ' H'=>Pv (i+1) ys' H'/\∃ v0 v1,σ'=v0 :: v1 :: cs,λys' σ' H' ⟨p',e⟩=>⟨kvs.length - (i+1),by omega,rfl,hlt,p',e⟩,λx H' y=>?_⟩
  obtain⟨pp,k,b,v,rfl,y,hb,gr⟩:=y
  refine⟨pp,_,rfl,gr.tup,rfl,_,_,rfl,_,_,rfl,rfl,?_⟩
  exact hs i k b v ys H2 H' (λys' H'=>Pv (i+1) ys' H'/\∃ v0 v1,some (.ref b) :: some v :: cs=v0 :: v1 :: cs) y hb p gr.sm λ_ _ z=>⟨z,_,_,rfl⟩
 ·have e:i=kvs.length:=by omega
  subst e
  exact .inl ⟨⟨q,Nat.le_refl _⟩,by omega,λp' H' g=>hd ys H2 p' H' p g⟩
section
variable {prog:Program}{w:World}
def cI(prog:Program)(w:World)(h:Heap)(k:List Int × List Int)(a:Addr):Prop :=
 ∃ (o:Obj) (c b n:Nat),h.get? a=some o/\o.cls=.type "tuple"/\o.data=.seq #[.ref c,.ref b] n/\IsTupleKey (intKind prog w) h k.1 c/\IsTupleKey (intKind prog w) h k.2 b
theorem cI.ty {s:Shared} {k:List Int × List Int} {a:Addr} (x:cI prog w s.heap k a):s.TypeIs (.ref a) "tuple":=by
 obtain⟨o,c,b,n,h1,h2,_⟩:=x
 exact⟨o,h1,h2⟩
theorem cI.one{h:Heap}{a:Addr}{x y:List Int × List Int}(hx:cI prog w h x a)(hy:cI prog w h y a):x=y:=by
 obtain⟨o,c,b,n,h1,_,h3,h0,h4⟩:=hx
 obtain⟨o',c',b',n',g1,_,g3,g0,g4⟩:=hy
 rw[h1]at g1; cases g1
 rw[h3]at g3
 injection g3 with e _
 injection e with e
 injection e with e1 e2
 injection e1 with e1
 injection e2 with e2 _
 injection e2 with e2
 subst e1
 subst e2
 exact Prod.ext (h0.inj g0) (h4.inj g4)
theorem cI.stay{h h':Heap}{k:List Int × List Int}{a d:Addr}{o:Obj}{es:Array DictEntry}{ep:Nat}(x:cI prog w h k a)(ho:h.get? d=some o)(hd:o.data=.dict es ep)(sb:Heap.SameBut d h h'):cI prog w h' k a:=by
 obtain⟨u,c,b,n,h1,h2,h3,h0,h4⟩:=x
 refine⟨u,c,b,n,(sb.2 a ?_).trans h1,h2,h3,h0.keeps ho hd sb,h4.keeps ho hd sb⟩
 intro z
 subst z
 rw[h1]at ho; cases ho
 rw[hd]at h3; cases h3
variable {A:Around}{E:Value->Shared->Prop}{s:Shared}
def t3(prog:Program)(w:World)(k:List Int × List Int):Int:=reduceHash (Builtin.Tuple.tupleHashOf [tupleKeyHash (intKind prog w) k.1,tupleKeyHash (intKind prog w) k.2])
theorem AN{k:List Int × List Int}{a:Addr}{Q:Int->Shared->Prop}(hu:A.units+8 < cLine)(hk:cI prog w s.heap k a)(q:Q (t3 prog w k) { s with toks:=s.toks+(k.1.length+k.2.length+3) }):wpAny (model prog w) A (pyHash (.ref a)) Q E s:=by
 have ty:=hk.ty
 obtain⟨o,c,b,n,h1,h2,h3,h0,h4⟩:=hk
 unfold pyHash
 first | unfold pyHashByItsType | skip
 first | refine wpAny_bind (wpAny_cRoomFor_or (.inr (by omega)) ?_) | skip
 refine wpAny_bind (wpAny_specialOf ty PySem.F.slot_tuple_hash.lookup ?_)
 show wpAny _ _ (if (some (Value.builtin "tuple.__hash__") == some Value.none)=true then _ else _) _ _ _
 rw[if_neg (by rw[beq_builtin_none]; decide)]
 refine wpAny_bind (wpAny_specialOf ty PySem.F.slot_tuple_hash.lookup ?_)
 show wpAny _ _ (callSpecialIfBoundUnlessNone? (.ref a) "__hash__" _ >>= _) _ _ _
 refine wpAny_bind (wpAny_callSpecialIfBoundUnlessNone?_slot ty PySem.F.slot_tuple_hash (wpAny_call_entry PySem.F.slot_tuple_hash ty PySem.F.entry_tuple_hash ?_ (PySem.F.args_tuple_hash_1 _)))
 show wpAny _ _ (Builtin.Tuple.tupleItemsOf (.ref a) >>= _) _ _ _
 refine wpAny_bind (wpAny_tupleItemsOf h1 h3 ?_)
 refine wpAny_bind ?_
 rw[<- Array.forIn_toList]
 rw[List.forIn_cons]
 refine wpAny_bind (wpAny_bind (wpAny_pyHash_tuple (knd:=intKind prog w) (ks:=k.1) ?_ h0 ?_))
 ·show A.units+1 < cLine
  omega
 first
  | refine wpAny_pure ?_
  | refine wpAny_bind (wpAny_pure (wpAny_pure ?_))
 dsimp only
 rw[List.forIn_cons]
 refine wpAny_bind (wpAny_bind (wpAny_pyHash_tuple (knd:=intKind prog w) (ks:=k.2) ?_ h4 ?_))
 ·show A.units+1 < cLine
  omega
 first
  | refine wpAny_pure ?_
  | refine wpAny_bind (wpAny_pure (wpAny_pure ?_))
 dsimp only
 rw[List.forIn_nil]
 refine wpAny_pure ?_
 refine wpAny_ret_mkInt ?_
 have e:((#[].push (tupleKeyHash (intKind prog w) k.1)).push (tupleKeyHash (intKind prog w) k.2)).toList=[tupleKeyHash (intKind prog w) k.1,tupleKeyHash (intKind prog w) k.2]:=rfl
 rw[e]
 generalize eH:Builtin.Tuple.tupleHashOf [tupleKeyHash (intKind prog w) k.1,tupleKeyHash (intKind prog w) k.2]=N
 have q':Q (reduceHash N) { s with toks:=s.toks+(k.1.length+k.2.length+3) }:=by rw[<- eH]; exact q
 unfold reduceHash at q'
 have et:s.toks+(k.1.length+1)+(k.2.length+1)+1=s.toks+(k.1.length+k.2.length+3):=by omega
 show wpAny _ _ (if (decide (-(2:Int) ^ 63<=N) && decide (N < 2 ^ 63))=true then _ else _) _ _ { s with toks:=s.toks+(k.1.length+1)+(k.2.length+1)+1 }
 rw[et]
 split
 ·rename_i c
  rw[if_pos c]at q'
  exact wpAny_pure q'
 ·rename_i c
  rw[if_neg c]at q'
  exact wpAny_bind (wpAny_rule (wpAny_pure q'))
theorem AO{x y:List Int × List Int}{a b:Addr}{P:Fin->Shared->Prop}(hu:A.units+4 < cLine)(hx:cI prog w s.heap x a)(hy:cI prog w s.heap y b)(q:P (.done (.ret (.bool (decide (x=y))))) s) :
 wpAny (model prog w) A (Builtin.«tuple.__eq__» ⟨[.ref a,.ref b],[]⟩) P E s:=by
 have ty:=hy.ty
 obtain⟨o,t,c,n,h1,h2,h3,h0,h4⟩:=hx
 obtain⟨o',t',c',n',g1,g2,g3,g0,g4⟩:=hy
 show wpAny _ _ (isInstance (.ref b) (.type "tuple") >>= _) _ _ _
 refine wpAny_bind (wpAny_isInstance ty isSubtype_tuple_tuple ?_)
 simp only [Bool.not_true,Bool.false_eq_true,if_false]
 refine wpAny_bind (wpAny_tupleItemsOf h1 h3 ?_)
 refine wpAny_bind (wpAny_tupleItemsOf g1 g3 ?_)
 refine wpAny_bind ?_
 show wpAny _ _ (forIn [(Value.ref t,Value.ref t'),(Value.ref c,Value.ref c')] _ _) _ _ _
 rw[List.forIn_cons]
 refine wpAny_bind (wpAny_bind (wpAny_eqBool_tuple (knd:=intKind prog w) (x:=x.1) (y:=y.1) (by omega) h0 g0 ?_))
 by_cases e1:x.1=y.1
 ·rw[decide_eq_true e1]
  simp only [Bool.not_true,Bool.false_eq_true,if_false]
  refine wpAny_pure ?_
  dsimp only
  rw[List.forIn_cons]
  refine wpAny_bind (wpAny_bind (wpAny_eqBool_tuple (knd:=intKind prog w) (x:=x.2) (y:=y.2) (by omega) h4 g4 ?_))
  by_cases e2:x.2=y.2
  ·rw[decide_eq_true e2]
   simp only [Bool.not_true,Bool.false_eq_true,if_false]
   refine wpAny_pure ?_
   dsimp only
   rw[List.forIn_nil]
   refine wpAny_pure (wpAny_pure ?_)
   rw[decide_eq_true (Prod.ext e1 e2)]at q
   exact q
  ·rw[decide_eq_false e2]
   simp only [Bool.not_false,if_true]
   rw[decide_eq_false (λz=>e2 (by rw[z]))]at q
   exact wpAny_bind (wpAny_pure (wpAny_pure (wpAny_pure (wpAny_pure q))))
 ·rw[decide_eq_false e1]
  simp only [Bool.not_false,if_true]
  rw[decide_eq_false (λz=>e1 (by rw[z]))]at q
  exact wpAny_bind (wpAny_pure (wpAny_pure (wpAny_pure (wpAny_pure q))))
theorem AQ{x y:List Int × List Int}{a b:Addr}{Q:Bool->Shared->Prop}(hu:A.units+8 < cLine)(hx:cI prog w s.heap x a)(hy:cI prog w s.heap y b)(q:Q (decide (x=y)) s):wpAny (model prog w) A (eqBool (.ref a) (.ref b)) Q E s:=by
 unfold eqBool
 try with_reducible refine wpAny_holding ?_
 show wpAny _ _ (if (Value.ref a == Value.ref b)=true then _ else _) _ _ _
 by_cases e:(Value.ref a == Value.ref b)=true
 ·rw[if_pos e]
  have z:a=b:=by
   have:=eq_of_beq e
   injection this
  subst z
  obtain rfl:=hx.one hy
  rw[decide_eq_true rfl]at q
  exact wpAny_bind (wpAny_rule (wpAny_pure q))
 ·rw[if_neg e]
  exact wpAny_bind (wpAny_richCompare_same_room (op:=.Eq) hx.ty hy.ty PySem.F.slot_tuple_eq (wpAny_call_entry PySem.F.slot_tuple_eq hx.ty PySem.F.entry_tuple_eq (AO (by show A.units+1+4 < cLine; omega) hx hy ⟨_,rfl,nofun,wpAny_truthy_bool q⟩) (PySem.F.args_tuple_eq_2 _ _)) (by omega))
theorem tM(n:Nat){ks:List Int}{a:Addr}{Q:Bool->Shared->Prop}(hk:IsTupleKey (intKind prog w) s.heap ks a)(q:Q true s):wpAny (model prog w) A (eqIsQuiet (n+1) (.ref a)) Q E s:=by
 have ty:=hk.typeIs
 obtain⟨o,its,m,h1,_,h3,h4⟩:=hk
 unfold eqIsQuiet
 refine wpAny_bind (wpAny_specialOf ty PySem.F.slot_tuple_eq.lookup ?_)
 show wpAny _ _ (isInstance (.ref a) (.type "tuple") >>= _) _ _ _
 refine wpAny_bind (wpAny_isInstance ty isSubtype_tuple_tuple ?_)
 simp only [Bool.not_true,Bool.false_eq_true,if_false]
 refine wpAny_bind (wpAny_seqItems h1 h3 ?_)
 refine wpAny_bind ?_
 show wpAny _ _ (forIn its _ _) _ _ _
 rw[<- Array.forIn_toList]
 refine wpAny_forIn_list _ (λl r s'=>r.1=none/\s'=s/\∀ v∈l,carriedByValue v=true) _ ?_ ?_ _ _ ⟨rfl,rfl,h4.byValue⟩
 ·rintro v l r s' ⟨hr,rfl,al⟩
  rw[eqIsQuiet_byValue _ (al v (List.mem_cons_self ..))]
  refine wpAny_bind (wpAny_pure ?_)
  simp only [Bool.not_true,Bool.false_eq_true,if_false]
  exact wpAny_pure ⟨rfl,rfl,λu z=>al u (List.mem_cons_of_mem _ z)⟩
 ·rintro⟨r1,r2⟩ s' ⟨hr,rfl,_⟩
  obtain rfl:r1=none:=hr
  exact wpAny_pure q
theorem AM{k:List Int × List Int}{a:Addr}{Q:Bool->Shared->Prop}(hk:cI prog w s.heap k a)(q:Q true s):wpAny (model prog w) A (eqIsQuiet 8 (.ref a)) Q E s:=by
 have ty:=hk.ty
 obtain⟨o,c,b,n,h1,h2,h3,h0,h4⟩:=hk
 unfold eqIsQuiet
 refine wpAny_bind (wpAny_specialOf ty PySem.F.slot_tuple_eq.lookup ?_)
 show wpAny _ _ (isInstance (.ref a) (.type "tuple") >>= _) _ _ _
 refine wpAny_bind (wpAny_isInstance ty isSubtype_tuple_tuple ?_)
 simp only [Bool.not_true,Bool.false_eq_true,if_false]
 refine wpAny_bind (wpAny_seqItems h1 h3 ?_)
 refine wpAny_bind ?_
 show wpAny _ _ (forIn #[Value.ref c,Value.ref b] _ _) _ _ _
 rw[<- Array.forIn_toList]
 rw[List.forIn_cons]
 refine wpAny_bind (wpAny_bind (tM 6 h0 ?_))
 simp only [Bool.not_true,Bool.false_eq_true,if_false]
 refine wpAny_pure ?_
 dsimp only
 rw[List.forIn_cons]
 refine wpAny_bind (wpAny_bind (tM 6 h4 ?_))
 simp only [Bool.not_true,Bool.false_eq_true,if_false]
 refine wpAny_pure ?_
 dsimp only
 rw[List.forIn_nil]
 exact wpAny_pure (wpAny_pure q)
def jd(prog:Program)(w:World):HeapKind prog w (List Int × List Int) where
 is:=cI prog w
 hash:=t3 prog w
 draws:=λk=>k.1.length+k.2.length+3
 room:=λA=>A.units+8 < cLine
 inj:=λx y=>x.one y
 keeps:=λx ho hd sb=>x.stay ho hd sb
 pyHash:=λhu hk q=>AN hu hk q
 eqBool:=λhu hx hy q=>AQ hu hx hy q
 quiet:=λhk q=>AM hk q
end
structure dU (h:Heap) (d:Addr) (es:Array DictEntry) (ep:Nat):Prop where
 big:(d == sysModules)=false
 obj : ∃ o,h.get? d=some o/\o.ExactDict/\o.data=.dict es ep
theorem dU.ty {s:Shared} {d:Addr} {es:Array DictEntry} {ep:Nat} (r:dU s.heap d es ep):s.TypeIs (.ref d) "dict":=by
 obtain⟨o,e,c,_⟩:=r.obj
 exact⟨o,e,c.1⟩
theorem dU.to{h h':Heap}{d:Addr}{es:Array DictEntry}{ep:Nat}(r:dU h d es ep)(k : ∀ o,h.get? d=some o->h'.get? d=some o):dU h' d es ep:=by
 obtain⟨b,o,e,c⟩:=r
 exact⟨b,o,k o e,c⟩
section
variable {prog:Program}{w:World}{A:Around}{E:Value->Shared->Prop}{s:Shared}{it d:Addr}{i ep:Nat}{es:Array DictEntry}
theorem nB{Q:Value->Shared->Prop}(r:dU s.heap d es ep)(q:Q (.ref s.heap.objs.size) { s with heap:=s.heap.push { cls:=.type "dict_keyiterator",data:=.fields #[.ref d,.int 0 0,.int es.size 0,.int ep 0] } }):wpAny (model prog w) A (pyIter (.ref d)) Q E s:=by
 have ty:=r.ty
 obtain⟨o,e1,e2,e3⟩:=r.obj
 refine wpAny_pyIter_slot ty PySem.F.slot_dict_iter (wpAny_call_entry PySem.F.slot_dict_iter ty PySem.F.entry_dict_iter ?_ (PySem.F.args_dict_iter_1 _))
 unfold Builtin.«dict.__iter__» Builtin.Dict.dictSlotNone
 refine wpAny_bind (wpAny_bind (wpAny_notOrdered_dict ty ?_))
 show wpAny _ _ (pure (Value.ref d)) _ _ _
 refine wpAny_pure ?_
 show wpAny _ _ (Builtin.Dict.showsAll d >>= _) _ _ _
 unfold Builtin.Dict.showsAll
 rw[if_neg (by rw[r.big]; decide)]
 refine wpAny_bind (wpAny_pure (wpAny_bind (wpAny_dictEntries e1 e3 (wpAny_bind (wpAny_dictEpoch e1 e3 ?_)))))
 refine wpAny_bind (wpAny_newObj_type (wpAny_pure ⟨_,rfl, "dict_keyiterator",_,⟨_,Heap.get?_push_size _ rfl,rfl⟩,PySem.F.slot_dict_keyiterator_next.lookup,?_⟩))
 exact q
theorem kU{e:DictEntry}{Q:Option Value->Shared->Prop}(ki:s.heap.IsKeyIter it d i es.size ep)(r:dU s.heap d es ep)(he:es[i]? = some e)
 (q : ∀ h',h'.IsKeyIter it d (i+1) es.size ep->Heap.SameBut it s.heap h'->Q (some e.key) { s with heap:=h' }):wpAny (model prog w) A (pyNext (.ref it)) Q E s:=by
 obtain⟨o,k1,k2,k3⟩:=id ki
 obtain⟨u,e1,e2,e3⟩:=r.obj
 unfold pyNext
 refine wpAny_bind (wpAny_attempt (wpAny_callSpecial?_slot (name:=Str.ofString "__next__") ki.typeIs PySem.F.slot_dict_keyiterator_next (wpAny_call_entry PySem.F.slot_dict_keyiterator_next ki.typeIs PySem.F.entry_dict_keyiterator_next ?_ (PySem.F.args_dict_keyiterator_next_1 _))))
 refine wpAny_bind (wpAny_pure (wpAny_bind (wpAny_bind ?_)))
 first | refine wpAny_bind (wpAny_typeNameOfWhole_keyiter ki.typeIs (wpAny_pure ?_)) | refine wpAny_bind (wpAny_typeNameOf_keyiter ki.typeIs (wpAny_pure ?_))
 refine wpAny_bind (wpAny_fieldsOf k1 k3 ?_)
 simp only [show Builtin.Dict_items.ownsTuple "dict_keyiterator" = false by decide,Bool.false_eq_true,if_false]
 show wpAny _ _ (if (Value.ref d == Value.none)=true then _ else _) _ _ _
 rw[if_neg (by intro z; cases z)]
 refine wpAny_bind (wpAny_pure (wpAny_bind (wpAny_dictEntries e1 e3 ?_)))
 rw[if_neg (by simp)]
 refine wpAny_bind (wpAny_pure (wpAny_bind (wpAny_dictEpoch e1 e3 ?_)))
 rw[if_neg (by simp)]
 refine wpAny_pure ?_
 simp only [show ¬ ((i:Int) < 0) by omega,if_false,Int.toNat_natCast,he]
 refine wpAny_bind ?_
 first | refine wpAny_bind (wpAny_typeNameOfWhole_keyiter ki.typeIs (wpAny_pure ?_)) | refine wpAny_bind (wpAny_typeNameOf_keyiter ki.typeIs (wpAny_pure ?_))
 refine wpAny_bind (wpAny_isOneOf_keyiter ki.typeIs ?_)
 show wpAny _ _ (setField (.ref it) 1 (rawInt ((i:Int)+1)) >>= _) _ _ _
 refine wpAny_bind (wpAny_setField k1 k3 (by simp) ?_)
 have nx:(s.heap.update it (Obj.mapFields (·.setIfInBounds 1 (rawInt ((i:Int)+1))))).IsKeyIter it d (i+1) es.size ep:=⟨_,Heap.get?_update_self _ k1 (Obj.isFreed_of_fields (Obj.data_mapFields k3 _)),(Obj.cls_mapFields ..).trans k2,by rw[Obj.data_mapFields k3]; simp[rawInt]⟩
 refine wpAny_bind (wpAny_holding (wpAny_bind (wpAny_isOneOf_keyiter (s:={ s with heap:=s.heap.update it (Obj.mapFields (·.setIfInBounds 1 (rawInt ((i:Int)+1)))) }) nx.typeIs ?_)))
 show wpAny _ _ (pure e.key) _ _ _
 exact wpAny_pure (wpAny_pure ⟨_,rfl,wpAny_pure (q _ nx (Heap.SameBut.update ..))⟩)
theorem nC{Q:Option Value->Shared->Prop}(hh:A.handled=none)(ki:s.heap.IsKeyIter it d i es.size ep)(r:dU s.heap d es ep)(he:es.size<=i)(q : ∀ h',Heap.ExtBut it s.heap h'->Q none { s with heap:=h' }):wpAny (model prog w) A (pyNext (.ref it)) Q E s:=by
 obtain⟨o,k1,k2,k3⟩:=id ki
 obtain⟨u,e1,e2,e3⟩:=r.obj
 unfold pyNext
 refine wpAny_bind (wpAny_attempt (wpAny_callSpecial?_slot (name:=Str.ofString "__next__") ki.typeIs PySem.F.slot_dict_keyiterator_next (wpAny_call_entry PySem.F.slot_dict_keyiterator_next ki.typeIs PySem.F.entry_dict_keyiterator_next ?_ (PySem.F.args_dict_keyiterator_next_1 _))))
 refine wpAny_bind (wpAny_pure (wpAny_bind (wpAny_bind ?_)))
 first | refine wpAny_bind (wpAny_typeNameOfWhole_keyiter ki.typeIs (wpAny_pure ?_)) | refine wpAny_bind (wpAny_typeNameOf_keyiter ki.typeIs (wpAny_pure ?_))
 refine wpAny_bind (wpAny_fieldsOf k1 k3 ?_)
 simp only [show Builtin.Dict_items.ownsTuple "dict_keyiterator" = false by decide,Bool.false_eq_true,if_false]
 show wpAny _ _ (if (Value.ref d == Value.none)=true then _ else _) _ _ _
 rw[if_neg (by intro z; cases z)]
 refine wpAny_bind (wpAny_pure (wpAny_bind (wpAny_dictEntries e1 e3 ?_)))
 rw[if_neg (by simp)]
 refine wpAny_bind (wpAny_pure (wpAny_bind (wpAny_dictEpoch e1 e3 ?_)))
 rw[if_neg (by simp)]
 refine wpAny_pure ?_
 simp only [show ¬ ((i:Int) < 0) by omega,if_false,Int.toNat_natCast,Array.getElem?_eq_none he]
 refine wpAny_bind ?_
 first | refine wpAny_bind (wpAny_typeNameOfWhole_keyiter ki.typeIs (wpAny_pure ?_)) | refine wpAny_bind (wpAny_typeNameOf_keyiter ki.typeIs (wpAny_pure ?_))
 show wpAny _ _ (setField (.ref it) 0 .none >>= _) _ _ _
 refine wpAny_bind (wpAny_setField k1 k3 (by simp) ?_)
 show wpAny _ _ (newExc (.type "StopIteration") [] >>= _) _ _ _
 refine wpAny_bind ?_
 simp only [newExc,newTuple]
 refine wpAny_bind (wpAny_newObj_type ?_ (by size_fits))
 refine wpAny_bind (m:=firstArgMember _ _) (wpAny_of_eq (a:=Value.none) (by first | rfl | (simp only [firstArgMember]; rfl)) (wpAny_newObj_type ?_ (by size_fits)))
 simp only [raiseNew]
 refine wpAny_bind (wpAny_handled ?_)
 rw[show A.in1.handled=none from hh]
 refine wpAny_bind (wpAny_pure (wpAny_throw ?_))
 refine wpAny_bind (wpAny_isInstance (T := "StopIteration") (b:=true) ⟨_,Heap.get?_push_size _ rfl,by rfl⟩ isSubtype_stop ?_)
 exact wpAny_pure (q _ (((Heap.SameBut.update ..).extBut.push _).push _))
end
abbrev ab:=List Int × List Int
def bP(x:ab × Addr × Value):DictEntry:=⟨reduceHash (Builtin.Tuple.tupleHashOf [reduceHash (Builtin.Tuple.tupleHashOf (x.1.1.map hashInt)),reduceHash (Builtin.Tuple.tupleHashOf (x.1.2.map hashInt))]),.ref x.2.1,x.2.2⟩
theorem t4(P:Program)(w:World):entryOfKey (jd P w)=bP:=rfl
def dN(a:Addr)(xs:List (ab × Addr × Value))(ep:Nat):HO:=.ext λh=>dU h a (xs.map bP).toArray ep
def aM(H:Hp)(k:ab)(p:Addr):Prop:=∃ c b,H p=some (.tup [.ref c,.ref b])/\H c=some (.tup (k.1.map V.int))/\H b=some (.tup (k.2.map V.int))
abbrev KP:List (ab × Addr × V)->List (ab × Addr × Value)->Prop:=Paired λp q=>p.1=q.1/\p.2.1=q.2.1/\aq p.2.2 q.2.2
structure DP (H:Hp) (a:Addr) (kvs:List (ab × Addr × V)):Prop where
 ex : ∃ xs ep,H a=some (dN a xs ep)/\KP kvs xs
 key : ∀ x∈kvs,aM H x.1 x.2.1
 nd:(kvs.map (·.1)).Nodup
 le:kvs.length<=sizeLine
theorem aM.same{H H':Hp}{k:ab}{p:Addr}(s:ag H H')(h:aM H k p):aM H' k p:=by
 obtain⟨c,b,h1,h0,h2⟩:=h
 exact⟨c,b,s _ _ h1,s _ _ h0,s _ _ h2⟩
theorem DP.same{H H':Hp}{a:Addr}{kvs:List (ab × Addr × V)}(s:ag H H')(d:DP H a kvs):DP H' a kvs:=by
 obtain⟨⟨xs,ep,h1,h2⟩,k,n,l⟩:=d
 exact⟨⟨xs,ep,s _ _ h1,h2⟩,λx hx=>(k x hx).same s,n,l⟩
def aB(kvs:List (ab × Addr × V))(k:ab):Option V:=(kvs.find? λx=>decide (x.1=k)).map (·.2.2)
def cg(kvs:List (ab × Addr × V))(k:ab)(b:Addr)(v:V):List (ab × Addr × V) :=
 if (aB kvs k).isSome then kvs.map (λx=>if x.1=k then (x.1,x.2.1,v) else x) else kvs++[(k,b,v)]
theorem KP.val{kvs:List (ab × Addr × V)}{xs:List (ab × Addr × Value)}(r:KP kvs xs)(k:ab):bG (aB kvs k) ((atKey xs k).map (·.2)):=by
 induction r with
 | nil=>exact True.intro
 | @cons p q ps qs h t ih =>
  obtain⟨h1,_,h2⟩:=h
  by_cases e:p.1=k
  ·have e':q.1=k:=h1.symm.trans e
   have b:atKey (q :: qs) k=some q.2:=by simp[atKey,List.find?_cons,e']
   have c:aB (p :: ps) k=some p.2.2:=by simp[aB,List.find?_cons,e]
   rw[b,c]
   exact h2
  ·have e' : ¬ q.1=k:=λz=>e (h1.trans z)
   have b:atKey (q :: qs) k=atKey qs k:=by simp[atKey,List.find?_cons,e']
   have c:aB (p :: ps) k=aB ps k:=by simp[aB,List.find?_cons,e]
   rw[b,c]
   exact ih
theorem KP.put{kvs:List (ab × Addr × V)}{xs:List (ab × Addr × Value)}(r:KP kvs xs)(k:ab){b:Addr}{y:V}{u:Value}(ry:aq y u):KP (cg kvs k b y) (storedH xs k b u):=by
 have e:(aB kvs k).isSome=(atKey xs k).isSome:=by rw[(r.val k).isSome_eq,Option.isSome_map]
 unfold cg storedH
 rw[e]
 split
 ·induction r with
  | nil=>exact .nil
  | @cons p q ps qs h t ih =>
   rw[List.map_cons,List.map_cons]
   have all : ∀ {l m},KP l m->KP (l.map λx=>if x.1=k then (x.1,x.2.1,y) else x) (m.map (putAt k u)):=by
    intro l m r
    induction r with
    | nil=>exact .nil
    | @cons p q ps qs h t ih =>
     rw[List.map_cons,List.map_cons]
     refine .cons ?_ ih
     obtain⟨h1,h2,h3⟩:=h
     unfold putAt
     by_cases z:p.1=k
     ·rw[if_pos z,if_pos (h1.symm.trans z)]; exact⟨h1,h2,ry⟩
     ·rw[if_neg z,if_neg (λy=>z (h1.trans y))]; exact⟨h1,h2,h3⟩
   exact all (.cons h t)
 ·exact Paired.snoc r ⟨rfl,rfl,ry⟩
theorem KP.keys{kvs:List (ab × Addr × V)}{xs:List (ab × Addr × Value)}(r:KP kvs xs):kvs.map (·.1)=xs.map (·.1):=by
 induction r with
 | nil=>rfl
 | cons h t ih=>rw[List.map_cons,List.map_cons,ih,h.1]
theorem jX : ∀ {kvs:List (ab × Addr × V)} {xs:List (ab × Addr × Value)},KP kvs xs->∀ {i:Nat} {a:ab × Addr × V} {b:ab × Addr × Value},kvs[i]? = some a->xs[i]? = some b->a.1=b.1/\a.2.1=b.2.1/\aq a.2.2 b.2.2
 | _,_,.nil,_,_,_,h,_=>by simp at h
 | _,_,.cons r t,0,_,_,h,h'=>by simp at h h'; subst h; subst h'; exact r
 | _,_,.cons r t,i+1,_,_,h,h'=>jX t (i:=i) (by simpa using h) (by simpa using h')
theorem AG(kvs:List (ab × Addr × V))(k:ab)(b:Addr)(v:V) : ∀ x∈cg kvs k b v,(∃ y∈kvs,y.1=x.1/\y.2.1=x.2.1)\/x=(k,b,v):=by
 intro x hx
 unfold cg at hx
 split at hx
 ·obtain⟨y,hy,rfl⟩:=List.mem_map.mp hx
  refine .inl ⟨y,hy,?_⟩
  split <;> exact⟨rfl,rfl⟩
 ·rcases List.mem_append.mp hx with z | z
  ·exact .inl ⟨x,z,rfl,rfl⟩
  ·exact .inr (List.mem_singleton.mp z)
theorem tZ(kvs:List (ab × Addr × V))(k:ab)(b:Addr)(v:V):(cg kvs k b v).length<=kvs.length+1:=by
 unfold cg
 split <;> simp
theorem lj{P:Program}{w:World}{H:Hp}{h:Heap}{k:ab}{p:Addr}(ok:aT P w H h)(e:aM H k p):cI P w h k p:=by
 obtain⟨c,b,h1,h0,h2⟩:=e
 obtain⟨_,its,r,o,a1,a2,n,a3⟩:=(show aO P w H h p (.tup [.ref c,.ref b]) from ok p _ h1)
 have all : ∀ {ks:List Int} {us:List Value},ar (ks.map V.int) us->ItemsAre (intKind P w) ks us:=by
  intro ks
  induction ks with
  | nil=>intro us r; cases r; exact .nil
  | cons k ks ih =>
   intro us r
   cases r with
   | cons a b =>
    obtain⟨t,rfl⟩:=a
    exact .cons (by exact beq_self_eq_true k) (ih b)
 have one : ∀ {a:Addr} {ks:List Int},H a=some (.tup (ks.map V.int))->IsTupleKey (intKind P w) h ks a:=λ{a ks} ha=>by
  obtain⟨_,its2,r2,o2,b1,b2,n2,b3⟩:=(show aO P w H h a (.tup (ks.map V.int)) from ok a _ ha)
  exact⟨o2,its2.toArray,n2,b1,b2,b3,by simpa using all r2⟩
 cases r with
 | cons c1 r=>cases r with
  | cons c2 r=>cases r with
   | nil =>
    cases c1
    cases c2
    exact⟨o,c,b,n,a1,a2,a3,one h0,one h2⟩
section
variable {X:Cx}{pins:List (Addr × Obj)}{σ:St}{H:Hp}{s:Shared}{a b:Addr}{kvs:List (ab × Addr × V)}{k:ab}{v:V}{A:Around}{E:Value->Shared->Prop}
theorem hZ(I:ad X pins σ H s)(d:DP H a kvs) : ∃ xs ep,H a=some (dN a xs ep)/\KP kvs xs/\dU s.heap a (xs.map bP).toArray ep/\s.heap.DictOfH (jd X.prog X.w) a xs:=by
 obtain⟨⟨xs,ep,h1,h2⟩,ky,nd,le⟩:=d
 obtain⟨r,_⟩:=I.hok a _ h1
 obtain⟨o,e1,e2,e3⟩:=r.obj
 refine⟨xs,ep,h1,h2,r,o,_,ep,e1,e2,e3,by rw[t4],λx hx=>?_,by rw[<- h2.keys]; exact nd⟩
 have all : ∀ {l m},KP l m->(∀ x∈l,aM H x.1 x.2.1)->∀ x∈m,cI X.prog X.w s.heap x.1 x.2.1:=by
  intro l m r
  induction r with
  | nil=>intro _ x hx; cases hx
  | @cons p q ps qs h t ih =>
   intro al x hx
   rcases List.mem_cons.mp hx with z | z
   ·subst z
    rw[<- h.1,<- h.2.1]
    exact lj I.hok (al p (List.mem_cons_self ..))
   ·exact ih (λy hy=>al y (List.mem_cons_of_mem _ hy)) x z
 exact all h2 ky x hx
theorem wf{Q:Value->Shared->Prop}(hu:A.units+16 < cLine)(I:ad X pins σ H s)(d:DP H a kvs)(ky:aM H k b)(e:aB kvs k=some v)(q : ∀ w' s',ad X pins σ H s'->aq v w'->Q w' s'):wpAny (model X.prog X.w) A (getItem (.ref a) (.ref b)) Q E s:=by
 obtain⟨xs,ep,h1,h2,r,dd⟩:=hZ I d
 obtain⟨w',hw,rw'⟩:=bG.some_of (v:=v) (o:=(atKey xs k).map (·.2)) (by rw[<- e]; exact h2.val k)
 obtain⟨p,hp,hp2⟩:=Option.map_eq_some_iff.mp hw
 refine wpAny_getItem_heap (knd:=jd X.prog X.w) (by show A.units+1+8 < cLine; omega) (lj I.hok ky) dd hp ?_
 rw[hp2]
 exact q w' _ (I.tok _) rw'
theorem we{u:Value}{Q:Unit->Shared->Prop}(hu:A.units+16 < cLine)(I:ad X pins σ H s)(d:DP H a kvs)(ky:aM H k b)(hl:kvs.length < sizeLine)(rv:aq v u)(q : ∀ H' s',ad X pins σ H' s'->DP H' a (cg kvs k b v)->(∀ c,c≠a->H' c=H c)->Q () s'):wpAny (model X.prog X.w) A (setItem (.ref a) (.ref b) u) Q E s:=by
 obtain⟨xs,ep,h1,h2,r,dd⟩:=hZ I d
 have hz:xs.length<=sizeLine:=by rw[<- Paired.length h2]; exact d.le
 refine wpAny_setItem_heap (hsz:=hz) (knd:=jd X.prog X.w) (by show A.units+1+8 < cLine; omega) (lj I.hok ky) dd λh' dd' hs=>?_
 obtain⟨o,es,ep',e1,e2,e3,e4,e5,e6⟩:=dd'
 have nk : ∀ c ys,H c=some (.tup ys)->c≠a:=λc ys z y=>by subst y; rw[h1]at z; cases z
 have es':es=((storedH xs k b u).map bP).toArray:=by
  rw[t4]at e4
  rw[<- e4,Array.toArray_toList]
 have I':ad X pins σ (upd H a (dN a (storedH xs k b u) ep')) { s with heap:=h',toks:=s.toks+(jd X.prog X.w).draws k }:=by
  refine j8 I (by rw[h1]; exact True.intro) hs ⟨o,e1⟩ ⟨⟨r.big,o,e1,e2,by rw[e3,es']⟩,⟨o,e1⟩,λg1 g2 f kk=>f.to kk⟩
 refine q _ _ I' ⟨⟨_,ep',aN,h2.put k rv⟩,λx hx=>?_,?_,?_⟩ λc hc=>ak hc
 ·have ky':aM H x.1 x.2.1:=by
   rcases AG kvs k b v x hx with ⟨y,hy,z1,z2⟩ | z
   ·rw[<- z1,<- z2]; exact d.key y hy
   ·rw[z]; exact ky
  obtain⟨c,d,c1,c0,c2⟩:=ky'
  exact⟨c,d,by rw[ak (nk _ _ c1)]; exact c1,by rw[ak (nk _ _ c0)]; exact c0,by rw[ak (nk _ _ c2)]; exact c2⟩
 ·rw[(h2.put k rv).keys]; exact e6
 ·have:=tZ kvs k b v; omega
end
def CS:TE:=λ_ H Q=>∀ p H',aP H p (dN p [] 0) H'->Q (.ref p) H'
theorem DP.new{H H':Hp}{p:Addr}(g:aP H p (dN p [] 0) H'):DP H' p []:=⟨⟨[],0,g.at_,.nil⟩,λ_ hx=>(nomatch hx),List.nodup_nil,Nat.zero_le _⟩
def yu(td ty:TE):TE:=λσ H Q=>td σ H λx H1=>ty σ H1 λy H2=>∃ a b kvs k v,x=.ref a/\y=.ref b/\DP H2 a kvs/\aM H2 k b/\aB kvs k=some v/\Q v H2
def zC(td ty tv:TE):TS:=λD σ H=>tv σ H λv H1=>td σ H1 λx H2=>ty σ H2 λy H3=>∃ a b kvs k,x=.ref a/\y=.ref b/\DP H3 a kvs/\aM H3 k b/\kvs.length < sizeLine/\∀ H4,DP H4 a (cg kvs k b v)->(∀ c,c≠a->H4 c=H3 c)->D.nx σ H4
def im(d:Addr)(o:HO)(kvs:List (ab × Addr × V)):It :=
 ⟨λi H=>H d=some o/\i < kvs.length,λi H x H'=>H'=H/\∃ k b v,kvs[i]? = some (k,b,v)/\x=.ref b,λi H=>H d=some o/\kvs.length<=i⟩
def Dr(td:TE):TI:=λσ H R=>td σ H λx H1=>∃ d kvs,x=.ref d/\DP H1 d kvs/\∀ o,H1 d=some o->R (im d o kvs) H1
theorem x9{P:Program}{w:World}{K:W.Frag}{tg:Expr}(d it:Addr)(xs:List (ab × Addr × Value))(ep:Nat)(kvs:List (ab × Addr × V))(kn:KP kvs xs):dg P w K tg (im d (dN d xs ep) kvs) [it] it (λi h=>h.IsKeyIter it d i (xs.map bP).toArray.size ep) where
 mem:=by simp
 obj:=λi h st b hb=>by
  have e:b=it:=by simpa using hb
  subst e
  obtain⟨o,e,c,d⟩:=st
  exact⟨o,e,λv z=>by rw[d]at z; cases z⟩
 keep:=λi h h' st k=>st.at λo e=>k it (by simp) o e
 item:=by
  intro X hP hw hK hc i pins s σ H E I hf st hg
  subst hP hw hK
  obtain⟨hq,hi⟩:=hg
  obtain⟨r,_⟩:=I.hok d _ hq
  obtain⟨f0,f1,f2,f3,f4,f5⟩:=hf it (by simp)
  have hl:=Paired.length kn
  obtain⟨⟨k,b,v⟩,hkv⟩ : ∃ y,kvs[i]? = some y:=⟨_,List.getElem?_eq_getElem hi⟩
  obtain⟨⟨k',b',u⟩,hxs⟩ : ∃ y,xs[i]? = some y:=⟨_,List.getElem?_eq_getElem (by omega)⟩
  obtain⟨z1,z2,z3⟩:=jX kn hkv hxs
  have z2':b=b':=z2
  subst z2'
  refine kU (e:=bP (k',b,u)) st r (by rw[List.getElem?_toArray,List.getElem?_map,hxs]; rfl) λh' st' sb=>?_
  have I1:ad X pins σ H { s with heap:=h' }:=I.turned (t':=s.toks) (λb o hb e=>(sb.2 b hb).trans e) f0 f1 f3 f4 f5
  obtain⟨o,e,c,dd⟩:=id st'
  exact⟨.ref b,rfl,fZ (s:={ s with heap:=h' }) e c dd (by decide) ⟨.ref b,H,I1,rfl,⟨rfl,k,b,v,hkv,rfl⟩,st',λb hb=>(hf b hb).1⟩⟩
 done:=by
  intro X hP hw hK hc i pins s σ H E I hf st hg
  subst hP hw hK
  obtain⟨hq,hi⟩:=hg
  obtain⟨r,_⟩:=I.hok d _ hq
  obtain⟨f0,f1,f2,f3,f4,f5⟩:=hf it (by simp)
  have hl:=Paired.length kn
  exact nC (I.ok.hd hc) st r (by simp; omega) λh' eb=>⟨rfl,I.turned (t':=s.toks) (λb o hb e=>eb b o hb e) f0 f1 f3 f4 f5⟩
 self:=λ_ _ _ _ _ st h=>wpAny_pyIter_keyiter st h
section
variable {X:Cx}{K:W.Frag}{o i e f value tg l:Expr}{td ty tx tv tl:TE}{pos pos' apos cpos:Pos}
theorem jM:QE X (.Dict [] [] pos) CS:=⟨λpins s σ H Q I h=>by
 refine wpAny_Dict_empty ⟨.ref s.heap.objs.size,_,I.laid (a:=s.heap.objs.size) (o:=dN s.heap.objs.size [] 0) (t':=s.toks) (λ_ _ q=>Heap.get?_push_of_some _ q) (Nat.le_refl _) ?_,rfl,h _ _ (.mk' (I.hok.fresh (Nat.le_refl _)))⟩
 refine⟨⟨beq_eq_false_iff_ne.mpr (Ne.symm (Nat.ne_of_lt I.big)),_,Heap.get?_push_size _ rfl,⟨rfl,rfl,rfl⟩,rfl⟩,⟨_,Heap.get?_push_size _ rfl⟩,λg1 g2 f kk=>f.to kk⟩⟩
theorem dA(hu:X.A.units+64 < cLine)(ho:QE X o td)(hi:QE X i ty)(hs:jv i:=by intro _ _; rfl):QE X (.Subscript o i pos) (yu td ty):=⟨λpins s σ H Q I h=>by
 refine kK PySem.F.slot_dict_getitem.lookup hs (aj (ho.h pins s σ H _ I h) λu s1 ⟨x,H1,I1,rx,q1⟩=>aj (hi.h pins s1 σ H1 _ I1 q1) λiv s2 ⟨y,H2,I2,ry,a,b,kvs,k,v,ex,ey,d,ky,ev,q2⟩=>?_)
 subst ex ey
 obtain rfl:u=Value.ref a:=rx
 obtain rfl:iv=Value.ref b:=ry
 obtain⟨xs,ep,_,_,r,_⟩:=hZ I2 d
 exact⟨r.ty,wf (by omega) I2 d ky ev λw' s3 I3 rw'=>⟨v,H2,I3,rw',q2⟩⟩⟩
theorem jO(hu:X.A.units+64 < cLine)(ho:QE X o td)(hi:QE X i ty)(hv:QE X value tv)(hs:swapsWith value (some (.Subscript o i pos')) pos.line X.env=pure false:=by rfl):QS X (.Assign [.Subscript o i pos'] value pos) (zC td ty tv):=⟨λpins s σ H D I h=>by
 refine wpAny_Assign_Subscript (aj (hv.h pins s σ H _ I h) λr s1 ⟨v,H1,I1,rv,q1⟩=>aj (ho.h pins s1 σ H1 _ I1 q1) λu s2 ⟨x,H2,I2,rx,q2⟩=>aj (hi.h pins s2 σ H2 _ I2 q2) λiv s3 ⟨y,H3,I3,ry,a,b,kvs,k,ex,ey,d,ky,lt,q3⟩=>?_) hs
 subst ex ey
 obtain rfl:u=Value.ref a:=rx
 obtain rfl:iv=Value.ref b:=ry
 exact we (by omega) I3 d ky lt rv λH4 s4 I4 d4 k4=>⟨σ,H4,I4,q3 H4 d4 k4⟩⟩
theorem tR(hl:QE X l tl):QI X tg l (Dr tl):=⟨λpins s σ H R I h=>by
 refine aj (hl.h pins s σ H _ I h) λv s1 ⟨x,H1,I1,r1,d,kvs,ex,dn,q⟩=>?_
 subst ex
 obtain rfl:v=Value.ref d:=r1
 obtain⟨xs,ep,h1,h2,r,_⟩:=hZ I1 dn
 refine nB r ?_
 refine⟨s1.heap.objs.size,[s1.heap.objs.size],_,im d (dN d xs ep) kvs,H1,rfl,I1.kept (t':=s1.toks) λb o e=>Heap.get?_push_of_some _ e,x9 d _ xs ep kvs h2,⟨_,Heap.get?_push_size _ rfl,rfl,rfl⟩,λb hb=>?_,q _ h1⟩
 have e:b=s1.heap.objs.size:=by simpa using hb
 subst e
 exact I1.fpOk (Nat.le_refl _) (I1.hok.fresh (Nat.le_refl _))⟩
theorem Fa{d:Addr}{o:HO}{kvs:List (ab × Addr × V)}{g:TG}{tb:TS}{D:cP}{σ:St}{H:Hp}(Pv:Nat->St->Hp->Prop)(h0:Pv 0 σ H)(hl : ∀ i σ H,i<=kvs.length->Pv i σ H->H d=some o)
 (hs : ∀ i k b v σ H,kvs[i]? = some (k,b,v)->Pv i σ H->g (.ref b) σ H λσ2 H2=>tb { D with nx:=Pv (i+1),ct:=Pv (i+1),bk:=D.nx } σ2 H2) (hd : ∀ σ H,Pv kvs.length σ H->D.nx σ H) :
 ∃ W:Nat->Nat->St->Hp->Prop,(∃ m,W 0 m σ H)/\∀ i m σ H,W i m σ H ->
  ((im d o kvs).stop i H/\D.nx σ H)\/((im d o kvs).go i H/\∃ N:St->Hp->Prop,(∀ σ' H',N σ' H'->∃ m',m' < m/\W (i+1) m' σ' H')/\∀ x H',(im d o kvs).yld i H x H'->g x σ H' λσ2 H2=>tb { D with nx:=N,ct:=N,bk:=D.nx } σ2 H2):=by
 refine⟨λi m σ H=>m=kvs.length - i/\i<=kvs.length/\Pv i σ H,⟨kvs.length,by simp,Nat.zero_le _,h0⟩,?_⟩
 rintro i m σ H ⟨rfl,hi,p⟩
 have q:=hl i σ H hi p
 by_cases hlt:i < kvs.length
 ·refine .inr ⟨⟨q,hlt⟩,Pv (i+1),λσ' H' p'=>⟨kvs.length - (i+1),by omega,rfl,hlt,p'⟩,λx H' y=>?_⟩
  obtain⟨rfl,k,b,v,y,rfl⟩:=y
  exact hs i k b v σ H' y p
 ·have e:i=kvs.length:=by omega
  subst e
  exact .inl ⟨⟨q,Nat.le_refl _⟩,hd σ H p⟩
end
section
variable {prog:Program}{w:World}{A:Around}{E:Value->Shared->Prop}{s:Shared}{d:Addr}{es:Array DictEntry}{ep:Nat}
theorem nG (r:dW s.heap d es ep):s.TypeIs (.ref d) "dict":=by
 obtain⟨_,o,e,c,_⟩:=r
 exact⟨o,e,c.1⟩
theorem zJ(d:Addr)(es:Array DictEntry)(ep:Nat):MeetsIn prog w (Builtin.«dict.__len__» ⟨[.ref d],[]⟩) (λ_ R s=>dW s.heap d es ep/\R (.ok (.ret (.int es.size s.toks))) { s with toks:=s.toks+1 }) :=
 .of_wp λA R s ⟨hm,h⟩=>by
  obtain⟨hd,o,ho,hc,hdat⟩:=hm
  show wpAny _ _ (dictSize d >>= _) _ _ s
  unfold dictSize
  refine wpAny_bind (wpAny_bind (wpAny_dictEntries ho hdat (wpAny_pure ?_)))
  show wpAny _ _ (Builtin.Dict.pendingCount d >>= _) _ _ s
  refine wpAny_bind (wpAny_pendingCount_other hd ?_)
  refine wpAny_ret_mkInt ?_
  rw[Nat.add_zero]; exact h
theorem tL{Q:Value->Shared->Prop}(hm:dW s.heap d es ep)(hfit:(es.size:Int) < 2 ^ 63)(h:Q (.int es.size (s.toks+1)) { s with toks:=s.toks+1+1 }) :
 wpAny (model prog w) A (Builtin.«len» ⟨[.ref d],[]⟩) (λfin s'=>∃ r,fin=.done (.ret r)/\Q r s') E s:=by
 have ty:=nG hm
 unfold Builtin.«len»
 refine wpAny_bind (m:=oneArg "len" _) (wpAny_pure ?_)
 refine wpAny_bind (m:=callSpecial? (.ref d) (Str.ofString "__len__")) (wpAny_callSpecial?_slot (name:=Str.ofString "__len__") ty PySem.F.slot_dict_len
  (call_meetsIn PySem.F.slot_dict_len ty PySem.F.entry_dict_len (PySem.F.args_dict_len_1 _) (zJ d es ep) ⟨hm,?_⟩))
 show wpAny _ _ _ _ _ { s with toks:=s.toks+1 }
 refine wpAny_bind (wpAny_holding (wpAny_pure ?_))
 refine wpAny_bind (wpAny_letGo ?_)
 show wpAny _ _ (if ((es.size:Nat):Int) < 0 then _ else _) _ _ _
 rw[if_neg (by omega)]
 show wpAny _ _ (if ((es.size:Nat):Int)>=2 ^ 63 then _ else _) _ _ _
 rw[if_neg (by omega)]
 exact wpAny_bind (wpAny_mkInt (wpAny_pure ⟨_,rfl,h⟩))
theorem zI{Q:Bool->Shared->Prop}(hm:dW s.heap d es ep)(hfit:(es.size:Int) < 2 ^ 63)(h:Q (es.size != 0) { s with toks:=s.toks+1+1 }):wpAny (model prog w) A (truthy (.ref d)) Q E s:=by
 have ty:=nG hm
 have hne:((es.size:Int) != 0)=(es.size != 0):=by
  by_cases e:es.size=0
  ·rw[e]; rfl
  ·have e2 : ¬ (es.size:Int)=0:=by omega
   rw[bne_iff_ne.mpr e2,bne_iff_ne.mpr e]
 have key:wpAny (model prog w) A (runValue (.builtin "len" ⟨[.ref d],[]⟩)) (λr s'=>r=.int es.size (s.toks+1)/\Q (es.size != 0) s') E s:=by
  refine wpAny_runValue (codeAny_builtin entry_len ?_)
  rw[Around.under_plainId plain_len _]
  exact wpAny_mono (tL (Q:=λr s'=>r=.int es.size (s.toks+1)/\Q (es.size != 0) s') hm hfit ⟨rfl,h⟩)
   (λfin s' h'=>by obtain⟨r,rfl,hq⟩:=h'; exact hq) λ_ _ e=>e
 unfold truthy
 first
  | refine wpAny_bind (wpAny_callSpecial?_none (name:=Str.ofString "__bool__") ty noBool_dict ?_)
  | refine wpAny_bind (wpAny_pure (wpAny_bind (wpAny_callSpecial?_none (name:=Str.ofString "__bool__") ty noBool_dict ?_)))
 first
  | refine wpAny_bind (wpAny_specialOf (name:=Str.ofString "__len__") ty PySem.F.slot_dict_len.lookup ?_)
  | refine wpAny_bind (wpAny_pure (wpAny_bind (wpAny_specialOf (name:=Str.ofString "__len__") ty PySem.F.slot_dict_len.lookup ?_)))
 first
  | exact wpAny_bind (wpAny_mono key (λr s' h'=>by obtain⟨rfl,hq⟩:=h'; exact wpAny_pure (hne ▸ hq)) λ_ _ e=>e)
  | exact wpAny_bind (wpAny_pure (wpAny_bind (wpAny_mono key (λr s' h'=>by obtain⟨rfl,hq⟩:=h'; exact wpAny_pure (hne ▸ hq)) λ_ _ e=>e)))
end
def rH(H:Hp)(d:Addr)(n:Nat):Prop:=(∃ kvs:List (ao × V),H d=some (.dK kvs)/\n=kvs.length)\/(∃ kvs:List (List ao × V),H d=some (.dT kvs)/\n=kvs.length)\/∃ kvs,DP H d kvs/\n=kvs.length
section
variable {X:Cx}{pins:List (Addr × Obj)}{σ:St}{H:Hp}{s:Shared}{d:Addr}{n:Nat}
theorem wj(I:ad X pins σ H s)(h:rH H d n) : ∃ es ep,dW s.heap d es ep/\es.size=n/\n<=sizeLine:=by
 rcases h with ⟨kvs,h,rfl⟩ | ⟨kvs,h,rfl⟩ | ⟨kvs,h,rfl⟩
 ·obtain⟨z,hdS,vs,rel,o,es,ep,e1,e2,e3,e4,e5,e6⟩:=mf I.hok h
  refine⟨es,ep,⟨hdS,o,e1,e2,e3⟩,?_,z⟩
  have:=e5.length
  have:=rel.length
  rw[Array.length_toList]at *
  omega
 ·obtain⟨z,hdS,xs,rel,o,es,ep,e1,e2,e3,e4,e5⟩:=(show aO X.prog X.w H s.heap d (.dT kvs) from I.hok d _ h)
  refine⟨es,ep,⟨hdS,o,e1,e2,e3⟩,?_,z⟩
  have h1:=congrArg List.length e4
  rw[List.length_map,Array.length_toList]at h1
  rw[h1,Paired.length rel]
 ·obtain⟨xs,ep,h1,h2,r,_⟩:=hZ I h
  refine⟨_,ep,⟨r.big,r.obj⟩,?_,h.le⟩
  rw[List.size_toArray,List.length_map]
  exact (Paired.length h2).symm
theorem sS{n:Nat}(h:n<=sizeLine):(n:Int) < 2 ^ 63:=by rw[sizeLine_eq]at h; omega
end
def yi(t:TE):TT:=λσ H Q=>t σ H λx H1=>∃ d n,x=.ref d/\rH H1 d n/\Q (n != 0) H1
def E1:List V->Hp->VK->Prop:=λxs H Q=>∃ d n,xs=[.ref d]/\rH H d n/\Q (.int (n:Int)) H
def E2(neg:Bool):R2:=λx y H Q=>∃ b a kvs k,x=.ref b/\y=.ref a/\DP H a kvs/\aM H k b/\Q (.bl (if neg then !(aB kvs k).isSome else (aB kvs k).isSome)) H
section
variable {X:Cx}
theorem tN{e:Expr}{t:TE}(h:QE X e t)(he : ∀ whole,isTrue e X.env whole=(do let v <- whole; standAt e.pos; holding [v] (truthy v)):=by intro _; rfl):QT X e (yi t):=⟨by
 intro pins s σ H Q I hw
 refine isTrue_plain (aj (h.h pins s σ H _ I hw) λv s1 ⟨x,H1,I1,r1,d,n,ex,dl,q1⟩=>?_) (he _)
 subst ex
 obtain rfl:v=Value.ref d:=r1
 obtain⟨es,ep,r,e1,e2⟩:=wj I1 dl
 refine zI r (sS (by omega)) ?_
 rw[e1]
 exact⟨_,I1.tok _,q1⟩⟩
theorem Ge:bA X (.builtin "len") E1:=by
 intro pins s σ H us vs Q I r q
 obtain⟨d,n,rfl,dl,q⟩:=q
 obtain⟨u,rfl,rx⟩:=gx r
 cases rx
 obtain⟨es,ep,rr,e1,e2⟩:=wj I dl
 refine Calls.call_function_entry kind_len plain_len entry_len (args_len1 _) (tL rr (sS (by omega)) ?_)
 rw[e1]
 exact⟨.int (n:Int),H,I.tok _,⟨_,rfl⟩,q⟩
theorem oH(hu:X.A.units+64 < cLine):aA X (compareOp .NotIn) (E2 true):=by
 intro pins s σ H x y v u Q I rx ry q
 obtain⟨b,a,kvs,k,rfl,rfl,dp,ky,q⟩:=q
 cases rx
 cases ry
 obtain⟨xs,ep,h1,h2,r,dd⟩:=hZ I dp
 refine wpAny_notIn_heap (knd:=jd X.prog X.w) (by show X.A.units+1+8 < cLine; omega) (lj I.hok ky) r.big dd ?_
 refine⟨.bl _,H,I.tok _,rfl,?_⟩
 have e:(aB kvs k).isSome=(atKey xs k).isSome:=by rw[(h2.val k).isSome_eq,Option.isSome_map]
 rw[<- e]
 exact q
end
def io(d:Addr)(o:HO)(kvs:List (ab × Addr × V)):It :=
 ⟨λi H=>H d=some o/\i < kvs.length,λi H x H'=>∃ p k b v,x=.ref p/\kvs[i]? = some (k,b,v)/\aP H p (.tup [.ref b,v]) H',λi H=>H d=some o/\kvs.length<=i⟩
theorem x4{P:Program}{w:World}{K:W.Frag}{tes:List Expr}{kk:Nat}{pp:Pos}(d it:Addr)(xs:List (ab × Addr × Value))(ep:Nat)(kvs:List (ab × Addr × V))(kn:KP kvs xs)(hdi:d≠it):dg P w K (.Tuple tes kk pp) (io d (dN d xs ep) kvs) [it] it (λi h=>∃ ok ov,IsItemIter h it d i (xs.map bP).toArray.size ep ok ov) where
 mem:=by simp
 obj:=λi h st b hb=>by
  obtain⟨ok,ov,h1⟩:=st
  have hb':b=it:=by simpa using hb
  subst hb'
  exact⟨_,h1,λv z=>by cases (show Data.fields _=Data.cell v from z)⟩
 keep:=λi h h' st k=>by
  obtain⟨ok,ov,h1⟩:=st
  exact⟨ok,ov,k it (by simp) _ h1⟩
 item:=by
  intro X hP hw hK hc i pins s σ H E I hf st hg
  subst hP hw hK
  obtain⟨ok,ov,h1⟩:=st
  obtain⟨hq,hi⟩:=hg
  obtain⟨r,_⟩:=I.hok d _ hq
  have raw:dW s.heap d (xs.map bP).toArray ep:=⟨r.big,r.obj⟩
  have hl:=Paired.length kn
  obtain⟨⟨k,b,v⟩,hkv⟩ : ∃ y,kvs[i]? = some y:=⟨_,List.getElem?_eq_getElem hi⟩
  obtain⟨⟨k',b',u⟩,hxs⟩ : ∃ y,xs[i]? = some y:=⟨_,List.getElem?_eq_getElem (by omega)⟩
  obtain⟨z1,z2,z3⟩:=jX kn hkv hxs
  have z2':b=b':=z2
  subst z2'
  have hilt:it < s.heap.objs.size:=Heap.lt_size h1
  refine tJ (e:=bP (k',b,u)) h1 raw (by rw[List.getElem?_toArray,List.getElem?_map,hxs]; rfl) λh' ho hT hk=>?_
  refine⟨_,rfl,wpAny_letOwnedTupleGo_items (s:={ s with heap:=h' }) ho λh'' he' hs'=>?_⟩
  have hTe:s.heap.objs.size≠it:=Nat.ne_of_gt hilt
  have hT2:h''.get? s.heap.objs.size=some { cls:=.type "tuple",data:=.seq #[.ref b,u] }:=(hs'.2 _ hTe).trans hT
  have I2:ad X pins σ (upd H s.heap.objs.size (.tup [.ref b,v])) { s with heap:=h'' }:=by
   refine I.turnedN (t':=s.toks) (fp:=[it]) (λb o hb eo=>?_) hf (Nat.le_refl _) (lC ⟨_,hT2,rfl,_,rfl⟩ rfl z3)
   have hbe:b≠it:=λz=>hb (by simp[z])
   exact (hs'.2 b hbe).trans (hk b o hbe eo)
  refine⟨.ref s.heap.objs.size,_,I2,rfl,⟨_,k,b,v,rfl,hkv,.mk' I.fresh⟩,⟨_,_,he'⟩,λb hb=>?_⟩
  have hb':b=it:=by simpa using hb
  rw[ak (by rw[hb']; exact Nat.ne_of_lt hilt)]
  exact (hf b hb).1
 done:=by
  intro X hP hw hK hc i pins s σ H E I hf st hg
  subst hP hw hK
  obtain⟨ok,ov,h1⟩:=st
  obtain⟨hq,hi⟩:=hg
  obtain⟨r,_⟩:=I.hok d _ hq
  have raw:dW s.heap d (xs.map bP).toArray ep:=⟨r.big,r.obj⟩
  have hl:=Paired.length kn
  exact tK (I.ok.hd hc) h1 raw (by simp; omega) λh' eb=>⟨rfl,I.turnedL (t':=s.toks) (fp:=[it]) (λb o hb eo=>eb b o (λz=>hb (by simp[z])) eo) hf⟩
 self:=λA i s Q E st h=>by
  obtain⟨ok,ov,h1⟩:=st
  have hT:s.TypeIs (.ref it) "dict_itemiterator":=⟨_,h1,rfl⟩
  refine wpAny_pyIter_slot hT PySem.F.slot_dict_itemiterator_iter (wpAny_call_entry PySem.F.slot_dict_itemiterator_iter hT pV ?_ (PySem.F.args_dict_itemiterator_iter_1 _))
  show wpAny _ _ (ret (.ref it)) _ _ s
  exact wpAny_pure ⟨_,rfl, "dict_itemiterator",_,hT,PySem.F.slot_dict_itemiterator_next.lookup,h⟩
def Dp(td:TE):TI:=λσ H R=>td σ H λx H1=>∃ d kvs,x=.ref d/\DP H1 d kvs/\∀ o,H1 d=some o->R (io d o kvs) H1
section
variable {X:Cx}{o:Expr}{es:List Expr}{kk:Nat}{pp apos cpos:Pos}{td:TE}
theorem nO (ho:QE X o td) (hb:attributeBase o "items" X.env (eval o X.env)=eval o X.env:=by rfl) (hl:(apos.endLine == cpos.line)=true:=by rfl):QI X (.Tuple es kk pp) (.Call (.Attribute o "items" apos) [] [] cpos) (Dp td):=⟨by
 intro pins s σ H R I h
 refine wpAny_Call_method (T := "dict") (id := "dict.items") hb rfl hl PySem.F.plainAttrs_dict PySem.F.slot_dict_items PySem.F.type_dict_items (aj (ho.h pins s σ H _ I h) λu s1 ⟨x,H1,I1,rx,d,kvs,ex,dp,q⟩=>?_)
 subst ex
 obtain rfl:u=Value.ref d:=rx
 obtain⟨xs,ep,h1,h2,r,dd⟩:=hZ I1 dp
 have raw:dW s1.heap d (xs.map bP).toArray ep:=⟨r.big,r.obj⟩
 have ty:=nG raw
 obtain⟨ob,ho1,c1,c2⟩:=r.obj
 refine⟨ty,λb z=>by cases z; exact⟨ob,ho1,c1.2.1⟩,?_⟩
 show wpAny _ _ (callWith cpos (.builtin "dict.items") [.ref d] [] []) _ _ s1
 refine method_meetsIn PySem.F.slot_dict_items PySem.F.entry_dict_items rfl (PyProof.Rows.evalArgs_none ⟨rfl,ty,PySem.F.args_dict_items_1 _,_,uG d r.big,ty,?_⟩)
 refine tI (d:=d) (es:=(xs.map bP).toArray) (ep:=ep) ⟨_,Heap.get?_push_size _ rfl,rfl,rfl⟩ ⟨r.big,ob,Heap.get?_push_of_some _ ho1,c1,c2⟩ ?_
 have hsz:(s1.heap.push { cls:=.type "dict_items",data:=.fields #[.ref d] }).objs.size=s1.heap.objs.size+1:=Heap.size_push ..
 have k2 : ∀ b o,s1.heap.get? b=some o->((s1.heap.push { cls:=.type "dict_items",data:=.fields #[.ref d] }).push { cls:=.type "dict_itemiterator",data:=.fields #[.none,.bool false,.ref d,.int 0 0,.int (xs.map bP).toArray.size 0,.int ep 0,.none,.none] }).get? b=some o:=λb o e=>Heap.get?_push_of_some _ (Heap.get?_push_of_some _ e)
 have I2:=I1.kept (t':=s1.toks) k2
 have hle:s1.heap.objs.size<=(s1.heap.push { cls:=.type "dict_items",data:=.fields #[.ref d] }).objs.size:=by rw[hsz]; exact Nat.le_succ _
 have hdi:d≠(s1.heap.push { cls:=.type "dict_items",data:=.fields #[.ref d] }).objs.size:=by rw[hsz]; exact Nat.ne_of_lt (Nat.lt_succ_of_lt (Heap.lt_size ho1))
 refine⟨_,[_],_,io d (dN d xs ep) kvs,_,rfl,I2,x4 d _ xs ep kvs h2 hdi,⟨.none,.none,Heap.get?_push_size _ rfl⟩,λb hb=>?_,q _ h1⟩
 have hb':b=(s1.heap.push { cls:=.type "dict_items",data:=.fields #[.ref d] }).objs.size:=by simpa using hb
 exact I1.fpOk (b:=b) (by rw[hb']; exact hle) (I1.hok.fresh (by rw[hb']; exact hle))⟩
end
theorem vU{d:Addr}{o:HO}{kvs:List (ab × Addr × V)}{g:TG}{tb:TS}{D:cP}{σ:St}{H:Hp}(Pv:Nat->St->Hp->Prop)(h0:Pv 0 σ H)(hl : ∀ i σ H,i<=kvs.length->Pv i σ H->H d=some o)
 (hs : ∀ i k b v p σ H H',kvs[i]? = some (k,b,v)->Pv i σ H->aP H p (.tup [.ref b,v]) H'->g (.ref p) σ H' λσ2 H2=>tb { D with nx:=Pv (i+1),ct:=Pv (i+1),bk:=D.nx } σ2 H2) (hd : ∀ σ H,Pv kvs.length σ H->D.nx σ H) :
 ∃ W:Nat->Nat->St->Hp->Prop,(∃ m,W 0 m σ H)/\∀ i m σ H,W i m σ H ->
  ((io d o kvs).stop i H/\D.nx σ H)\/((io d o kvs).go i H/\∃ N:St->Hp->Prop,(∀ σ' H',N σ' H'->∃ m',m' < m/\W (i+1) m' σ' H')/\∀ x H',(io d o kvs).yld i H x H'->g x σ H' λσ2 H2=>tb { D with nx:=N,ct:=N,bk:=D.nx } σ2 H2):=by
 refine⟨λi m σ H=>m=kvs.length - i/\i<=kvs.length/\Pv i σ H,⟨kvs.length,by simp,Nat.zero_le _,h0⟩,?_⟩
 rintro i m σ H ⟨rfl,hi,p⟩
 have q:=hl i σ H hi p
 by_cases hlt:i < kvs.length
 ·refine .inr ⟨⟨q,hlt⟩,Pv (i+1),λσ' H' p'=>⟨kvs.length - (i+1),by omega,rfl,hlt,p'⟩,λx H' y=>?_⟩
  obtain⟨pp,k,b,v,rfl,y,gr⟩:=y
  exact hs i k b v pp σ H H' y p gr
 ·have e:i=kvs.length:=by omega
  subst e
  exact .inl ⟨⟨q,Nat.le_refl _⟩,hd σ H p⟩
theorem FJ{K:W.Frag}{d:Addr}{o:HO}{kvs:List (ab × Addr × V)}{cs:St}{tt:TT}{te:TE}{H:Hp}{Q:VK}(Pv:Nat->List V->Hp->Prop)(h0:Pv 0 [] H)(hl : ∀ i ys H,i<=kvs.length->Pv i ys H->H d=some o/\ys.length<=i)(hz:kvs.length<=sizeLine)
 (hs : ∀ i k b v ys H H' (N:List V->Hp->Prop),kvs[i]? = some (k,b,v)->Pv i ys H->ag H H'->(∀ ys' H',Pv (i+1) ys' H'->N ys' H')->tt (some (.ref b) :: some v :: cs) H' λc H4=>if c=true then te (some (.ref b) :: some v :: cs) H4 λy H5=>N (ys++[y]) H5 else N ys H4)
 (hd : ∀ ys H p H',Pv kvs.length ys H->aP H p (.lst ys) H'->Q (.ref p) H') :
 fM (io d o kvs) H (List.replicate 2 none++cs) (hW K 2 (eU (bF 0) (eU (bF 1) jj))) tt te Q:=by
 refine⟨λi m ys σ H=>m=kvs.length - i/\i<=kvs.length/\Pv i ys H/\∃ v0 v1,σ=v0 :: v1 :: cs,⟨kvs.length,by simp,Nat.zero_le _,h0,none,none,rfl⟩,?_⟩
 rintro i m ys σ H2 ⟨rfl,hi,p,v0,v1,rfl⟩
 obtain⟨q,ql⟩:=hl i ys H2 hi p
 by_cases hlt:i < kvs.length
 ·refine .inr ⟨⟨q,hlt⟩,by omega,λys' σ' H'=>Pv (i+1) ys' H'/\∃ v0 v1,σ'=v0 :: v1 :: cs,λys' σ' H' ⟨p',e⟩=>⟨kvs.length - (i+1),by omega,rfl,hlt,p',e⟩,λx H' y=>?_⟩
  obtain⟨pp,k,b,v,rfl,y,gr⟩:=y
  refine⟨pp,_,rfl,gr.tup,rfl,_,_,rfl,_,_,rfl,rfl,?_⟩
  exact hs i k b v ys H2 H' (λys' H'=>Pv (i+1) ys' H'/\∃ v0 v1,some (.ref b) :: some v :: cs=v0 :: v1 :: cs) y p gr.sm λ_ _ z=>⟨z,_,_,rfl⟩
 ·have e:i=kvs.length:=by omega
  subst e
  exact .inl ⟨⟨q,Nat.le_refl _⟩,by omega,λp' H' g=>hd ys H2 p' H' p g⟩
theorem FL{d:Addr}{o:HO}{kvs:List (ab × Addr × V)}{cs:St}{tt:TT}{te:TE}{H:Hp}{Q:VK}(Pv:Nat->List V->Hp->Prop)(h0:Pv 0 [] H)(hl : ∀ i ys H,i<=kvs.length->Pv i ys H->H d=some o/\ys.length<=i)(hz:kvs.length<=sizeLine)
 (hs : ∀ i k b v ys H (N:List V->Hp->Prop),kvs[i]? = some (k,b,v)->Pv i ys H->(∀ ys' H',Pv (i+1) ys' H'->N ys' H')->tt (some (.ref b) :: cs) H λc H4=>if c=true then te (some (.ref b) :: cs) H4 λy H5=>N (ys++[y]) H5 else N ys H4)
 (hd : ∀ ys H p H',Pv kvs.length ys H->aP H p (.lst ys) H'->Q (.ref p) H') :
 fM (im d o kvs) H (List.replicate 1 none++cs) (bF 0) tt te Q:=by
 refine⟨λi m ys σ H=>m=kvs.length - i/\i<=kvs.length/\Pv i ys H/\∃ v0,σ=v0 :: cs,⟨kvs.length,by simp,Nat.zero_le _,h0,none,rfl⟩,?_⟩
 rintro i m ys σ H2 ⟨rfl,hi,p,v0,rfl⟩
 obtain⟨q,ql⟩:=hl i ys H2 hi p
 by_cases hlt:i < kvs.length
 ·refine .inr ⟨⟨q,hlt⟩,by omega,λys' σ' H'=>Pv (i+1) ys' H'/\∃ v0,σ'=v0 :: cs,λys' σ' H' ⟨p',e⟩=>⟨kvs.length - (i+1),by omega,rfl,hlt,p',e⟩,λx H' y=>?_⟩
  obtain⟨rfl,k,b,v,y,rfl⟩:=y
  exact hs i k b v ys H' (λys' H'=>Pv (i+1) ys' H'/\∃ v0,some (.ref b) :: cs=v0 :: cs) y p λ_ _ z=>⟨z,_,rfl⟩
 ·have e:i=kvs.length:=by omega
  subst e
  exact .inl ⟨⟨q,Nat.le_refl _⟩,by omega,λp' H' g=>hd ys H2 p' H' p g⟩
theorem E7{d:Addr}{ob:Obj}{kvs:List (ao × V)}{g:TG}{tb:TS}{D:cP}{σ:St}{H:Hp}(Pv:Nat->St->Hp->Prop)(h0:Pv 0 σ H)(hl : ∀ i σ H,i<=kvs.length->Pv i σ H->H d=some (.frz ob (.dK kvs)))
 (hs : ∀ i k v σ H,kvs[i]? = some (k,v)->Pv i σ H->g v σ H λσ2 H2=>tb { D with nx:=Pv (i+1),ct:=Pv (i+1),bk:=D.nx } σ2 H2) (hd : ∀ σ H,Pv kvs.length σ H->D.nx σ H) :
 ∃ W:Nat->Nat->St->Hp->Prop,(∃ m,W 0 m σ H)/\∀ i m σ H,W i m σ H ->
  ((jx d ob kvs).stop i H/\D.nx σ H)\/((jx d ob kvs).go i H/\∃ N:St->Hp->Prop,(∀ σ' H',N σ' H'->∃ m',m' < m/\W (i+1) m' σ' H')/\∀ x H',(jx d ob kvs).yld i H x H'->g x σ H' λσ2 H2=>tb { D with nx:=N,ct:=N,bk:=D.nx } σ2 H2):=by
 refine⟨λi m σ H=>m=kvs.length - i/\i<=kvs.length/\Pv i σ H,⟨kvs.length,by simp,Nat.zero_le _,h0⟩,?_⟩
 rintro i m σ H ⟨rfl,hi,p⟩
 have q:=hl i σ H hi p
 by_cases hlt:i < kvs.length
 ·refine .inr ⟨⟨q,hlt⟩,Pv (i+1),λσ' H' p'=>⟨kvs.length - (i+1),by omega,rfl,hlt,p'⟩,λx H' y=>?_⟩
  obtain⟨rfl,k,y⟩:=y
  exact hs i k x σ H' y p
 ·have e:i=kvs.length:=by omega
  subst e
  exact .inl ⟨⟨q,Nat.le_refl _⟩,hd σ H p⟩
section
variable {X:Cx}
def yj(t:TS):TS:=λD σ H=>∃ d u,(∀ o v,H d≠some (.frz o v))/\t { D with nx:=λσ' H'=>(∃ ob,H' d=some (.frz ob u))/\D.nx σ' (upd H' d u) } σ H
theorem nH{e:Stmt}{t:TS}(h:QS X e t):QS X e (yj t):=⟨λpins s σ H D I q=>by
 obtain⟨d,u,nf,q⟩:=q
 refine wpAny_mono (h.h pins s σ H _ I q) (λf s1 z=>?_) λ_ _ e=>e
 cases f with
 | next =>
  obtain⟨σ1,H1,I1,⟨ob,ho⟩,k⟩:=z
  exact⟨σ1,_,I1.thaw ho λo v e=>nf o v (I.base.frzs _ _ _ e),k⟩
 | brk=>exact z
 | cont=>exact z
 | ret v=>exact z⟩
end
def zE(r:R2)(td ty tv:TE):TS:=λD σ H=>td σ H λx H1=>ty σ H1 λy H2=>∃ a b kvs k v,x=.ref a/\y=.ref b/\DP H2 a kvs/\aM H2 k b/\kvs.length < sizeLine/\aB kvs k=some v /\
 tv σ H2 λu H3=>r v u H3 λz H4=>H4=H2/\∀ H5,DP H5 a (cg kvs k b z)->(∀ c,c≠a->H5 c=H4 c)->D.nx σ H5
section
variable {X:Cx}{o i value:Expr}{td ty tv:TE}{pos tpos:Pos}
theorem Ay{op:Operator}{r:R2}(hu:X.A.units+64 < cLine)(ho:QE X o td)(hi:QE X i ty)(hv:QE X value tv)(hr:aA X (inplaceOp op) r)
 (hs : ∀ (ov iv new:Value),augStore i ov iv new=(do holding [new,ov,iv] (setItem ov iv new); release [new,ov,iv] []; pure Flow.next):=by intro _ _ _; rfl):QS X (.AugAssign (.Subscript o i tpos) op value pos) (zE r td ty tv):=⟨λpins s σ H D I h=>by
 refine wpAny_AugAssign_SubscriptAny (aj (ho.h pins s σ H _ I h) λu s1 ⟨x,H1,I1,rx,q1⟩=>aj (hi.h pins s1 σ H1 _ I1 q1) λiv s2 ⟨y,H2,I2,ry,a,b,kvs,k,v,ex,ey,d,ky,lt,ev,q2⟩=>?_) hs
 subst ex ey
 obtain rfl:u=Value.ref a:=rx
 obtain rfl:iv=Value.ref b:=ry
 refine wf (by omega) I2 d ky ev λw' s3 I3 rw'=>?_
 refine aj (hv.h pins s3 σ H2 _ I3 q2) λv4 s4 ⟨u4,H4,I4,r4,q4⟩=>?_
 refine aj (hr pins s4 σ H4 _ _ _ _ _ I4 rw' r4 q4) λv5 s5 ⟨z,H5,I5,r5,e5,q5⟩=>?_
 subst e5
 exact we (by omega) I5 d ky lt r5 λH6 s6 I6 d6 k6=>⟨σ,H6,I6,q5 H6 d6 k6⟩⟩
end
def mI(Pt:Addr)(H:Hp):Prop:=H Pt=some (.tbl #[])/\∀ b,b≠Pt->H b=none\/∃ o xs,H b=some (.frz o (.lst xs))
theorem C0{P:Program}{w:World}{K:W.Frag}{mg mb:Str->Option Value}{CX:du}{k:Nat}{fa a Pt c:Addr}{fd:FuncData}{x:Str}{sp:Sp}{s₁:Shared}{vs:List Value}{ns:List Int}
 (KX:K.In s₁.heap) (hns:s₁.heap.Ns mainGlobals mg) (hb:s₁.heap.Ns builtinsNs mb) (hbb : ∀ x:Str,x ≠ "__name__"->mb x=bootBuiltins x) (hlim:s₁.heap.NoLimit) (hg:s₁.gens = #[])
 (hKP:K.lookup Pt=none) (hTab:s₁.heap.get? Pt=some (W.tabObj #[])) (hcd:W.codeHdIn K c Pt=true) (hbm:s₁.heap.BuiltinsAt mg Pt)
 (ha:s₁.heap.get? a=some { cls:=.type "list",data:=.seq vs.toArray }) (hi:IntsAre vs ns) (hl:ns.length<=sizeLine) (hr:aS k callerA)
 (F : ∀ base:Heap,K.In base->base.Ns mainGlobals mg->base.BuiltinsAt mg Pt->bt P w K mg base CX k fa fd [x] sp) (hbind : ∀ (s:Shared) (u:Value),BindsTo s fd ⟨[u],[]⟩ [(x,u)])
 (hsp : ∀ H:Hp,mI Pt H->ax K H a (ns.map V.int)->sp [.ref a] H (λv _=>v=.bl true) λ_ _ _=>False)
 (hCX : ∀ H e s',CX [] H s₁ (λ_ _ _=>False) e s'->False) :
 codeAny (model P w) callerA (.call (.ref fa) ⟨[.ref a],[]⟩) (λr s'=>r=.ok (.ret (.bool true))/\OldK s₁.heap s'.heap/\s'.os=s₁.os/\AllBare s'.gens) s₁:=by
 have rv:=mP hi
 have lenV:=hi.length
 have haP:a≠Pt:=λz=>by rw[z,hTab]at ha; cases ha
 have core : ∀ H:Hp,mI Pt H->ax K H a (ns.map V.int)->aT P w H s₁.heap->(∀ b,H b≠none->b=a\/b=Pt)->(H a≠none->K.lookup a=none) ->
  codeAny (model P w) callerA (.call (.ref fa) ⟨[.ref a],[]⟩) (λr s'=>r=.ok (.ret (.bool true))/\OldK s₁.heap s'.heap/\s'.os=s₁.os/\AllBare s'.gens) s₁:=by
  intro H hO hS hok hA hK
  have base_of : ∀ {b:Addr} {o:Obj},s₁.heap.get? b=some o->H b=none->(cU s₁.heap H).get? b=some o:=λe n=>vx e n
  have noA : ∀ {b:Addr} {o:Obj},s₁.heap.get? b=some o->(∀ z n,o.data ≠ .seq z n)->(∀ z,o.data ≠ .fields z)->H b=none:=λ{b o} e d1 d2=>by
   cases q:H b with
   | none=>rfl
   | some u =>
    rcases hA b (by rw[q]; simp) with e' | e'
    ·subst e'
     rw[ha]at e; cases e
     exact (d1 _ _ rfl).elim
    ·subst e'
     rw[hTab]at e; cases e
     exact (d2 _ rfl).elim
  have nsK : ∀ {b:Addr} {m:Str->Option Value},s₁.heap.Ns b m->(cU s₁.heap H).Ns b m:=λ{b m} ⟨o,es,ep,e,d,r⟩=>⟨o,es,ep,base_of e (noA e (λz n q=>by rw[d]at q; cases q) (λz q=>by rw[d]at q; cases q)),d,r⟩
  have hKb:K.In (cU s₁.heap H):=λb o e=>base_of (KX b o e) (by
   cases q:H b with
   | none=>rfl
   | some u =>
    rcases hA b (by rw[q]; simp) with e' | e'
    ·subst e'
     rw[hK (by rw[q]; simp)]at e; cases e
    ·subst e'
     rw[hKP]at e; cases e)
  have hM:Mod K mg (cU s₁.heap H):=⟨hKb,nsK hns,⟨mb,nsK hb,hbb⟩,let ⟨mc,h1,h2⟩:=hlim; ⟨mc,nsK h1,h2⟩⟩
  have hB:(cU s₁.heap H).BuiltinsAt mg Pt:=by
   obtain⟨bm,o,b1,b2,b3,b4,b5,b6,b7,b8⟩:=hbm
   exact⟨bm,o,b1,b2,b3,b4,base_of b5 (noA b5 (λz n q=>by rw[b8]at q; cases q) (λz q=>by rw[b8]at q; cases q)),b6,b7,b8⟩
  have e0:dM P w K mg (cU s₁.heap H) callerA [] s₁ H:=⟨rfl,hM,λb o e=>uB e,Nat.le_of_eq (vw _ _),trivial,λb hb=>absurd (show b∈([]:List Addr) from hb) (by simp),hok,.of_eq hg⟩
  refine codeAny_mono ((F _ hKb (nsK hns) hB).run callerA [] s₁ H ⟨[.ref a],[]⟩ [.ref a] [.ref a] _ _ hr e0 (hbind s₁ (.ref a)) (.cons rfl .nil) (hsp H hO hS)) λr s' h=>?_
  cases r with
  | error e=>exact (hCX H e s' h).elim
  | ok fl =>
   cases fl with
   | next=>exact False.elim h
   | brk=>exact False.elim h
   | cont=>exact False.elim h
   | ret u =>
    obtain⟨v,H',os,bare,un,hok',r',q⟩:=h
    have q':v=.bl true:=q
    subst q'
    obtain rfl:u=Value.bool true:=r'
    have C:=W.codeHd_of_K KX hcd
    refine⟨rfl,⟨λb o e=>?_,λb o e=>un.there b o e (by simp)⟩,os,bare⟩
    by_cases hb:b=Pt
    ·subst hb
     rw[hTab]at e; cases e
     obtain⟨more,e2⟩:=un.tbls b #[] hO.1
     have e3:=hok' b _ e2
     exact .inr (.inl ⟨(C.tab hTab).isCodeTable,rfl,#[],more,rfl,e3⟩)
    ·refine .inl ?_
     cases q:H b with
     | none=>exact un.keep b o e q (by intro z; exact absurd (show b∈([]:List Addr) from z) (by simp)) (by simp)
     | some u =>
      rcases hO.2 b hb with z | ⟨ob,xs,z⟩
      ·rw[q]at z; cases z
      ·have z2:=un.frzs b ob _ z
       obtain⟨e1,_⟩:=hok b _ z
       obtain⟨e2,_⟩:=hok' b _ z2
       rw[e]at e1; cases e1
       exact e2
 have tabOk : ∀ H:Hp,aO P w H s₁.heap Pt (.tbl #[]):=λH=>hTab
 cases hk:K.lookup a with
 | some o =>
  have e:=KX a o hk
  rw[ha]at e
  cases e
  refine core (λb=>if b=Pt then some (.tbl #[]) else none) ⟨if_pos rfl,λb hb=>.inl (if_neg hb)⟩ (.inr ⟨_,vs.toArray,_,hk,rfl,rfl,rfl,by rw[List.size_toArray,lenV]; exact hl,by simpa using rv⟩) (λb u z=>?_) (λb z=>?_) λz=>absurd (if_neg haP) z
  ·by_cases hb:b=Pt
   ·have z':=(if_pos hb).symm.trans z
    cases z'
    subst hb
    exact hTab
   ·have z':=(if_neg hb).symm.trans z
    cases z'
  ·by_cases hb:b=Pt
   ·exact .inr hb
   ·exact absurd (if_neg hb) z
 | none =>
  refine core (λb=>if b=Pt then some (.tbl #[]) else if b=a then some (.frz { cls:=.type "list",data:=.seq vs.toArray } (.lst (ns.map V.int))) else none) ⟨if_pos rfl,λb hb=>?_⟩ (.inl (.inr ⟨{ cls:=.type "list",data:=.seq vs.toArray },(if_neg haP).trans (if_pos rfl)⟩)) (λb u z=>?_) (λb z=>?_) λ_=>hk
  ·dsimp only
   rw[if_neg hb]
   by_cases hb:b=a
   ·exact .inr ⟨_,_,if_pos hb⟩
   ·exact .inl (if_neg hb)
  ·by_cases hp:b=Pt
   ·have z':=(if_pos hp).symm.trans z
    cases z'
    subst hp
    exact hTab
   ·have z:=(if_neg hp).symm.trans z
    by_cases hb:b=a
    ·have z':=(if_pos hb).symm.trans z
     cases z'
     subst hb
     exact⟨ha,by rw[List.length_map]; exact hl,vs,_,rv,ha⟩
    ·have z':=(if_neg hb).symm.trans z
     cases z'
  ·by_cases hp:b=Pt
   ·exact .inr hp
   ·by_cases hb:b=a
    ·exact .inl hb
    ·exact absurd ((if_neg hp).trans (if_neg hb)) z
theorem walk_ofT{l:W.OpenLaw}{n k:Nat}{q:Program}{loose:List Str}{XP:(Str->Option Value)->Heap->Prop}{YP:World->Heap->Prop}{d:DefRec}{K:Params->W.Frag}{CX:World->du}{sp:World->Sp}{x:Str}{Pt c:Addr}
 (hn:l.most=some n) (hn2:n<=sizeLine) (hdf:d.params.defaults=[]) (hr:aS k callerA)
 (hY : ∀ (w:World) (h:Heap),YP w h->(K w.params).In h/\h.get? Pt=some (W.tabObj #[]))
 (hKP : ∀ w:World,(K w.params).lookup Pt=none) (hcd : ∀ w:World,W.codeHdIn (K w.params) c Pt=true)
 (F : ∀ (w:World) (mg:Str->Option Value) (fa:Addr) (h:Heap),(K w.params).In h->h.Ns mainGlobals mg->mg d.name=some (.ref fa) ->
   ∃ fd:FuncData,(∀ (s:Shared) (u:Value),BindsTo s fd ⟨[u],[]⟩ [(x,u)]) /\
    ∀ base:Heap,(K w.params).In base->base.Ns mainGlobals mg->base.BuiltinsAt mg Pt->bt l.prog w (K w.params) mg base (CX w) k fa fd [x] (sp w))
 (hsp : ∀ (w:World) (H:Hp) (a:Addr) (ns:List Int),ns.length<=n->mI Pt H->ax (K w.params) H a (ns.map V.int)->sp w [.ref a] H (λv _=>v=.bl true) λ_ _ _=>False)
 (hCX : ∀ (w:World) (H:Hp) (s:Shared) (e:Value) (s':Shared),CX w [] H s (λ_ _ _=>False) e s'->False) :
 W.WalkO q loose XP YP l.row.toRowW d [] (λf vs=>PySem.call f vs):=by
 refine Att.attach_call hn hdf λw s₀ s₁ mg mb fa o pm cd doc a vs ns G Y ho hd hcd' hmg hobj hints hlen hg=>?_
 obtain⟨KX,hTab⟩:=hY w _ Y
 obtain⟨fd,hb,hF⟩:=F w mg fa _ KX G.T.g hmg
 have hbm:s₁.heap.BuiltinsAt mg Pt:=by
  obtain⟨bm,ob,b1,b2,b3,b4,b5,b6⟩:=G.T.bmain
  have hbP:bm≠Pt:=λq=>by
   rw[q,hTab]at b3; cases b3; cases b4
  have hbG:bm≠mainGlobals:=λq=>by
   obtain⟨o,es,ep,e,hd,_⟩:=G.T.g
   rw[q,e]at b3; cases b3; rw[hd]at b6; cases b6
  exact⟨bm,ob,b1,b2,hbG,hbP,b3,b4,b5,b6⟩
 exact C0 KX G.T.g G.T.b G.T.builtins G.T.nolimit hg (hKP w) hTab (hcd w) hbm hobj hints (Nat.le_trans hlen hn2) hr hF hb (λH hO hS=>hsp w H a ns hlen hO hS) λH e s'=>hCX w H s₁ e s'
def mi(P:Program)(w:World)(K:W.Frag)(mg:Str->Option Value)(base:Heap)(x y:Str)(qual:Str)(scope:Scope)(f c0:Addr)(cd:Value)(A:Around)(outer:List Env)(s:Shared)(H:Hp):Cx where
 prog:=P
 w:=w
 K:=K
 mg:=mg
 base:=base
 A:=A.deeper (W.envX qual scope s.heap.objs.size f cd [(y,c0)])
 N:=[x,y]
 s₀:=s
 H₀:=H
 env:=W.envX qual scope s.heap.objs.size f cd [(y,c0)]
 outer:=outer
 stack:=W.envX qual scope s.heap.objs.size f cd [(y,c0)] :: outer
 ex:=[]
 calm:=true
 fn:=λ_=>false
 pn:=[]
 xe:=λ_ _=>False
structure wY (x y:Str) (sc:Scope):Prop where
 kind:sc.kind=.function
 co:sc.isCoroutine=false
 gen:sc.isGenerator=false
 ne:x≠y
 hx:sc.names.lookup x=some .local
 hy:sc.names.lookup y=some .free
 nocell : ∀ z∈sc.names,z.2 ≠ .cell
 only : ∀ z∈sc.names,z.2=.free->z.1=y
theorem C2{P:Program}{w:World}{K:W.Frag}{mg:Str->Option Value}{base:Heap}{A:Around}{outer:List Env}{s:Shared}{H:Hp}{f c' c0:Addr}{name qual x y:Str}{params:Arguments}{body:Expr}{scope:Scope}{pm ctv:Value}{v vy:V}{u uy:Value}{t:TE}{Q:VK}{k:Nat}
 (hr:aS (k+1) A) (e0:dM P w K mg base A outer s H) (S:wY x y scope)
 (hf:s.heap.get? f=some (W.kla_obj name qual params body scope [(y,c0)] pm c' ctv)) (hcd:s.heap.CodeRec (.ref c') qual)
 (hc0:s.heap.IsCell c0 (some uy)) (hH0:H c0=none) (rvy:aq vy uy) (rv:aq v u)
 (hb:bindArgs (W.kla_fn name qual params body scope [(y,c0)] pm (.ref c') ctv) ⟨[u],[]⟩=pure [(x,u)])
 (ht:QE (mi P w K mg base x y qual scope f c0 (.ref c') A outer s H) body t) (q:t [some v,some vy] H Q) :
 codeAny (model P w) A (.call (.ref f) ⟨[u],[]⟩) (CR bI outer P w H s Q E0) s:=by
 have lim:s.heap.NoLimit:=e0.mod.nolimit.keeps λb o e=>(e0.bs b o e).1
 refine W.kla_callFunE hr.depth hf rfl S.co S.gen rfl hcd ?_
 rw[hb]
 refine wpAny_pure (wpAny_newFunctionEnv S.nocell (λz hz=>by rw[List.mem_singleton.mp hz]; exact S.hx) (λh₁ hns hsb=>⟨lim.fresh _ hsb,?_⟩) S.kind)
 show codeAny _ _ (.expr body (W.envX qual scope s.heap.objs.size f (.ref c') [(y,c0)])) _ _
 have hk₁ : ∀ b o,s.heap.get? b=some o->h₁.get? b=some o:=λb o e=>hsb.extBut b o (Nat.ne_of_lt (Heap.lt_size e)) (Heap.get?_push_of_some _ e)
 have noA : ∀ b:Addr,b∉(mi P w K mg base x y qual scope f c0 (.ref c') A outer s H).ex:=λb z=>absurd (show b∈([]:List Addr) from z) (by simp)
 have cl1 : ∀ (z:Str) (c:Addr),([(y,c0)]:List (Str × Addr)).lookup z=some c->z=y/\c=c0:=λz c h=>by
  rw[List.lookup_cons]at h
  split at h
  ·rename_i e
   cases h
   exact⟨eq_of_beq e,rfl⟩
  ·cases h
 have yl:([(y,c0)]:List (Str × Addr)).lookup y=some c0:=by rw[List.lookup_cons]; simp
 have I:ad (mi P w K mg base x y qual scope f c0 (.ref c') A outer s H) [] [some v,some vy] H { s with heap:=h₁,toks:=s.toks+[(x,u)].length }:=by
  refine⟨⟨e0.mod,S.kind,rfl,rfl,Nat.le_refl _,λy' z c h1 h2=>?_,λy' hy'=>?_,λy' c hc h=>(nomatch hc),λ_=>hr.hd,Around.frames_deeper e0.frames,.inr ⟨rfl,rfl⟩,λb z=>absurd z (noA b),e0.bs,e0.bsz,λb _ _=>noA b,λb z=>absurd z (noA b),e0.funs,e0.frf⟩,
   rfl,e0.bare,Un.kept hk₁,⟨_,hns,λi y' v' h1 h2 h3=>?_⟩,λy' c h=>?_,e0.hok.fresh (Nat.le_refl _),λy' c h=>?_,λp hp=>absurd (show p∈([]:List (Addr × Obj)) from hp) (by simp),e0.hok.kept hk₁,rfl⟩
  ·exact (cl1 _ _ h1).1.trans (cl1 _ _ h2).1.symm
  ·have hy':scope.names.lookup y'=some .cell\/scope.names.lookup y'=some .free:=hy'
   rcases hy' with hy' | hy'
   ·exact absurd rfl (S.nocell _ (PySem.mem_of_lookup hy'))
   ·have e:=S.only _ (PySem.mem_of_lookup hy') rfl
    exact⟨c0,by have e:y'=y:=e; rw[e]; exact yl⟩
  ·match i with
   | 0 =>
    have e1:x=y':=Option.some.inj h1
    have e2:v=v':=Option.some.inj (Option.some.inj h2)
    subst e1; subst e2
    exact⟨u,rv,.inl ⟨S.hx,by show List.lookup x [(x,u)]=_; rw[List.lookup_cons]; simp⟩⟩
   | 1 =>
    have e1:y=y':=Option.some.inj h1
    have e2:vy=v':=Option.some.inj (Option.some.inj h2)
    subst e1; subst e2
    exact⟨uy,rvy,.inr ⟨.inr S.hy,c0,yl,hc0.keeps hk₁⟩⟩
   | i+2=>exact nomatch h1
  ·obtain⟨_,rfl⟩:=cl1 _ _ h
   exact⟨_,hc0.keeps hk₁⟩
  ·obtain⟨_,rfl⟩:=cl1 _ _ h
   exact hH0
 refine W.kla_codeExpr (wpAny_mono (ht.h [] _ _ H _ I q) (λz s' hs=>?_) λe s' hs=>False.elim hs)
 obtain⟨v',H',J,rv',q'⟩:=hs
 exact⟨v',H',J.os,J.bare,J.base,J.hok,rv',q'⟩
def cB(a:Addr)(o:Obj):HO:=.ext λh=>h.get? a=some o
theorem cB.mk{P:Program}{w:World}{H:Hp}{h:Heap}{a:Addr}{o:Obj}(e:h.get? a=some o):aO P w H h a (cB a o):=⟨e,⟨o,e⟩,λ_ _ p k=>k _ p⟩
theorem cB.at{P:Program}{w:World}{H:Hp}{h:Heap}{a:Addr}{o:Obj}(x:aT P w H h)(e:H a=some (cB a o)):h.get? a=some o:=(x a _ e).1
structure kD (H:Hp) (c:Addr) (qual:Str):Prop where
 ex : ∃ oc vs t,H c=some (cB c oc)/\oc.data=.fields vs/\vs[1]? = some (.str qual t)
def di(H:Hp)(Pt:Addr)(qual:Str)(pos:Pos):Prop :=
 H Pt=some (.tbl #[])\/∃ c',H Pt=some (.tbl #[rawInt pos.line,rawInt pos.col,.ref c'])/\kD H c' qual
theorem di.tbl{H:Hp}{Pt:Addr}{qual:Str}{pos:Pos}(h:di H Pt qual pos) : ∃ ps,H Pt=some (.tbl ps):=by
 rcases h with h | ⟨_,h,_⟩
 ·exact⟨_,h⟩
 ·exact⟨_,h⟩
theorem kD.cd{P:Program}{w:World}{H:Hp}{h:Heap}{c:Addr}{qual:Str}(x:aT P w H h)(e:kD H c qual):h.CodeRec (.ref c) qual:=by
 obtain⟨oc,vs,t,e,d,v⟩:=e
 exact⟨c,oc,vs,t,rfl,cB.at x e,d,v⟩
theorem Co{X:Cx}{pins:List (Addr × Obj)}{σ:St}{H:Hp}{s:Shared}{c Pt:Addr}{params:Arguments}{body:Expr}{scope:Scope}{pos:Pos}{clos:List (Str × Addr)}{Q:Value->Shared->Prop}{E:Value->Shared->Prop}{M:Model}{A:Around}
 (I:ad X pins σ H s) (hdef:defaultsOf params X.env=([],[])) (hcl:closureFor scope X.env=pure clos) (hcode:X.env.code=.ref c) (hhd:W.codeHdIn X.K c Pt=true) (hb:X.base.BuiltinsAt X.mg Pt)
 (hT:di H Pt (X.env.qual ++ "<lambda>") pos)
 (h : ∀ (f c':Addr) (ctv:Value) (H':Hp) (s':Shared),H f=none->H' f=some (cB f (W.kla_obj "<lambda>" (X.env.qual ++ "<lambda>") params body scope clos ((X.mg "__name__").getD .none) c' ctv)) ->
   H' Pt=some (.tbl #[rawInt pos.line,rawInt pos.col,.ref c'])->kD H' c' (X.env.qual ++ "<lambda>")->(∀ b o,b≠Pt->H b=some o->H' b=some o)->ad X pins σ H' s'->Q (.ref f) s') :
 wpAny M A (eval (.Lambda params body scope pos) X.env) Q E s:=by
 have C:=W.codeHd_of_K I.kIn hhd
 have hbs:=hb.keeps I.bk
 have hg:s.heap.Ns mainGlobals X.mg:=by
  obtain⟨o,es,ep,e,r⟩:=I.ok.mod.glob
  exact⟨o,es,ep,I.bk _ _ e,r⟩
 refine W.kla_eval hdef ?_
 rcases hT with hT | ⟨c',hT,hco⟩
 ·have hP:s.heap.get? Pt=some (W.tabObj #[]):=I.hok Pt _ hT
  have hgP:mainGlobals≠Pt:=λq=>by
   obtain⟨o,es,ep,e,d,_⟩:=hg
   rw[q,hP]at e; cases e; cases d
  refine W.kla_makeFunction (mg:=X.mg) hcl I.ok.glob hg hcode C hP trivial rfl hgP hbs λc' ctv h' tk hx hge hlt hrec htb=>?_
  obtain⟨c₂,oc,vs,tq,e2,hoc,hdc,hvc⟩:=hrec
  cases e2
  generalize hfo:W.kla_obj "<lambda>" (X.env.qual ++ "<lambda>") params body scope clos ((X.mg "__name__").getD .none) c' ctv=fo
  have hfr:fo.isFreed=false:=by rw[<- hfo]; rfl
  have hPs:Pt < s.heap.objs.size:=Heap.lt_size hP
  have hPc:Pt≠c':=Nat.ne_of_lt (Nat.lt_of_lt_of_le hPs hge)
  have hcf:c'≠h'.objs.size:=Nat.ne_of_lt hlt
  have hPf:Pt≠h'.objs.size:=Nat.ne_of_lt (Nat.lt_trans (Nat.lt_of_lt_of_le hPs hge) hlt)
  have nc:H c'=none:=I.hok.fresh hge
  have nf:H h'.objs.size=none:=I.hok.fresh (Nat.le_trans hge (Nat.le_of_lt hlt))
  have old : ∀ b o,b≠Pt->s.heap.get? b=some o->(h'.push fo).get? b=some o:=λb o hb e=>Heap.get?_push_of_some _ (hx b o hb e)
  have eP:(h'.push fo).get? Pt=some (W.tabObj #[rawInt pos.line,rawInt pos.col,.ref c']):=by
   have:=Heap.get?_push_of_some fo htb
   simpa using this
  let H3:Hp:=upd (upd (upd H Pt (.tbl #[rawInt pos.line,rawInt pos.col,.ref c'])) c' (cB c' oc)) h'.objs.size (cB h'.objs.size fo)
  have h3o : ∀ b,b≠Pt->b≠c'->b≠h'.objs.size->H3 b=H b:=λb h1 h2 h3=>by
   show upd (upd (upd H Pt _) c' _) h'.objs.size _ b=_
   rw[ak h3,ak h2,ak h1]
  have h3P:H3 Pt=some (.tbl #[rawInt pos.line,rawInt pos.col,.ref c']):=by
   show upd (upd (upd H Pt _) c' _) h'.objs.size _ Pt=_
   rw[ak hPf,ak hPc,aN]
  have h3c:H3 c'=some (cB c' oc):=by
   show upd (upd (upd H Pt _) c' _) h'.objs.size _ c'=_
   rw[ak hcf,aN]
  have h3f:H3 h'.objs.size=some (cB h'.objs.size fo):=aN
  have h3s : ∀ b o,b≠Pt->H b=some o->H3 b=some o:=λb o hb e=>by
   rw[h3o b hb (λz=>by rw[z,nc]at e; cases e) (λz=>by rw[z,nf]at e; cases e)]
   exact e
  refine h _ c' ctv H3 _ nf (by rw[hfo]; exact h3f) h3P ⟨oc,vs,tq,h3c,hdc,hvc⟩ h3s ?_
  refine I.un (H':=H3) (h':=h'.push fo) (t':=tk) ⟨λb o e n _ _=>old b o (λz=>by rw[z,hT]at n; cases n) e,λb o e n _ _=>⟨o.slots,old b o (λz=>by rw[z,hT]at n; cases n) e⟩,λb o e n _=>?_,λb o e _=>?_,λb xs e=>h3s b _ (λz=>by rw[z,hT]at e; cases e) e,λb o u e=>h3s b _ (λz=>by rw[z,hT]at e; cases e) e,λb ps e=>?_⟩ λb u e=>?_
  ·have l:b < s.heap.objs.size:=Heap.lt_size e
   rw[h3o b (λz=>by rw[z,hT]at n; cases n) (Nat.ne_of_lt (Nat.lt_of_lt_of_le l hge)) (Nat.ne_of_lt (Nat.lt_trans (Nat.lt_of_lt_of_le l hge) hlt))]
   exact n
  ·by_cases hb':b=Pt
   ·exact⟨_,hb' ▸ eP⟩
   ·exact⟨o,old b o hb' e⟩
  ·by_cases hb':b=Pt
   ·rw[hb',hT]at e; cases e
    exact⟨#[rawInt pos.line,rawInt pos.col,.ref c'],by rw[hb',h3P]; simp⟩
   ·exact⟨#[],by rw[h3s b _ hb' e]; simp⟩
  ·by_cases h1:b=h'.objs.size
   ·rw[h1,h3f]at e; cases e
    rw[h1]
    exact cB.mk (Heap.get?_push_size _ hfr)
   ·by_cases h2:b=c'
    ·rw[h2,h3c]at e; cases e
     rw[h2]
     exact cB.mk (Heap.get?_push_of_some _ hoc)
    ·by_cases h4:b=Pt
     ·rw[h4,h3P]at e; cases e
      rw[h4]
      exact eP
     ·rw[h3o b h4 h2 h1]at e
      refine (I.hok b u e).stay (λa o ha q=>old a o (λz=>?_) q) (λa q=>h3s a _ (λz=>by rw[z,hT]at q; cases q) q) λa xs q=>h3s a _ (λz=>by rw[z,hT]at q; cases q) q
      rcases ha with ha | ha
      ·exact h4 (ha.symm.trans z)
      ·rw[z,hT]at ha; cases ha
 ·have hP:s.heap.get? Pt=some (W.tabObj #[rawInt pos.line,rawInt pos.col,.ref c']):=I.hok Pt _ hT
  have hf:codeAmong pos (#[rawInt pos.line,rawInt pos.col,Value.ref c']:Array Value).toList=some (.ref c'):=by
   show codeAmong pos [rawInt pos.line,rawInt pos.col,.ref c']=_
   simp[codeAmong,rawInt]
  refine W.kla_makeFunctionHit (mg:=X.mg) hcl I.ok.glob hg hcode C hP trivial hf hbs λctv h' tk hk hsz=>?_
  generalize hfo:({ cls:=.type "function",data:=.func (W.kla_fn "<lambda>" (X.env.qual ++ "<lambda>") params body scope clos ((X.mg "__name__").getD .none) (.ref c') ctv) }:Obj)=fo
  have hfr:fo.isFreed=false:=by rw[<- hfo]; rfl
  have nf:H h'.objs.size=none:=I.hok.fresh hsz
  have hk' : ∀ b o,s.heap.get? b=some o->(h'.push fo).get? b=some o:=λb o e=>Heap.get?_push_of_some _ (hk b o e)
  have h3s : ∀ b o,H b=some o->upd H h'.objs.size (cB h'.objs.size fo) b=some o:=λb o e=>by
   rw[ak (λz=>by rw[z,nf]at e; cases e)]
   exact e
  refine h _ c' ctv (upd H h'.objs.size (cB h'.objs.size fo)) _ nf (by rw[aN,<- hfo]) (h3s _ _ hT) ?_ (λb o _ e=>h3s b o e) (I.laid (a:=h'.objs.size) (o:=cB h'.objs.size fo) (t':=tk) hk' hsz (cB.mk (Heap.get?_push_size _ hfr)))
  obtain⟨oc,vs,t,e,d,v⟩:=hco
  exact⟨oc,vs,t,h3s _ _ e,d,v⟩
structure cN (X:Cx) (pins:List (Addr × Obj)) (H:Hp) (a:Addr):Prop where
 no:H a=none
 loc:a≠X.env.locals
 fs:a∉X.fs
 new:X.s₀.heap.objs.size<=a
 cell : ∀ x c,X.env.cells.lookup x=some c->c≠a
 pin : ∀ p∈X.pn++pins,p.1≠a
section
variable {X:Cx}{pins:List (Addr × Obj)}{σ:St}{H:Hp}{s:Shared}
theorem cN.fresh(I:ad X pins σ H s){a:Addr}(h:s.heap.objs.size<=a):cN X pins H a :=
 ⟨I.hok.fresh h,λz=>absurd (Nat.lt_of_lt_of_le I.lt h) (by rw[z]; exact Nat.lt_irrefl _),I.nofs h,Nat.le_trans I.sz h,
  λx c e z=>by
   obtain⟨v,o,ho,_⟩:=I.cell x c e
   exact absurd (Nat.lt_of_lt_of_le (Heap.lt_size ho) h) (by rw[z]; exact Nat.lt_irrefl _),
  λp hp z=>by
   have ho:=(I.pin p hp).1
   exact absurd (Nat.lt_of_lt_of_le (Heap.lt_size ho) h) (by rw[z]; exact Nat.lt_irrefl _)⟩
theorem cN.turned{a:Addr}{h':Heap}{t':Nat}(o:cN X pins H a)(I:ad X pins σ H s)(k : ∀ b u,b≠a->s.heap.get? b=some u->h'.get? b=some u):ad X pins σ H { s with heap:=h',toks:=t' } :=
 I.turned k o.no o.loc (.inr o.new) o.cell o.pin
structure fL (X:Cx) (pins:List (Addr × Obj)) (σ:St) (H:Hp) (it S d:Addr) (n ep j:Nat) (arr:Array Value) (s:Shared):Prop where
 inv:ad X pins σ H s
 seq : ∃ c,s.heap.get? S=some (seqObj "list" arr c)
 iter:s.heap.IsKeyIter it d j n ep
theorem fL.call{it S d:Addr}{n ep j:Nat}{arr:Array Value}(m:fL X pins σ H it S d n ep j arr s)(oS:cN X pins H S)(oI:cN X pins H it){M:Model}{A:Around}{tree:Sem Value}{q:Value->Prop}{Q:Value->Shared->Prop}{E:Value->Shared->Prop}
 (turn : ∀ pins' s',ad X pins' σ H s'->wpAny M A tree (λu s2=>ad X pins' σ H s2/\q u) (λ_ _=>False) s')
 (h : ∀ u s2,fL X pins σ H it S d n ep j arr s2->q u->Q u s2):wpAny M A tree Q E s:=by
 obtain⟨I,⟨c,eS⟩,ki⟩:=m
 obtain⟨o,e1,e2,e3⟩:=ki
 have I':ad X ((S,seqObj "list" arr c) :: (it,o) :: pins) σ H s:=I.pins_of λp hp=>by
  rcases List.mem_cons.mp hp with z | hp
  ·subst z
   exact⟨eS,oS.no,oS.loc,oS.fs,λv z=>by cases z⟩
  ·rcases List.mem_cons.mp hp with z | hp
   ·subst z
    exact⟨e1,oI.no,oI.loc,oI.fs,λv z=>by have z':o.data=.cell v:=z; rw[e3]at z'; cases z'⟩
   ·exact I.pin p (List.mem_append_right _ hp)
 refine wpAny_mono (turn _ s I') (λu s2 hu=>?_) λ_ _ f=>f.elim
 obtain⟨J,hq⟩:=hu
 have pS:=(J.pin (S,seqObj "list" arr c) (List.mem_append_right _ (.head _))).1
 have pI:=(J.pin (it,o) (List.mem_append_right _ (.tail _ (.head _)))).1
 exact h u s2 ⟨J.pins_of λp hp=>J.pin p (List.mem_append_right _ (.tail _ (.tail _ hp))),⟨c,pS⟩,⟨o,pI,e2,e3⟩⟩ hq
theorem fL.write{it S d:Addr}{n ep j:Nat}{arr:Array Value}(arr':Array Value)(m:fL X pins σ H it S d n ep j arr s)(oS:cN X pins H S)(hSI:S≠it){t':Nat} :
 fL X pins σ H it S d n ep j arr' { s with heap:=s.heap.update S (Obj.mapSeq λ_=>arr'),toks:=t' }:=by
 obtain⟨I,⟨c,eS⟩,ki⟩:=m
 have s1:=Heap.SameBut.update s.heap S (Obj.mapSeq λ_=>arr')
 obtain⟨o,e1,e2,e3⟩:=ki
 exact⟨oS.turned I λb u hb e=>(s1.2 b hb).trans e,⟨_,get?_update_seq eS λ_=>arr'⟩,⟨o,(s1.2 it hSI.symm).trans e1,e2,e3⟩⟩
variable {d it S f:Addr}{xs:List (ab × Addr × Value)}{ep:Nat}{kvs:List (ab × Addr × V)}{R:Result->Shared->Prop}
theorem CK(kn:KP kvs xs)(hd:H d=some (dN d xs ep))(kf:Nat->Int)(hh:X.A.handled=none)(oS:cN X pins H S)(oI:cN X pins H it)(hSI:S≠it)
 (turn : ∀ (i:Nat) k b v,kvs[i]? = some (k,b,v)->∀ pins' s',ad X pins' σ H s'->wpAny (model X.prog X.w) X.A.in1 (call (.ref f) [.ref b]) (λu s2=>ad X pins' σ H s2/\∃ t,u=.int (kf i) t) (λ_ _=>False) s')
 (hR : ∀ i k b v s',kvs[i]? = some (k,b,v)->(∀ j,j < kvs.length->kf i>=kf j/\(j < i->kf i > kf j))->ad X pins σ H s'->R (.ok (.ret (.ref b))) s') :
 ∀ (r j i:Nat) (s:Shared) (b:Addr) (tb:Tok) (k:ab) (v:V),kvs.length - (j+1)=r->j+1<=kvs.length->fL X pins σ H it S d (xs.map bP).toArray.size ep (j+1) #[.ref b,.int (kf i) tb] s->kvs[i]? = some (k,b,v)->i<=j ->
  (∀ j',j'<=j->kf i>=kf j'/\(j' < i->kf i > kf j'))->codeAny (model X.prog X.w) X.A (.builtin "max.loop" ⟨[.ref it,.ref f,.ref S],[]⟩) R s:=by
 have hname:(toString "max"++toString ".loop" : String) = "max.loop":=by decide
 have hl:=Paired.length kn
 have hsz:(xs.map bP).toArray.size=kvs.length:=by rw[List.size_toArray,List.length_map,hl]
 intro r
 induction r with
 | zero =>
  intro j i s b tb k v hr hj m hb hij hbest
  have hin:j+1=kvs.length:=by omega
  obtain⟨I,⟨c,eS⟩,ki⟩:=m
  obtain⟨raw,_⟩:=I.hok d _ hd
  refine codeAny_builtin PySem.F.entry_max_loop ?_
  rw[Around.under_plainId PySem.F.plain_max_loop _]
  show wpAny _ X.A.in1 (seqItems? (.ref S) >>= _) _ _ _
  refine wpAny_bind (wpAny_seqItems eS rfl ?_)
  show wpAny _ X.A.in1 (tryCatch (pyNext (.ref it)) _ >>= _) _ _ _
  refine wpAny_bind (wpAny_tryCatch (nC (A:=X.A.in1) hh ki raw (by rw[hsz]; omega) λh' hx=>?_))
  have I1:ad X pins σ H { s with heap:=h' }:=oI.turned (t':=s.toks) I λb u hb e=>hx b u hb e
  have eS1:h'.get? S=some (seqObj "list" #[.ref b,.int (kf i) tb] c):=hx S _ hSI eS
  show wpAny _ X.A.in1 (updateSeq S (λ_=>#[]) >>= _) _ _ _
  refine wpAny_bind ?_
  refine wpAny_updateSeq eS1 rfl (wpAny_bind (wpAny_letGo (wpAny_pure ?_)))
  have s1:=Heap.SameBut.update h' S (Obj.mapSeq λ_=>(#[]:Array Value))
  exact hR i k b v _ hb (λj' hj'=>hbest j' (by omega)) (oS.turned I1 λb u hb e=>(s1.2 b hb).trans e)
 | succ r ih =>
  intro j i s b tb k v hr hj m hb hij hbest
  have hlt:j+1 < kvs.length:=by omega
  obtain⟨I,⟨c,eS⟩,ki⟩:=m
  obtain⟨raw,_⟩:=I.hok d _ hd
  obtain⟨⟨k1,b1,v1⟩,hkv⟩ : ∃ y,kvs[j+1]? = some y:=⟨_,List.getElem?_eq_getElem hlt⟩
  obtain⟨⟨k2,b2,u2⟩,hxs⟩ : ∃ y,xs[j+1]? = some y:=⟨_,List.getElem?_eq_getElem (by omega)⟩
  obtain⟨_,z2,_⟩:=jX kn hkv hxs
  have z2':b1=b2:=z2
  subst z2'
  refine codeAny_builtin PySem.F.entry_max_loop ?_
  rw[Around.under_plainId PySem.F.plain_max_loop _]
  show wpAny _ X.A.in1 (seqItems? (.ref S) >>= _) _ _ _
  refine wpAny_bind (wpAny_seqItems eS rfl ?_)
  show wpAny _ X.A.in1 (tryCatch (pyNext (.ref it)) _ >>= _) _ _ _
  refine wpAny_bind (wpAny_tryCatch (kU (e:=bP (k2,b1,u2)) ki raw (by rw[List.getElem?_toArray,List.getElem?_map,hxs]; rfl) λh' ki' sb=>?_))
  have m1:fL X pins σ H it S d (xs.map bP).toArray.size ep (j+1+1) #[.ref b,.int (kf i) tb] { s with heap:=h' }:=⟨oI.turned (t':=s.toks) I λb u hb e=>(sb.2 b hb).trans e,⟨c,(sb.2 S hSI).trans eS⟩,ki'⟩
  show wpAny _ X.A.in1 (tryCatch (holding [.ref b1] (call (.ref f) [.ref b1])) _ >>= _) _ _ _
  refine wpAny_bind (wpAny_tryCatch (wpAny_holding (m1.call oS oI (turn (j+1) k1 b1 v1 hkv) λu s2 m2 hu=>?_)))
  obtain⟨t2,rfl⟩:=hu
  show wpAny _ X.A.in1 (tryCatch (holding [.ref b1,.int (kf (j+1)) t2] (richCompare .Gt (.int (kf (j+1)) t2) (.int (kf i) tb) >>= _)) _ >>= _) _ _ _
  refine wpAny_bind (wpAny_tryCatch (wpAny_holding (wpAny_bind (CmpOf.ints_gt (prog:=X.prog) (w:=X.w) (A:=X.A.in1) (P:=λi v=>∃ t,v=.int (kf i) t) kf (λi v h=>h) (j+1) i _ _ _ _ _ ⟨t2,rfl⟩ ⟨tb,rfl⟩ ?_))))
  refine wpAny_bind (wpAny_holding (wpAny_truthy_bool ?_))
  refine wpAny_bind (wpAny_letGo (wpAny_pure ?_))
  by_cases hb':kf (j+1) > kf i
  ·simp only [hb',decide_true,if_true]
   obtain⟨c2,eS2⟩:=m2.seq
   refine wpAny_bind ?_
   refine wpAny_updateSeq eS2 rfl (wpAny_bind (wpAny_letGo ?_))
   rw[hname]
   refine wpAny_pure ⟨plainId_quiet PySem.F.plain_max_loop _,ih (j+1) (j+1) _ b1 t2 k1 v1 (by omega) hlt (m2.write _ oS hSI) hkv (Nat.le_refl _) λj' hj'=>?_⟩
   by_cases e:j'=j+1
   ·subst e
    exact⟨by omega,λ_=>by omega⟩
   ·have hb1:=hbest j' (by omega)
    have hb2:=hb1.1
    exact⟨by omega,λ_=>by omega⟩
  ·simp only [hb',decide_false,Bool.false_eq_true,if_false]
   refine wpAny_bind (wpAny_letGo ?_)
   rw[hname]
   refine wpAny_pure ⟨plainId_quiet PySem.F.plain_max_loop _,ih (j+1) i _ b tb k v (by omega) hlt m2 hb (by omega) λj' hj'=>?_⟩
   by_cases e:j'=j+1
   ·subst e
    exact⟨by omega,λ_=>by omega⟩
   ·exact hbest j' (by omega)
theorem CL{Q:Value->Shared->Prop}{E:Value->Shared->Prop}(I:ad X pins σ H s)(kn:KP kvs xs)(hd:H d=some (dN d xs ep))(kf:Nat->Int)(hh:X.A.handled=none)(hne:0 < kvs.length)
 (turn : ∀ (i:Nat) k b v,kvs[i]? = some (k,b,v)->∀ pins' s',ad X pins' σ H s'->wpAny (model X.prog X.w) X.A.in1 (call (.ref f) [.ref b]) (λu s2=>ad X pins' σ H s2/\∃ t,u=.int (kf i) t) (λ_ _=>False) s')
 (hQ : ∀ i k b v s',kvs[i]? = some (k,b,v)->(∀ j,j < kvs.length->kf i>=kf j/\(j < i->kf i > kf j))->ad X pins σ H s'->Q (.ref b) s') :
 wpAny (model X.prog X.w) X.A (call (.builtin "max") [.ref d] [(Str.ofString "key",.ref f)]) Q E s:=by
 have hname:(toString "max"++toString ".loop" : String) = "max.loop":=by decide
 have hl:=Paired.length kn
 have hsz:(xs.map bP).toArray.size=kvs.length:=by rw[List.size_toArray,List.length_map,hl]
 obtain⟨raw,_⟩:=I.hok d _ hd
 refine kmk_tree PySem.F.kind_max PySem.F.plain_max PySem.F.entry_max (kmk_max_key _ _) ?_
 show wpAny _ X.A.in1 (Builtin.Builtins.bindParams "max" ["key", "default"] 0 ⟨[],[(Str.ofString "key",.ref f)]⟩ >>= _) _ _ s
 refine wpAny_bind (wpAny_of_eq (show Builtin.Builtins.bindParams "max" ["key", "default"] 0 ⟨[],[(Str.ofString "key",.ref f)]⟩=pure [some (.ref f),none] from rfl) ?_)
 refine wpAny_bind (wpAny_pure ?_)
 refine wpAny_bind (nB raw ?_)
 refine wpAny_bind (wpAny_newList ?_ (Nat.zero_le _))
 rw[hname]
 generalize hIo:({ cls:=.type "dict_keyiterator",data:=.fields #[.ref d,.int 0 0,.int ((xs.map bP).toArray.size:Int) 0,.int ep 0] }:Obj)=oi
 have hfr:oi.isFreed=false:=by rw[<- hIo]; rfl
 have hS:(s.heap.push oi).objs.size=s.heap.objs.size+1:=size_push' ..
 have oI:cN X pins H s.heap.objs.size:=.fresh I (Nat.le_refl _)
 have oS:cN X pins H (s.heap.push oi).objs.size:=.fresh I (by rw[hS]; exact Nat.le_succ _)
 have hSI:(s.heap.push oi).objs.size≠s.heap.objs.size:=by rw[hS]; exact Nat.ne_of_gt (Nat.lt_succ_self _)
 have kp : ∀ b u,s.heap.get? b=some u->((s.heap.push oi).push (seqObj "list" #[] 0)).get? b=some u:=λb u e=>Heap.get?_push_of_some _ (Heap.get?_push_of_some _ e)
 have gI:((s.heap.push oi).push (seqObj "list" #[] 0)).get? s.heap.objs.size=some oi:=Heap.get?_push_of_some _ (Heap.get?_push_size _ hfr)
 have gS:((s.heap.push oi).push (seqObj "list" #[] 0)).get? (s.heap.push oi).objs.size=some (seqObj "list" #[] 0):=Heap.get?_push_size _ rfl
 have I0:ad X pins σ H { s with heap:=(s.heap.push oi).push (seqObj "list" #[] 0) }:=I.kept (t':=s.toks) kp
 have ki0:((s.heap.push oi).push (seqObj "list" #[] 0)).IsKeyIter s.heap.objs.size d 0 (xs.map bP).toArray.size ep:=⟨oi,gI,by rw[<- hIo],by rw[<- hIo]; rfl⟩
 refine wpAny_pure ⟨plainId_quiet PySem.F.plain_max_loop _,?_⟩
 obtain⟨⟨k1,b1,v1⟩,hkv⟩ : ∃ y,kvs[0]? = some y:=⟨_,List.getElem?_eq_getElem hne⟩
 obtain⟨⟨k2,b2,u2⟩,hxs⟩ : ∃ y,xs[0]? = some y:=⟨_,List.getElem?_eq_getElem (by omega)⟩
 obtain⟨_,z2,_⟩:=jX kn hkv hxs
 have z2':b1=b2:=z2
 subst z2'
 obtain⟨raw0,_⟩:=I0.hok d _ hd
 refine codeAny_builtin PySem.F.entry_max_loop ?_
 rw[Around.under_plainId PySem.F.plain_max_loop _]
 show wpAny _ X.A.in1 (seqItems? (.ref _) >>= _) _ _ _
 refine wpAny_bind (wpAny_seqItems gS rfl ?_)
 show wpAny _ X.A.in1 (tryCatch (pyNext (.ref s.heap.objs.size)) _ >>= _) _ _ _
 refine wpAny_bind (wpAny_tryCatch (kU (e:=bP (k2,b1,u2)) ki0 raw0 (by rw[List.getElem?_toArray,List.getElem?_map,hxs]; rfl) λh' ki' sb=>?_))
 have m1:fL X pins σ H s.heap.objs.size (s.heap.push oi).objs.size d (xs.map bP).toArray.size ep 1 #[] { s with heap:=h' }:=⟨oI.turned (s:={ s with heap:=(s.heap.push oi).push (seqObj "list" #[] 0) }) (t':=s.toks) I0 λb u hb e=>(sb.2 b hb).trans e,⟨0,(sb.2 _ hSI).trans gS⟩,ki'⟩
 show wpAny _ X.A.in1 (tryCatch (holding [.ref b1] (call (.ref f) [.ref b1])) _ >>= _) _ _ _
 refine wpAny_bind (wpAny_tryCatch (wpAny_holding (m1.call oS oI (turn 0 k1 b1 v1 hkv) λu s2 m2 hu=>?_)))
 obtain⟨t2,rfl⟩:=hu
 obtain⟨c2,eS2⟩:=m2.seq
 show wpAny _ X.A.in1 (updateSeq (s.heap.push oi).objs.size (λ_=>#[.ref b1,.int (kf 0) t2]) >>= _) _ _ _
 refine wpAny_bind ?_
 refine wpAny_updateSeq eS2 rfl ?_
 rw[hname]
 refine wpAny_pure ⟨plainId_quiet PySem.F.plain_max_loop _,CK kn hd kf hh oS oI hSI turn hQ _ 0 0 _ b1 t2 k1 v1 rfl hne (m2.write _ oS hSI) hkv (Nat.le_refl _) λj' hj'=>?_⟩
 have e:j'=0:=by omega
 subst e
 exact⟨by omega,λh=>absurd h (Nat.lt_irrefl _)⟩
end
def d5(Pt:Addr)(H H':Hp):Prop:=∀ b o,b≠Pt->H b=some o->H' b=some o
theorem d5.trans{Pt:Addr}{H H1 H2:Hp}(a:d5 Pt H H1)(b:d5 Pt H1 H2):d5 Pt H H2:=λc o n h=>b c o n (a c o n h)
theorem ag.one{Pt:Addr}{H H':Hp}(a:ag H H'):d5 Pt H H':=λc o _ h=>a c o h
def yn(Pt:Addr)(qual:Str)(lpos:Pos)(iy:Nat)(te tb:TE):TE:=λσ H Q=>te σ H λx H1=>∃ d kvs vy,x=.ref d/\DP H1 d kvs/\kvs≠[]/\σ[iy]? = some (some vy)/\di H1 Pt qual lpos/\∃ kf:Nat->Int,
 (∀ H2,d5 Pt H1 H2->∀ i k b v,kvs[i]? = some (k,b,v)->tb [some (.ref b),some vy] H2 λw H'=>w=.int (kf i)/\H'=H2) /\
 ∀ H2,d5 Pt H1 H2->di H2 Pt qual lpos->∀ i k b v,kvs[i]? = some (k,b,v)->(∀ j,j < kvs.length->kf i>=kf j/\(j < i->kf i > kf j))->Q (.ref b) H2
theorem FO{env:Env}{scope:Scope}{x y:Str}{c0:Addr}(hnm:scope.names=[(x,.local),(y,.free)])(h:env.cells.lookup y=some c0):closureFor scope env=pure [(y,c0)]:=by
 unfold closureFor
 rw[hnm]
 simp[cellOf,h]
section
variable {X:Cx}{e body:Expr}{te tb:TE}{x y:Str}{scope:Scope}{params:Arguments}{lpos kp pos p:Pos}{c Pt:Addr}{k iy:Nat}
theorem As(hr:aS (k+2) X.A)(hcode:X.env.code=.ref c)(hhd:W.codeHdIn X.K c Pt=true)(hbi:X.base.BuiltinsAt X.mg Pt)
 (hy:X.N[iy]? = some y) (hvy:X.env.scope.names.lookup y=some .cell) (hne:x≠y) (hnm:scope.names=[(x,.local),(y,.free)]) (hkd:scope.kind=.function) (hco:scope.isCoroutine=false) (hge:scope.isGenerator=false)
 (hdef:defaultsOf params X.env=([],[]))
 (hbd : ∀ (qual:Str) (pm:Value) (c' c0:Addr) (ctv u:Value),bindArgs (W.kla_fn "<lambda>" qual params body scope [(y,c0)] pm (.ref c') ctv) ⟨[u],[]⟩=pure [(x,u)])
 (hb : ∀ f c0 cd A outer s H,aS (k+1) A->QE (mi X.prog X.w X.K X.mg X.base x y (X.env.qual ++ "<lambda>") scope f c0 cd A outer s H) body tb)
 (he:QE X e te) (hm:X.mg "max" = none) (hg:Gl X "max") (hs:starEach [e] X.env=(false,eval e X.env) :: starEach [] X.env:=by rfl) :
 QE X (.Call (.Name "max" p) [e] [⟨some "key",.Lambda params body scope lpos,kp⟩] pos) (yn Pt (X.env.qual ++ "<lambda>") lpos iy te tb):=⟨λpins s σ H Q I h=>by
 have S:wY x y scope:=by
  refine⟨hkd,hco,hge,hne,?_,?_,?_,?_⟩
  ·rw[hnm,List.lookup_cons]; simp
  ·rw[hnm,List.lookup_cons]
   have:(y == x)=false:=beq_eq_false_iff_ne.mpr (Ne.symm hne)
   simp[this]
  ·rw[hnm]; intro z hz
   rcases List.mem_cons.mp hz with z1 | hz
   ·rw[z1]; exact λq=>nomatch q
   ·rw[List.mem_singleton.mp hz]; exact λq=>nomatch q
  ·rw[hnm]; intro z hz hf
   rcases List.mem_cons.mp hz with z1 | hz
   ·rw[z1]at hf; cases hf
   ·rw[List.mem_singleton.mp hz]
 have e1:backTo pos (starEach [e] X.env)=[(false,eval e X.env)]:=by
  unfold backTo; rw[hs]; rfl
 have e2:backTo pos (starEach ([]:List Expr) X.env)=[]:=rfl
 refine wpAny_Call_Name_kw (fA I hg hm (show bootBuiltins "max" = some (.builtin "max") by decide +kernel) ?_ (by decide) (by decide))
 refine callWith_kw (e:=e) (rest:=[]) (kws:=[⟨some "key",.Lambda params body scope lpos,kp⟩]) ?_ (by rw[e1,e2]) (by rw[e1]; rfl) rfl rfl
 rw[e1]
 refine Calls.spliced_cons (aj (he.h pins s σ H _ I h) λu s1 ⟨x',H1,I1,r1,d,kvs,vy,ex,hD,hkn,hvy',hT,kf,hk,hq⟩=>Calls.spliced_nil ?_)
 subst ex
 obtain rfl:u=Value.ref d:=r1
 obtain⟨m,hn,hl⟩:=id I1.loc
 obtain⟨c0,hc0⟩:=I1.ok.has y (.inl hvy)
 refine kws_cons (Co I1 hdef (FO hnm hc0) hcode hhd hbi hT λf c' ctv H2 s2 nf hf hP hC hs1 I2=>kws_nil ?_)
 have T2:di H2 Pt (X.env.qual ++ "<lambda>") lpos:=.inr ⟨c',hP,hC⟩
 obtain⟨⟨xs,ep,hd1,kn⟩,ky,nd,le⟩:=id hD
 have dPt:d≠Pt:=λz=>by
  obtain⟨ps,hp⟩:=hT.tbl
  rw[z,hp]at hd1; cases hd1
 have hd2:H2 d=some (dN d xs ep):=hs1 d _ dPt hd1
 show wpAny _ _ (call (.builtin "max") [.ref d] [(Str.ofString "key",.ref f)]) _ _ _
 refine CL I2 kn hd2 kf hr.hd (List.length_pos_iff.mpr hkn) (λi k' b v hi pins' s' I'=>?_) λi k' b v s' hi hb' I'=>?_
 ·have fo:=cB.at I'.hok hf
  have co:=kD.cd I'.hok hC
  obtain⟨m',hn',hl'⟩:=id I'.loc
  obtain⟨uy,ruy,lk⟩:=hl' iy y vy hy hvy' (.inr (.inl hvy))
  have hcell:s'.heap.IsCell c0 (some uy):=by
   rcases lk with ⟨q,_⟩ | ⟨_,c1,e1,z⟩
   ·have q':X.env.scope.names.lookup y=some .local:=q
    rw[hvy]at q'; cases q'
   ·rw[hc0]at e1; cases e1
    exact z
  refine wpAny_call (codeAny_mono (C2 (k:=k) (v:=.ref b) (t:=tb) (Q:=λw H'=>w=.int (kf i)/\H'=H2) hr.in1 I'.env0.in1 S fo co hcell (I'.freeC y c0 hc0) ruy (u:=.ref b) rfl (hbd _ _ _ _ _ _) (hb _ _ _ _ _ _ _ hr.in1) (hk H2 hs1 i k' b v hi)) λr s'' hr'=>?_)
  cases r with
  | error e=>exact False.elim hr'
  | ok fl =>
   cases fl with
   | next=>exact False.elim hr'
   | brk=>exact False.elim hr'
   | cont=>exact False.elim hr'
   | ret u =>
    obtain⟨v',H',J,rv',rfl,rfl⟩:=I'.after hr'
    exact⟨J,rv'⟩
 ·exact⟨.ref b,H2,I',rfl,hq H2 hs1 T2 i k' b v hi hb'⟩⟩
end
abbrev aG:=List Int
def iw(x:aG × Addr × Value):DictEntry:=⟨reduceHash (Builtin.Tuple.tupleHashOf (x.1.map hashInt)),.ref x.2.1,x.2.2⟩
theorem rQ(P:Program)(w:World):entryOfKey (tupleKind (intKind P w))=iw:=rfl
def gv(a:Addr)(xs:List (aG × Addr × Value))(ep:Nat):HO:=.ext λh=>dU h a (xs.map iw).toArray ep
def ez(H:Hp)(k:aG)(p:Addr):Prop:=H p=some (.tup (k.map V.int))
abbrev KQ:List (aG × Addr × V)->List (aG × Addr × Value)->Prop:=Paired λp q=>p.1=q.1/\p.2.1=q.2.1/\aq p.2.2 q.2.2
structure DQ (H:Hp) (a:Addr) (kvs:List (aG × Addr × V)):Prop where
 ex : ∃ xs ep,H a=some (gv a xs ep)/\KQ kvs xs
 key : ∀ x∈kvs,ez H x.1 x.2.1
 nd:(kvs.map (·.1)).Nodup
 le:kvs.length<=sizeLine
theorem ez.same{H H':Hp}{k:aG}{p:Addr}(s:ag H H')(h:ez H k p):ez H' k p:=s _ _ h
theorem DQ.same{H H':Hp}{a:Addr}{kvs:List (aG × Addr × V)}(s:ag H H')(d:DQ H a kvs):DQ H' a kvs:=by
 obtain⟨⟨xs,ep,h1,h2⟩,k,n,l⟩:=d
 exact⟨⟨xs,ep,s _ _ h1,h2⟩,λx hx=>(k x hx).same s,n,l⟩
def bE(kvs:List (aG × Addr × V))(k:aG):Option V:=(kvs.find? λx=>decide (x.1=k)).map (·.2.2)
def eL(kvs:List (aG × Addr × V))(k:aG)(b:Addr)(v:V):List (aG × Addr × V) :=
 if (bE kvs k).isSome then kvs.map (λx=>if x.1=k then (x.1,x.2.1,v) else x) else kvs++[(k,b,v)]
theorem KQ.val{kvs:List (aG × Addr × V)}{xs:List (aG × Addr × Value)}(r:KQ kvs xs)(k:aG):bG (bE kvs k) ((atKey xs k).map (·.2)):=by
 induction r with
 | nil=>exact True.intro
 | @cons p q ps qs h t ih =>
  obtain⟨h1,_,h2⟩:=h
  by_cases e:p.1=k
  ·have e':q.1=k:=h1.symm.trans e
   have b:atKey (q :: qs) k=some q.2:=by simp[atKey,List.find?_cons,e']
   have c:bE (p :: ps) k=some p.2.2:=by simp[bE,List.find?_cons,e]
   rw[b,c]
   exact h2
  ·have e' : ¬ q.1=k:=λz=>e (h1.trans z)
   have b:atKey (q :: qs) k=atKey qs k:=by simp[atKey,List.find?_cons,e']
   have c:bE (p :: ps) k=bE ps k:=by simp[bE,List.find?_cons,e]
   rw[b,c]
   exact ih
theorem KQ.put{kvs:List (aG × Addr × V)}{xs:List (aG × Addr × Value)}(r:KQ kvs xs)(k:aG){b:Addr}{y:V}{u:Value}(ry:aq y u):KQ (eL kvs k b y) (storedH xs k b u):=by
 have e:(bE kvs k).isSome=(atKey xs k).isSome:=by rw[(r.val k).isSome_eq,Option.isSome_map]
 unfold eL storedH
 rw[e]
 split
 ·induction r with
  | nil=>exact .nil
  | @cons p q ps qs h t ih =>
   rw[List.map_cons,List.map_cons]
   have all : ∀ {l m},KQ l m->KQ (l.map λx=>if x.1=k then (x.1,x.2.1,y) else x) (m.map (putAt k u)):=by
    intro l m r
    induction r with
    | nil=>exact .nil
    | @cons p q ps qs h t ih =>
     rw[List.map_cons,List.map_cons]
     refine .cons ?_ ih
     obtain⟨h1,h2,h3⟩:=h
     unfold putAt
     by_cases z:p.1=k
     ·rw[if_pos z,if_pos (h1.symm.trans z)]; exact⟨h1,h2,ry⟩
     ·rw[if_neg z,if_neg (λy=>z (h1.trans y))]; exact⟨h1,h2,h3⟩
   exact all (.cons h t)
 ·exact Paired.snoc r ⟨rfl,rfl,ry⟩
theorem KQ.keys{kvs:List (aG × Addr × V)}{xs:List (aG × Addr × Value)}(r:KQ kvs xs):kvs.map (·.1)=xs.map (·.1):=by
 induction r with
 | nil=>rfl
 | cons h t ih=>rw[List.map_cons,List.map_cons,ih,h.1]
theorem uZ : ∀ {kvs:List (aG × Addr × V)} {xs:List (aG × Addr × Value)},KQ kvs xs->∀ {i:Nat} {a:aG × Addr × V} {b:aG × Addr × Value},kvs[i]? = some a->xs[i]? = some b->a.1=b.1/\a.2.1=b.2.1/\aq a.2.2 b.2.2
 | _,_,.nil,_,_,_,h,_=>by simp at h
 | _,_,.cons r t,0,_,_,h,h'=>by simp at h h'; subst h; subst h'; exact r
 | _,_,.cons r t,i+1,_,_,h,h'=>uZ t (i:=i) (by simpa using h) (by simpa using h')
theorem AF(kvs:List (aG × Addr × V))(k:aG)(b:Addr)(v:V) : ∀ x∈eL kvs k b v,(∃ y∈kvs,y.1=x.1/\y.2.1=x.2.1)\/x=(k,b,v):=by
 intro x hx
 unfold eL at hx
 split at hx
 ·obtain⟨y,hy,rfl⟩:=List.mem_map.mp hx
  refine .inl ⟨y,hy,?_⟩
  split <;> exact⟨rfl,rfl⟩
 ·rcases List.mem_append.mp hx with z | z
  ·exact .inl ⟨x,z,rfl,rfl⟩
  ·exact .inr (List.mem_singleton.mp z)
theorem AE(kvs:List (aG × Addr × V))(k:aG)(b:Addr)(v:V):(eL kvs k b v).length<=kvs.length+1:=by
 unfold eL
 split <;> simp
theorem mU{P:Program}{w:World}{H:Hp}{h:Heap}{k:aG}{p:Addr}(ok:aT P w H h)(e:ez H k p):IsTupleKey (intKind P w) h k p:=by
 have all : ∀ {ks:List Int} {us:List Value},ar (ks.map V.int) us->ItemsAre (intKind P w) ks us:=by
  intro ks
  induction ks with
  | nil=>intro us r; cases r; exact .nil
  | cons k ks ih =>
   intro us r
   cases r with
   | cons a b =>
    obtain⟨t,rfl⟩:=a
    exact .cons (by exact beq_self_eq_true k) (ih b)
 obtain⟨_,its2,r2,o2,b1,b2,n2,b3⟩:=(show aO P w H h p (.tup (k.map V.int)) from ok p _ e)
 exact⟨o2,its2.toArray,n2,b1,b2,b3,by simpa using all r2⟩
section
variable {X:Cx}{pins:List (Addr × Obj)}{σ:St}{H:Hp}{s:Shared}{a b:Addr}{kvs:List (aG × Addr × V)}{k:aG}{v:V}{A:Around}{E:Value->Shared->Prop}
theorem j7(I:ad X pins σ H s)(d:DQ H a kvs) : ∃ xs ep,H a=some (gv a xs ep)/\KQ kvs xs/\dU s.heap a (xs.map iw).toArray ep/\s.heap.DictOfH (tupleKind (intKind X.prog X.w)) a xs:=by
 obtain⟨⟨xs,ep,h1,h2⟩,ky,nd,le⟩:=d
 obtain⟨r,_⟩:=I.hok a _ h1
 obtain⟨o,e1,e2,e3⟩:=r.obj
 refine⟨xs,ep,h1,h2,r,o,_,ep,e1,e2,e3,by rw[rQ],λx hx=>?_,by rw[<- h2.keys]; exact nd⟩
 have all : ∀ {l m},KQ l m->(∀ x∈l,ez H x.1 x.2.1)->∀ x∈m,IsTupleKey (intKind X.prog X.w) s.heap x.1 x.2.1:=by
  intro l m r
  induction r with
  | nil=>intro _ x hx; cases hx
  | @cons p q ps qs h t ih =>
   intro al x hx
   rcases List.mem_cons.mp hx with z | z
   ·subst z
    rw[<- h.1,<- h.2.1]
    exact mU I.hok (al p (List.mem_cons_self ..))
   ·exact ih (λy hy=>al y (List.mem_cons_of_mem _ hy)) x z
 exact all h2 ky x hx
theorem Fn{Q:Value->Shared->Prop}(hu:A.units+16 < cLine)(I:ad X pins σ H s)(d:DQ H a kvs)(ky:ez H k b)(e:bE kvs k=some v)(q : ∀ w' s',ad X pins σ H s'->aq v w'->Q w' s'):wpAny (model X.prog X.w) A (getItem (.ref a) (.ref b)) Q E s:=by
 obtain⟨xs,ep,h1,h2,r,dd⟩:=j7 I d
 obtain⟨w',hw,rw'⟩:=bG.some_of (v:=v) (o:=(atKey xs k).map (·.2)) (by rw[<- e]; exact h2.val k)
 obtain⟨p,hp,hp2⟩:=Option.map_eq_some_iff.mp hw
 refine wpAny_getItem_heap (knd:=tupleKind (intKind X.prog X.w)) (by show A.units+1 < cLine; omega) (mU I.hok ky) dd hp ?_
 rw[hp2]
 exact q w' _ (I.tok _) rw'
end
def CQ:TE:=λ_ H Q=>∀ p H',aP H p (gv p [] 0) H'->Q (.ref p) H'
theorem DQ.new{H H':Hp}{p:Addr}(g:aP H p (gv p [] 0) H'):DQ H' p []:=⟨⟨[],0,g.at_,.nil⟩,λ_ hx=>(nomatch hx),List.nodup_nil,Nat.zero_le _⟩
def yt(td ty:TE):TE:=λσ H Q=>td σ H λx H1=>ty σ H1 λy H2=>∃ a b kvs k v,x=.ref a/\y=.ref b/\DQ H2 a kvs/\ez H2 k b/\bE kvs k=some v/\Q v H2
def jz(d:Addr)(o:HO)(kvs:List (aG × Addr × V)):It :=
 ⟨λi H=>H d=some o/\i < kvs.length,λi H x H'=>H'=H/\∃ k b v,kvs[i]? = some (k,b,v)/\x=.ref b,λi H=>H d=some o/\kvs.length<=i⟩
def Dq(td:TE):TI:=λσ H R=>td σ H λx H1=>∃ d kvs,x=.ref d/\DQ H1 d kvs/\∀ o,H1 d=some o->R (jz d o kvs) H1
theorem x8{P:Program}{w:World}{K:W.Frag}{tg:Expr}(d it:Addr)(xs:List (aG × Addr × Value))(ep:Nat)(kvs:List (aG × Addr × V))(kn:KQ kvs xs):dg P w K tg (jz d (gv d xs ep) kvs) [it] it (λi h=>h.IsKeyIter it d i (xs.map iw).toArray.size ep) where
 mem:=by simp
 obj:=λi h st b hb=>by
  have e:b=it:=by simpa using hb
  subst e
  obtain⟨o,e,c,d⟩:=st
  exact⟨o,e,λv z=>by rw[d]at z; cases z⟩
 keep:=λi h h' st k=>st.at λo e=>k it (by simp) o e
 item:=by
  intro X hP hw hK hc i pins s σ H E I hf st hg
  subst hP hw hK
  obtain⟨hq,hi⟩:=hg
  obtain⟨r,_⟩:=I.hok d _ hq
  obtain⟨f0,f1,f2,f3,f4,f5⟩:=hf it (by simp)
  have hl:=Paired.length kn
  obtain⟨⟨k,b,v⟩,hkv⟩ : ∃ y,kvs[i]? = some y:=⟨_,List.getElem?_eq_getElem hi⟩
  obtain⟨⟨k',b',u⟩,hxs⟩ : ∃ y,xs[i]? = some y:=⟨_,List.getElem?_eq_getElem (by omega)⟩
  obtain⟨z1,z2,z3⟩:=uZ kn hkv hxs
  have z2':b=b':=z2
  subst z2'
  refine kU (e:=iw (k',b,u)) st r (by rw[List.getElem?_toArray,List.getElem?_map,hxs]; rfl) λh' st' sb=>?_
  have I1:ad X pins σ H { s with heap:=h' }:=I.turned (t':=s.toks) (λb o hb e=>(sb.2 b hb).trans e) f0 f1 f3 f4 f5
  obtain⟨o,e,c,dd⟩:=id st'
  exact⟨.ref b,rfl,fZ (s:={ s with heap:=h' }) e c dd (by decide) ⟨.ref b,H,I1,rfl,⟨rfl,k,b,v,hkv,rfl⟩,st',λb hb=>(hf b hb).1⟩⟩
 done:=by
  intro X hP hw hK hc i pins s σ H E I hf st hg
  subst hP hw hK
  obtain⟨hq,hi⟩:=hg
  obtain⟨r,_⟩:=I.hok d _ hq
  obtain⟨f0,f1,f2,f3,f4,f5⟩:=hf it (by simp)
  have hl:=Paired.length kn
  exact nC (I.ok.hd hc) st r (by simp; omega) λh' eb=>⟨rfl,I.turned (t':=s.toks) (λb o hb e=>eb b o hb e) f0 f1 f3 f4 f5⟩
 self:=λ_ _ _ _ _ st h=>wpAny_pyIter_keyiter st h
section
variable {X:Cx}{K:W.Frag}{o i e f value tg l:Expr}{td ty tx tv tl:TE}{pos pos' apos cpos:Pos}
theorem Ar:QE X (.Dict [] [] pos) CQ:=⟨λpins s σ H Q I h=>by
 refine wpAny_Dict_empty ⟨.ref s.heap.objs.size,_,I.laid (a:=s.heap.objs.size) (o:=gv s.heap.objs.size [] 0) (t':=s.toks) (λ_ _ q=>Heap.get?_push_of_some _ q) (Nat.le_refl _) ?_,rfl,h _ _ (.mk' (I.hok.fresh (Nat.le_refl _)))⟩
 refine⟨⟨beq_eq_false_iff_ne.mpr (Ne.symm (Nat.ne_of_lt I.big)),_,Heap.get?_push_size _ rfl,⟨rfl,rfl,rfl⟩,rfl⟩,⟨_,Heap.get?_push_size _ rfl⟩,λg1 g2 f kk=>f.to kk⟩⟩
theorem jQ(hu:X.A.units+64 < cLine)(ho:QE X o td)(hi:QE X i ty)(hs:jv i:=by intro _ _; rfl):QE X (.Subscript o i pos) (yt td ty):=⟨λpins s σ H Q I h=>by
 refine kK PySem.F.slot_dict_getitem.lookup hs (aj (ho.h pins s σ H _ I h) λu s1 ⟨x,H1,I1,rx,q1⟩=>aj (hi.h pins s1 σ H1 _ I1 q1) λiv s2 ⟨y,H2,I2,ry,a,b,kvs,k,v,ex,ey,d,ky,ev,q2⟩=>?_)
 subst ex ey
 obtain rfl:u=Value.ref a:=rx
 obtain rfl:iv=Value.ref b:=ry
 obtain⟨xs,ep,_,_,r,_⟩:=j7 I2 d
 exact⟨r.ty,Fn (by omega) I2 d ky ev λw' s3 I3 rw'=>⟨v,H2,I3,rw',q2⟩⟩⟩
theorem tQ(hl:QE X l tl):QI X tg l (Dq tl):=⟨λpins s σ H R I h=>by
 refine aj (hl.h pins s σ H _ I h) λv s1 ⟨x,H1,I1,r1,d,kvs,ex,dn,q⟩=>?_
 subst ex
 obtain rfl:v=Value.ref d:=r1
 obtain⟨xs,ep,h1,h2,r,_⟩:=j7 I1 dn
 refine nB r ?_
 refine⟨s1.heap.objs.size,[s1.heap.objs.size],_,jz d (gv d xs ep) kvs,H1,rfl,I1.kept (t':=s1.toks) λb o e=>Heap.get?_push_of_some _ e,x8 d _ xs ep kvs h2,⟨_,Heap.get?_push_size _ rfl,rfl,rfl⟩,λb hb=>?_,q _ h1⟩
 have e:b=s1.heap.objs.size:=by simpa using hb
 subst e
 exact I1.fpOk (Nat.le_refl _) (I1.hok.fresh (Nat.le_refl _))⟩
theorem vW{d:Addr}{o:HO}{kvs:List (aG × Addr × V)}{g:TG}{tb:TS}{D:cP}{σ:St}{H:Hp}(Pv:Nat->St->Hp->Prop)(h0:Pv 0 σ H)(hl : ∀ i σ H,i<=kvs.length->Pv i σ H->H d=some o)
 (hs : ∀ i k b v σ H,kvs[i]? = some (k,b,v)->Pv i σ H->g (.ref b) σ H λσ2 H2=>tb { D with nx:=Pv (i+1),ct:=Pv (i+1),bk:=D.nx } σ2 H2) (hd : ∀ σ H,Pv kvs.length σ H->D.nx σ H) :
 ∃ W:Nat->Nat->St->Hp->Prop,(∃ m,W 0 m σ H)/\∀ i m σ H,W i m σ H ->
  ((jz d o kvs).stop i H/\D.nx σ H)\/((jz d o kvs).go i H/\∃ N:St->Hp->Prop,(∀ σ' H',N σ' H'->∃ m',m' < m/\W (i+1) m' σ' H')/\∀ x H',(jz d o kvs).yld i H x H'->g x σ H' λσ2 H2=>tb { D with nx:=N,ct:=N,bk:=D.nx } σ2 H2):=by
 refine⟨λi m σ H=>m=kvs.length - i/\i<=kvs.length/\Pv i σ H,⟨kvs.length,by simp,Nat.zero_le _,h0⟩,?_⟩
 rintro i m σ H ⟨rfl,hi,p⟩
 have q:=hl i σ H hi p
 by_cases hlt:i < kvs.length
 ·refine .inr ⟨⟨q,hlt⟩,Pv (i+1),λσ' H' p'=>⟨kvs.length - (i+1),by omega,rfl,hlt,p'⟩,λx H' y=>?_⟩
  obtain⟨rfl,k,b,v,y,rfl⟩:=y
  exact hs i k b v σ H' y p
 ·have e:i=kvs.length:=by omega
  subst e
  exact .inl ⟨⟨q,Nat.le_refl _⟩,hd σ H p⟩
end
section
variable {prog:Program}{w:World}{A:Around}{E:Value->Shared->Prop}{s:Shared}{K:Type}[DecidableEq K]{knd:HeapKind prog w K}
theorem zg{d a:Addr}{xs:List (K × Addr × Value)}{k:K}{v:Value}{Q:Value->Shared->Prop}(hu:knd.room A)(hkey:knd.is s.heap k a)(hm:s.heap.DictOfH knd d xs)
 (h1 : ∀ p,atKey xs k=some p->Q p.2 { s with toks:=s.toks+knd.draws k })
 (h2:atKey xs k=none->∀ h',h'.DictOfH knd d (storedH xs k a v)->Heap.SameBut d s.heap h'->Q v { s with heap:=h',toks:=s.toks+knd.draws k })
 (hsz:xs.length<=sizeLine) :
 wpAny (model prog w) A (dictSetDefault d (.ref a) v) Q E s:=by
 obtain⟨o,es,ep,ho,hc,hd,he,his,hn⟩:=hm
 unfold dictSetDefault
 try with_reducible refine wpAny_holding ?_
 refine wpAny_bind (knd.pyHash hu hkey ?_)
 refine wpAny_bind (wpAny_dictFind_heap (s:={ s with toks:=s.toks+knd.draws k }) hu hkey ho hd he his hn ?_ ?_)
 ·intro hno
  have hnot:k∉xs.map (·.1):=not_mem_keys_of_get hno
  refine wpAny_bind (wpAny_rule (wpAny_bind (wpAny_updateDictKeys (hz:=by have e:=size_of_entries he; omega) (s:={ s with toks:=s.toks+knd.draws k }) ho hd (wpAny_pure (h2 (atKey_none_of_get hno) _ ⟨_,_,ep+1,Heap.get?_update_self _ ho (Obj.isFreed_of_dict (Obj.data_mapDictKeys hd _)),
   hc.mapDictKeys _,Obj.data_mapDictKeys hd _,?_,?_,?_⟩ (Heap.SameBut.update ..))))))
  ·rw[storedH_new (atKey_none_of_get hno)]
   simp[he,entryOfKey]
  ·rw[storedH_new (atKey_none_of_get hno)]
   intro x hx
   rcases List.mem_append.mp hx with hx | hx
   ·exact knd.keeps (his x hx) ho hd (Heap.SameBut.update ..)
   ·simp only [List.mem_singleton]at hx
    subst hx
    exact knd.keeps hkey ho hd (Heap.SameBut.update ..)
  ·rw[storedH_new (atKey_none_of_get hno)]
   rw[List.map_append,List.nodup_append]
   refine⟨hn,by simp,?_⟩
   intro x hx y hy
   simp only [List.map_cons,List.map_nil,List.mem_singleton]at hy
   subst hy
   exact λe=>hnot (e ▸ hx)
 ·intro j p hj
  refine wpAny_bind (wpAny_dictEntries (s:={ s with toks:=s.toks+knd.draws k }) ho hd ?_)
  have e1:es[j]? = some (entryOfKey knd (k,p)):=by
   rw[<- Array.getElem?_toList,he,List.getElem?_map,hj]; rfl
  rw[e1]
  exact wpAny_bind (wpAny_rule (wpAny_pure (h1 p (atKey_of_get hn hj))))
theorem Cv{d a:Addr}(hd:(d == sysModules)=false)(dflt:Value) :
 MeetsIn prog w (Builtin.«dict.setdefault» ⟨[.ref d,.ref a,dflt],[]⟩) (λA R s=>knd.room A.in1/\∃ k xs,knd.is s.heap k a/\s.heap.DictOfH knd d xs/\xs.length<=sizeLine /\
  (∀ p,atKey xs k=some p->R (.ok (.ret p.2)) { s with toks:=s.toks+knd.draws k }) /\
  (atKey xs k=none->∀ h',h'.DictOfH knd d (storedH xs k a dflt)->Heap.SameBut d s.heap h'->R (.ok (.ret dflt)) { s with heap:=h',toks:=s.toks+knd.draws k })) :=
 .of_wp λA R s ⟨hu,k,xs,hkey,hm,hz,h1,h2⟩=>by
  unfold Builtin.«dict.setdefault»
  refine wpAny_bind ?_
  unfold Builtin.Dict.keyAndDefault
  refine wpAny_bind (wpAny_notOrdered_dict hm.typeIs ?_)
  show wpAny _ _ (pure (d,Value.ref a,some dflt)) _ _ s
  refine wpAny_pure ?_
  show wpAny _ _ (if (d == sysModules)=true then _ else (dictSetDefault d (.ref a) dflt >>= _)) _ _ s
  rw[if_neg (by rw[hd]; exact Bool.false_ne_true)]
  exact wpAny_bind (zg hu hkey hm (λp hp=>wpAny_pure ⟨_,rfl,h1 p hp⟩) (λhn h' hm' hs'=>wpAny_pure ⟨dflt,rfl,h2 hn h' hm' hs'⟩) hz)
end
def yp(td ty tx:TE):TE:=λσ H Q=>td σ H λx H1=>∃ a kv0,x=.ref a/\DQ H1 a kv0/\ty σ H1 λy H2=>tx σ H2 λz H3=>∃ b kvs k,y=.ref b/\DQ H3 a kvs/\ez H3 k b/\kvs.length < sizeLine /\
 (∀ v,bE kvs k=some v->Q v H3)/\(bE kvs k=none->∀ H4,DQ H4 a (eL kvs k b z)->(∀ c,c≠a->H4 c=H3 c)->Q z H4)
section
variable {X:Cx}{pins:List (Addr × Obj)}{σ:St}{H:Hp}{s:Shared}{a b:Addr}{kvs:List (aG × Addr × V)}{k:aG}{v:V}{A:Around}{E:Value->Shared->Prop}
theorem Fm{u:Value}{Q:Value->Shared->Prop}(hu:A.units+16 < cLine)(I:ad X pins σ H s)(d:DQ H a kvs)(ky:ez H k b)(hl:kvs.length < sizeLine)(rv:aq v u)
 (q1 : ∀ v' w' s',bE kvs k=some v'->ad X pins σ H s'->aq v' w'->Q w' s')
 (q:bE kvs k=none->∀ H' s',ad X pins σ H' s'->DQ H' a (eL kvs k b v)->(∀ c,c≠a->H' c=H c)->Q u s'):wpAny (model X.prog X.w) A (call (.builtin "dict.setdefault") [.ref a,.ref b,u]) Q E s:=by
 obtain⟨xs,ep,h1,h2,r,dd⟩:=j7 I d
 have hz:xs.length<=sizeLine:=by rw[<- Paired.length h2]; exact d.le
 refine call_meetsIn PySem.F.slot_dict_setdefault dd.typeIs PySem.F.entry_dict_setdefault (PySem.F.args_dict_setdefault_3 _ _ _) (Cv (knd:=tupleKind (intKind X.prog X.w)) r.big u) ⟨by show A.units+1 < cLine; omega,k,xs,mU I.hok ky,dd,hz,λp hp=>?_,λhn h' dd' hs=>?_⟩
 ·have e:=h2.val k
  rw[hp]at e
  cases ev:bE kvs k with
  | none=>rw[ev]at e; exact e.elim
  | some v'=>rw[ev]at e; exact q1 v' _ _ ev (I.tok _) e
 ·have en:bE kvs k=none:=by
   have e:=h2.val k
   rw[hn]at e
   cases ev:bE kvs k with
   | none=>rfl
   | some v'=>rw[ev]at e; exact e.elim
  obtain⟨o,es,ep',e1,e2,e3,e4,e5,e6⟩:=dd'
  have nk : ∀ c ys,H c=some (.tup ys)->c≠a:=λc ys z y=>by subst y; rw[h1]at z; cases z
  have es':es=((storedH xs k b u).map iw).toArray:=by
   rw[rQ]at e4
   rw[<- e4,Array.toArray_toList]
  have I':ad X pins σ (upd H a (gv a (storedH xs k b u) ep')) { s with heap:=h',toks:=s.toks+(tupleKind (intKind X.prog X.w)).draws k }:=by
   refine j8 I (by rw[h1]; exact True.intro) hs ⟨o,e1⟩ ⟨⟨r.big,o,e1,e2,by rw[e3,es']⟩,⟨o,e1⟩,λg1 g2 f kk=>f.to kk⟩
  refine q en _ _ I' ⟨⟨_,ep',aN,h2.put k rv⟩,λx hx=>?_,?_,?_⟩ λc hc=>ak hc
  ·have ky':ez H x.1 x.2.1:=by
    rcases AF kvs k b v x hx with ⟨y,hy,z1,z2⟩ | z
    ·rw[<- z1,<- z2]; exact d.key y hy
    ·rw[z]; exact ky
   show upd H a _ _=_
   rw[ak (nk _ _ ky')]
   exact ky'
  ·rw[(h2.put k rv).keys]; exact e6
  ·have:=AE kvs k b v; omega
end
section
variable {X:Cx}{o e f:Expr}{td ty tx:TE}{apos cpos:Pos}
theorem Av (hu:X.A.units+64 < cLine) (ho:QE X o td) (he:QE X e ty) (hf:QE X f tx) (hb:attributeBase o "setdefault" X.env (eval o X.env)=eval o X.env:=by rfl)
 (hw:((backTo cpos (starEach [e,f] X.env)).all (λx=>!x.1) && (backToKw cpos (keywordEach [] X.env)).all (λx=>x.1.isSome)
   && decide (([e,f]:List Expr).length+([]:List Keyword).length+(if ([]:List Keyword).isEmpty then 0 else 1) < 30))=true:=by rfl)
 (hl:(apos.endLine == cpos.line)=true:=by rfl) (ht:backTo cpos (starEach [e,f] X.env)=[(false,eval e X.env),(false,eval f X.env)]:=by rfl) :
 QE X (.Call (.Attribute o "setdefault" apos) [e,f] [] cpos) (yp td ty tx):=⟨λpins s σ H Q I h=>by
 refine wpAny_Call_method hb hw hl PySem.F.plainAttrs_dict PySem.F.slot_dict_setdefault PySem.F.type_dict_setdefault (aj (ho.h pins s σ H _ I h) λu s1 ⟨x,H1,I1,rx,a,kv0,ex,d,q1⟩=>?_)
 subst ex
 obtain rfl:u=Value.ref a:=rx
 obtain⟨xs,ep,_,_,r,_⟩:=j7 I1 d
 refine⟨r.ty,λb z=>?_,?_⟩
 ·cases z
  obtain⟨ob,e1,e2,_⟩:=r.obj
  exact⟨ob,e1,e2.2.1⟩
 rw[ht]
 refine Calls.callWith_builtin rfl (Calls.evalArgs_plain (Calls.spliced_cons (aj (he.h pins s1 σ H1 _ I1 q1) λiv s2 ⟨y,H2,I2,ry,q2⟩ =>
  Calls.spliced_cons (aj (hf.h pins s2 σ H2 _ I2 q2) λfv s3 ⟨z,H3,I3,rz,b,kvs,k,ey,d3,ky,hl3,q3,q4⟩=>Calls.spliced_nil ?_))))
 subst ey
 obtain rfl:iv=Value.ref b:=ry
 exact Fm (by omega) I3 d3 ky hl3 rz (λv' w' s4 ev I4 rw'=>⟨v',H3,I4,rw',q3 v' ev⟩) λen H4 s4 I4 d4 k4=>⟨z,H4,I4,rz,q4 en H4 d4 k4⟩⟩
end
def dC(a b:Int × Int):Bool:=if a.1=b.1 then decide (a.2 > b.2) else decide (a.1 > b.1)
def ij(h:Heap)(x:Addr)(a:Int × Int):Prop:=∃ o t u n,h.get? x=some o/\o.cls=.type "tuple"/\o.data=.seq #[.int a.1 t,.int a.2 u] n
section
variable {prog:Program}{w:World}{A:Around}{E:Value->Shared->Prop}{s:Shared}
theorem ij.ty {x:Addr} {a:Int × Int} (h:ij s.heap x a):s.TypeIs (.ref x) "tuple":=by
 obtain⟨o,t,u,n,h1,h2,_⟩:=h
 exact⟨o,h1,h2⟩
theorem yb{x y:Addr}{a b:Int × Int}{P:Fin->Shared->Prop}(hu:A.units+4 < cLine)(hx:ij s.heap x a)(hy:ij s.heap y b)(q:P (.done (.ret (.bool (dC a b)))) s) :
 wpAny (model prog w) A (Builtin.«tuple.__gt__» ⟨[.ref x,.ref y],[]⟩) P E s:=by
 have ty:=hy.ty
 obtain⟨o,t,u,n,h1,h2,h3⟩:=hx
 obtain⟨o',t',u',n',g1,g2,g3⟩:=hy
 show wpAny _ _ (isInstance (.ref y) (.type "tuple") >>= _) _ _ _
 refine wpAny_bind (wpAny_isInstance ty isSubtype_tuple_tuple ?_)
 simp only [Bool.not_true,Bool.false_eq_true,if_false]
 refine wpAny_bind (wpAny_tupleItemsOf h1 h3 ?_)
 refine wpAny_bind (wpAny_tupleItemsOf g1 g3 ?_)
 refine wpAny_bind ?_
 show wpAny _ _ (forIn [(Value.int a.1 t,Value.int b.1 t'),(Value.int a.2 u,Value.int b.2 u')] _ _) _ _ _
 rw[List.forIn_cons]
 refine wpAny_bind (wpAny_bind (wpAny_eqBool_int ?_))
 unfold dC at q
 by_cases e1:a.1=b.1
 ·rw[if_pos e1]at q
  rw[beq_iff_eq.mpr e1]
  simp only [Bool.not_true,Bool.false_eq_true,if_false]
  refine wpAny_pure ?_
  dsimp only
  rw[List.forIn_cons]
  refine wpAny_bind (wpAny_bind (wpAny_eqBool_int ?_))
  by_cases e2:a.2=b.2
  ·rw[beq_iff_eq.mpr e2]
   simp only [Bool.not_true,Bool.false_eq_true,if_false]
   refine wpAny_pure ?_
   dsimp only
   rw[List.forIn_nil]
   refine wpAny_pure (wpAny_pure ?_)
   rw[decide_eq_false (by omega)]at q
   exact q
  ·rw[beq_eq_false_iff_ne.mpr e2]
   simp only [Bool.not_false,if_true]
   refine wpAny_bind (wpAny_rule (wpAny_bind (CmpOf.ints_gt (prog:=prog) (w:=w) (P:=λi v=>∃ t,v=.int (if i=0 then a.2 else b.2) t) (λi=>if i=0 then a.2 else b.2) (λi v h=>h) 0 1 _ _ _ _ _ ⟨u,rfl⟩ ⟨u',rfl⟩ ?_)))
   exact wpAny_bind (wpAny_pure (wpAny_pure (wpAny_pure (wpAny_pure q))))
 ·rw[if_neg e1]at q
  rw[beq_eq_false_iff_ne.mpr e1]
  simp only [Bool.not_false,if_true]
  refine wpAny_bind (wpAny_rule (wpAny_bind (CmpOf.ints_gt (prog:=prog) (w:=w) (P:=λi v=>∃ t,v=.int (if i=0 then a.1 else b.1) t) (λi=>if i=0 then a.1 else b.1) (λi v h=>h) 0 1 _ _ _ _ _ ⟨t,rfl⟩ ⟨t',rfl⟩ ?_)))
  exact wpAny_bind (wpAny_pure (wpAny_pure (wpAny_pure (wpAny_pure q))))
theorem yc{x y:Addr}{a b:Int × Int}{Q:Value->Shared->Prop}(hu:A.units+8 < cLine)(hx:ij s.heap x a)(hy:ij s.heap y b)(q:Q (.bool (dC a b)) s) :
 wpAny (model prog w) A (richCompare .Gt (.ref x) (.ref y)) Q E s :=
 wpAny_richCompare_same_room (op:=.Gt) hx.ty hy.ty PySem.F.slot_tuple_gt (wpAny_call_entry PySem.F.slot_tuple_gt hx.ty PySem.F.entry_tuple_gt (yb (by show A.units+1+4 < cLine; omega) hx hy ⟨_,rfl,nofun,q⟩) (PySem.F.args_tuple_gt_2 _ _)) (by omega)
end
section
variable {X:Cx}{pins:List (Addr × Obj)}{σ:St}{H:Hp}{s:Shared}
theorem uf{x:Addr}{a:Int × Int}(I:ad X pins σ H s)(h:H x=some (.tup [.int a.1,.int a.2])):ij s.heap x a:=by
 obtain⟨_,its,r,o,a1,a2,n,a3⟩:=(show aO X.prog X.w H s.heap x (.tup [.int a.1,.int a.2]) from I.hok x _ h)
 cases r with
 | cons c1 r=>cases r with
  | cons c2 r=>cases r with
   | nil =>
    obtain⟨t,rfl⟩:=c1
    obtain⟨u,rfl⟩:=c2
    exact⟨o,t,u,n,a1,a2,a3⟩
structure jw (X:Cx) (pins:List (Addr × Obj)) (σ:St) (H:Hp) (it S l:Addr) (j:Nat) (arr:Array Value) (s:Shared):Prop where
 inv:ad X pins σ H s
 seq : ∃ c,s.heap.get? S=some (seqObj "list" arr c)
 iter:s.heap.IsListIter it l j
theorem jw.write{it S l:Addr}{j:Nat}{arr:Array Value}(arr':Array Value)(m:jw X pins σ H it S l j arr s)(oS:cN X pins H S)(hSI:S≠it){t':Nat} :
 jw X pins σ H it S l j arr' { s with heap:=s.heap.update S (Obj.mapSeq λ_=>arr'),toks:=t' }:=by
 obtain⟨I,⟨c,eS⟩,ki⟩:=m
 have s1:=Heap.SameBut.update s.heap S (Obj.mapSeq λ_=>arr')
 obtain⟨o,e1,e2,e3⟩:=ki
 exact⟨oS.turned I λb u hb e=>(s1.2 b hb).trans e,⟨_,get?_update_seq eS λ_=>arr'⟩,⟨o,(s1.2 it hSI.symm).trans e1,e2,e3⟩⟩
variable {l it S:Addr}{ts:List (Addr × Int × Int)}{R:Result->Shared->Prop}{dv:Value}
theorem lL(I:ad X pins σ H s)(hl:H l=some (.lst (ts.map λx=>V.ref x.1))):s.heap.IsList l (ts.map λx=>Value.ref x.1).toArray:=by
 obtain⟨_,its,n,r,e⟩:=(show aO X.prog X.w H s.heap l (.lst (ts.map λx=>V.ref x.1)) from I.hok l _ hl)
 have all : ∀ {ys:List (Addr × Int × Int)} {us:List Value},ar (ys.map λx=>V.ref x.1) us->us=ys.map λx=>Value.ref x.1:=by
  intro ys
  induction ys with
  | nil=>intro us r; cases r; rfl
  | cons y ys ih =>
   intro us r
   cases r with
   | cons a b =>
    rw[List.map_cons,ih b]
    rw[show _=Value.ref y.1 from a]
 rw[all r]at e
 exact⟨_,e,rfl,n,rfl⟩
theorem CH(hl:H l=some (.lst (ts.map λx=>V.ref x.1)))(ht : ∀ x∈ts,H x.1=some (.tup [.int x.2.1,.int x.2.2]))(hh:X.A.handled=none)(hu:X.A.units+16 < cLine)(oS:cN X pins H S)(oI:cN X pins H it)(hSI:S≠it)(hli:l≠it)
 (hR : ∀ (i:Nat) (x:Addr × Int × Int) s',ts[i]? = some x->(∀ (j:Nat) (y:Addr × Int × Int),ts[j]? = some y->dC y.2 x.2=false)->ad X pins σ H s'->R (.ok (.ret (.ref x.1))) s') :
 ∀ (r j i:Nat) (s:Shared) (x:Addr × Int × Int),ts.length - (j+1)=r->j+1<=ts.length->jw X pins σ H it S l (j+1) #[.ref x.1,.ref x.1] s->ts[i]? = some x->i<=j ->
  (∀ j' y,j'<=j->ts[j']? = some y->dC y.2 x.2=false)->codeAny (model X.prog X.w) X.A (.builtin "max.loop" ⟨[.ref it,.none,.ref S],[(Str.ofString "default",dv)]⟩) R s:=by
 have hname:(toString "max"++toString ".loop" : String) = "max.loop":=by decide
 have W:=Walks.list (prog:=X.prog) (w:=X.w) (A:=X.A.in1) hh it l hli (ts.map λx=>Value.ref x.1).toArray
 have hsz:(ts.map λx=>Value.ref x.1).toArray.size=ts.length:=by rw[List.size_toArray,List.length_map]
 intro r
 induction r with
 | zero =>
  intro j i s x hr hj m hx hij hbest
  have hin:j+1=ts.length:=by omega
  obtain⟨I,⟨c,eS⟩,ki⟩:=m
  refine codeAny_builtin PySem.F.entry_max_loop ?_
  rw[Around.under_plainId PySem.F.plain_max_loop _]
  show wpAny _ X.A.in1 (seqItems? (.ref S) >>= _) _ _ _
  refine wpAny_bind (wpAny_seqItems eS rfl ?_)
  show wpAny _ X.A.in1 (tryCatch (pyNext (.ref it)) _ >>= _) _ _ _
  refine wpAny_bind (wpAny_tryCatch (W.done _ _ _ ⟨by rw[hsz,<- hin]; exact ki,lL I hl⟩ λh' tk' hk'=>?_))
  have I1:ad X pins σ H { s with heap:=h',toks:=tk' }:=oI.turned I λb u hb e=>hk' b u (by simpa using hb) e
  have eS1:h'.get? S=some (seqObj "list" #[.ref x.1,.ref x.1] c):=hk' S _ (by simpa using hSI) eS
  show wpAny _ X.A.in1 (updateSeq S (λ_=>#[]) >>= _) _ _ _
  refine wpAny_bind ?_
  refine wpAny_updateSeq eS1 rfl (wpAny_bind (wpAny_letGo (wpAny_pure ?_)))
  have s1:=Heap.SameBut.update h' S (Obj.mapSeq λ_=>(#[]:Array Value))
  refine hR i x _ hx (λj' y hy=>hbest j' y ?_ hy) (oS.turned I1 λb u hb e=>(s1.2 b hb).trans e)
  have:=(List.getElem?_eq_some_iff.mp hy).1
  omega
 | succ r ih =>
  intro j i s x hr hj m hx hij hbest
  have hlt:j+1 < ts.length:=by omega
  obtain⟨I,⟨c,eS⟩,ki⟩:=m
  obtain⟨y,hy⟩ : ∃ y,ts[j+1]? = some y:=⟨_,List.getElem?_eq_getElem hlt⟩
  refine codeAny_builtin PySem.F.entry_max_loop ?_
  rw[Around.under_plainId PySem.F.plain_max_loop _]
  show wpAny _ X.A.in1 (seqItems? (.ref S) >>= _) _ _ _
  refine wpAny_bind (wpAny_seqItems eS rfl ?_)
  show wpAny _ X.A.in1 (tryCatch (pyNext (.ref it)) _ >>= _) _ _ _
  refine wpAny_bind (wpAny_tryCatch (W.item (j+1) _ _ _ (by rw[hsz]; exact hlt) ⟨ki,lL I hl⟩ λv h' tk' hP hst' hk'=>?_))
  have hv:v=Value.ref y.1:=by
   have z:(ts.map λx=>Value.ref x.1).toArray[j+1]? = some v:=hP
   rw[List.getElem?_toArray,List.getElem?_map,hy]at z
   exact (Option.some.inj z).symm
  subst hv
  have m1:jw X pins σ H it S l (j+1+1) #[.ref x.1,.ref x.1] { s with heap:=h',toks:=tk' }:=⟨oI.turned I λb u hb e=>hk' b u (by simpa using hb) e,⟨c,hk' S _ (by simpa using hSI) eS⟩,hst'.1⟩
  show wpAny _ X.A.in1 (tryCatch (holding [.ref y.1,.ref y.1] (richCompare .Gt (.ref y.1) (.ref x.1) >>= _)) _ >>= _) _ _ _
  refine wpAny_bind (wpAny_tryCatch (wpAny_holding (wpAny_bind (yc (a:=y.2) (b:=x.2) (by show X.A.units+1+8 < cLine; omega) (uf m1.inv (ht y (List.mem_of_getElem? hy))) (uf m1.inv (ht x (List.mem_of_getElem? hx))) ?_))))
  refine wpAny_bind (wpAny_holding (wpAny_truthy_bool ?_))
  refine wpAny_bind (wpAny_letGo (wpAny_pure ?_))
  have irr:dC y.2 y.2=false:=by unfold dC; rw[if_pos rfl]; exact decide_eq_false (by omega)
  cases hb':dC y.2 x.2 with
  | true =>
   simp only [if_true]
   obtain⟨c2,eS2⟩:=m1.seq
   refine wpAny_bind ?_
   refine wpAny_updateSeq eS2 rfl (wpAny_bind (wpAny_letGo ?_))
   rw[hname]
   refine wpAny_pure ⟨plainId_quiet PySem.F.plain_max_loop _,ih (j+1) (j+1) _ y (by omega) hlt (m1.write _ oS hSI) hy (Nat.le_refl _) λj' z hj' hz=>?_⟩
   by_cases e:j'=j+1
   ·subst e
    rw[hy]at hz; cases hz
    exact irr
   ·have h1:=hbest j' z (by omega) hz
    unfold dC at h1 hb' ⊢
    split at h1 <;> split at hb' <;> split <;> simp only [decide_eq_true_eq,decide_eq_false_iff_not]at * <;> omega
  | false =>
   simp only [Bool.false_eq_true,if_false]
   refine wpAny_bind (wpAny_letGo ?_)
   rw[hname]
   refine wpAny_pure ⟨plainId_quiet PySem.F.plain_max_loop _,ih (j+1) i _ x (by omega) hlt m1 hx (by omega) λj' z hj' hz=>?_⟩
   by_cases e:j'=j+1
   ·subst e
    rw[hy]at hz; cases hz
    exact hb'
   ·exact hbest j' z (by omega) hz
theorem CI (a v:Value):argsOk "max" ⟨[a],[(Str.ofString "default",v)]⟩:=by unfold argsOk; kernel_rfl
theorem CJ{Q:Value->Shared->Prop}{E:Value->Shared->Prop}(I:ad X pins σ H s)(hl:H l=some (.lst (ts.map λx=>V.ref x.1)))(ht : ∀ x∈ts,H x.1=some (.tup [.int x.2.1,.int x.2.2]))(hh:X.A.handled=none)(hu:X.A.units+16 < cLine)
 (h0:ts=[]->∀ s',ad X pins σ H s'->Q dv s')
 (hQ : ∀ (i:Nat) (x:Addr × Int × Int) s',ts[i]? = some x->(∀ (j:Nat) (y:Addr × Int × Int),ts[j]? = some y->dC y.2 x.2=false)->ad X pins σ H s'->Q (.ref x.1) s') :
 wpAny (model X.prog X.w) X.A (call (.builtin "max") [.ref l] [(Str.ofString "default",dv)]) Q E s:=by
 have hname:(toString "max"++toString ".loop" : String) = "max.loop":=by decide
 have hsz:(ts.map λx=>Value.ref x.1).toArray.size=ts.length:=by rw[List.size_toArray,List.length_map]
 have hls:=lL I hl
 obtain⟨ol,hol,_⟩:=id hls
 have hll:l < s.heap.objs.size:=Heap.lt_size hol
 refine kmk_tree PySem.F.kind_max PySem.F.plain_max PySem.F.entry_max (CI _ _) ?_
 show wpAny _ X.A.in1 (Builtin.Builtins.bindParams "max" ["key", "default"] 0 ⟨[],[(Str.ofString "default",dv)]⟩ >>= _) _ _ s
 refine wpAny_bind (wpAny_of_eq (show Builtin.Builtins.bindParams "max" ["key", "default"] 0 ⟨[],[(Str.ofString "default",dv)]⟩=pure [none,some dv] from rfl) ?_)
 refine wpAny_bind (wpAny_pure ?_)
 refine wpAny_bind (wpAny_pyIter_list hls ?_)
 refine wpAny_bind (wpAny_newList ?_ (Nat.zero_le _))
 rw[hname]
 generalize hIo:({ cls:=.type "list_iterator",data:=.fields #[.ref l,.int 0 0] }:Obj)=oi
 have hfr:oi.isFreed=false:=by rw[<- hIo]; rfl
 have hS:(s.heap.push oi).objs.size=s.heap.objs.size+1:=size_push' ..
 have oI:cN X pins H s.heap.objs.size:=.fresh I (Nat.le_refl _)
 have oS:cN X pins H (s.heap.push oi).objs.size:=.fresh I (by rw[hS]; exact Nat.le_succ _)
 have hSI:(s.heap.push oi).objs.size≠s.heap.objs.size:=by rw[hS]; exact Nat.ne_of_gt (Nat.lt_succ_self _)
 have hli:l≠s.heap.objs.size:=Nat.ne_of_lt hll
 have kp : ∀ b u,s.heap.get? b=some u->((s.heap.push oi).push (seqObj "list" #[] 0)).get? b=some u:=λb u e=>Heap.get?_push_of_some _ (Heap.get?_push_of_some _ e)
 have gI:((s.heap.push oi).push (seqObj "list" #[] 0)).get? s.heap.objs.size=some oi:=Heap.get?_push_of_some _ (Heap.get?_push_size _ hfr)
 have gS:((s.heap.push oi).push (seqObj "list" #[] 0)).get? (s.heap.push oi).objs.size=some (seqObj "list" #[] 0):=Heap.get?_push_size _ rfl
 have I0:ad X pins σ H { s with heap:=(s.heap.push oi).push (seqObj "list" #[] 0) }:=I.kept (t':=s.toks) kp
 have ki0:((s.heap.push oi).push (seqObj "list" #[] 0)).IsListIter s.heap.objs.size l 0:=⟨oi,gI,by rw[<- hIo],by rw[<- hIo]; rfl⟩
 have W:=Walks.list (prog:=X.prog) (w:=X.w) (A:=X.A.in1) hh s.heap.objs.size l hli (ts.map λx=>Value.ref x.1).toArray
 refine wpAny_pure ⟨plainId_quiet PySem.F.plain_max_loop _,?_⟩
 refine codeAny_builtin PySem.F.entry_max_loop ?_
 rw[Around.under_plainId PySem.F.plain_max_loop _]
 show wpAny _ X.A.in1 (seqItems? (.ref _) >>= _) _ _ _
 refine wpAny_bind (wpAny_seqItems gS rfl ?_)
 show wpAny _ X.A.in1 (tryCatch (pyNext (.ref s.heap.objs.size)) _ >>= _) _ _ _
 have hL0:=lL (s:={ s with heap:=(s.heap.push oi).push (seqObj "list" #[] 0) }) I0 hl
 by_cases hne:ts=[]
 ·refine wpAny_bind (wpAny_tryCatch (W.done _ _ _ ⟨by rw[hsz,hne]; exact ki0,hL0⟩ λh' tk' hk'=>?_))
  show wpAny _ X.A.in1 (rule _ >>= _) _ _ _
  refine wpAny_bind (wpAny_rule (wpAny_pure ?_))
  exact h0 hne _ (oI.turned (s:={ s with heap:=(s.heap.push oi).push (seqObj "list" #[] 0) }) I0 λb u hb e=>hk' b u (by simpa using hb) e)
 ·have hpos:0 < ts.length:=List.length_pos_iff.mpr hne
  obtain⟨y,hy⟩ : ∃ y,ts[0]? = some y:=⟨_,List.getElem?_eq_getElem hpos⟩
  refine wpAny_bind (wpAny_tryCatch (W.item 0 _ _ _ (by rw[hsz]; exact hpos) ⟨ki0,hL0⟩ λv h' tk' hP hst' hk'=>?_))
  have hv:v=Value.ref y.1:=by
   have z:(ts.map λx=>Value.ref x.1).toArray[0]? = some v:=hP
   rw[List.getElem?_toArray,List.getElem?_map,hy]at z
   exact (Option.some.inj z).symm
  subst hv
  have m1:jw X pins σ H s.heap.objs.size (s.heap.push oi).objs.size l 1 #[] { s with heap:=h',toks:=tk' }:=⟨oI.turned (s:={ s with heap:=(s.heap.push oi).push (seqObj "list" #[] 0) }) I0 λb u hb e=>hk' b u (by simpa using hb) e,⟨0,hk' _ _ (by simpa using hSI) gS⟩,hst'.1⟩
  obtain⟨c2,eS2⟩:=m1.seq
  show wpAny _ X.A.in1 (updateSeq (s.heap.push oi).objs.size (λ_=>#[.ref y.1,.ref y.1]) >>= _) _ _ _
  refine wpAny_bind ?_
  refine wpAny_updateSeq eS2 rfl ?_
  rw[hname]
  refine wpAny_pure ⟨plainId_quiet PySem.F.plain_max_loop _,CH hl ht hh hu oS oI hSI hli hQ _ 0 0 _ y rfl hpos (m1.write _ oS hSI) hy (Nat.le_refl _) λj' z hj' hz=>?_⟩
  have e:j'=0:=by omega
  subst e
  rw[hy]at hz; cases hz
  unfold dC; rw[if_pos rfl]; exact decide_eq_false (by omega)
end
def yo(te td:TE):TE:=λσ H Q=>te σ H λx H1=>td σ H1 λy H2=>∃ l ts,x=.ref l/\H2 l=some (.lst (ts.map λx:Addr × Int × Int=>V.ref x.1))/\(∀ x∈ts,H2 x.1=some (.tup [.int x.2.1,.int x.2.2])) /\
 (ts=[]->Q y H2)/\∀ x∈ts,(∀ z∈ts,dC z.2 x.2=false)->Q (.ref x.1) H2
theorem At {X:Cx} {e ed:Expr} {te td:TE} {p pos kp:Pos} {k:Nat} (hr:aS k X.A) (he:QE X e te) (hd:QE X ed td) (hm:X.mg "max" = none) (hg:Gl X "max") (hs:starEach [e] X.env=(false,eval e X.env) :: starEach [] X.env:=by rfl) :
 QE X (.Call (.Name "max" p) [e] [⟨some "default",ed,kp⟩] pos) (yo te td):=⟨λpins s σ H Q I h=>by
 have e1:backTo pos (starEach [e] X.env)=[(false,eval e X.env)]:=by
  unfold backTo; rw[hs]; rfl
 have e2:backTo pos (starEach ([]:List Expr) X.env)=[]:=rfl
 refine wpAny_Call_Name_kw (fA I hg hm (show bootBuiltins "max" = some (.builtin "max") by decide +kernel) ?_ (by decide) (by decide))
 refine callWith_kw (e:=e) (rest:=[]) (kws:=[⟨some "default",ed,kp⟩]) ?_ (by rw[e1,e2]) (by rw[e1]; rfl) rfl rfl
 rw[e1]
 refine Calls.spliced_cons (aj (he.h pins s σ H _ I h) λu s1 ⟨x,H1,I1,r1,q1⟩=>Calls.spliced_nil ?_)
 refine kws_cons (aj (hd.h pins s1 σ H1 _ I1 q1) λdv s2 ⟨y,H2,I2,r2,l,ts,ex,hl,ht,h0,hq⟩=>kws_nil ?_)
 subst ex
 obtain rfl:u=Value.ref l:=r1
 show wpAny _ _ (call (.builtin "max") [.ref l] [(Str.ofString "default",dv)]) _ _ _
 have:=hr.un
 exact CJ I2 hl ht hr.hd (by omega) (λhn s' I'=>⟨y,H2,I',r2,h0 hn⟩) λi x s' hx hb I'=>⟨.ref x.1,H2,I',rfl,hq x (List.mem_of_getElem? hx) λz hz=>by
  obtain⟨j,hj⟩:=List.getElem?_of_mem hz
  exact hb j z hj⟩⟩
structure mM (K:W.Frag) (x qual:Str) (st:Stmt) (f:Addr) (fd:FuncData) (c Pt:Addr):Prop where
 ex : ∃ (oc:Value) (od:Option Addr) (kV doc pm:Value) (an:Option Addr) (ct:Value) (osl:Array (Option Value)),
  fd=W.fnOf x qual (aI st) (aC st) (am st) .none kV doc pm an (.ref c) ct/\K.lookup f=some ⟨oc,od,.func fd,osl⟩/\W.codeIn K (.ref c) qual=true
 hd:W.codeHdIn K c Pt=true
theorem E6{K:W.Frag}{x qual:Str}{st:Stmt}{f c Pt:Addr}{oc:Value}{od an:Option Addr}{osl:Array (Option Value)}{kV doc pm ct:Value}(l:K.lookup f=some ⟨oc,od,.func (W.fnOf x qual (aI st) (aC st) (am st) .none kV doc pm an (.ref c) ct),osl⟩)
 (h:W.codeIn K (.ref c) qual=true) (k:W.codeHdIn K c Pt=true):mM K x qual st f (W.fnOf x qual (aI st) (aC st) (am st) .none kV doc pm an (.ref c) ct) c Pt:=⟨⟨oc,od,kV,doc,pm,an,ct,osl,rfl,l,h⟩,k⟩
theorem mM.okQ{P:Program}{w:World}{K:W.Frag}{mg:Str->Option Value}{base:Heap}{x qual:Str}{st:Stmt}{f c Pt:Addr}{fd:FuncData}{N ps:List Str}{k:Nat}{sp:Sp}(F:mM K x qual st f fd c Pt)(S:aQ N ps (am st))(len : ∀ vs H Q E,sp vs H Q E->vs.length=ps.length)
 (hbody : ∀ (A:Around) (outer:List Env) (s:Shared) (H:Hp) (vs:List V) (Q:VK) (E:XK),aS k (A.deeper (envOfC qual (am st) s.heap.objs.size f (.ref c)))->sp vs H Q E ->
   ∃ t,d7 (fH bI P w K mg base N qual (am st) f (.ref c) A outer s H E).nox (aC st) t/\t { nx:=λ_ H'=>Q .non H',rt:=Q } (dX N vs) H):bt P w K mg base bI (k+1) f fd ps sp:=by
 obtain⟨oc,od,kV,doc,pm,an,ct,osl,rfl,lk,hcd⟩:=F.ex
 refine oW lk hcd S len λA outer s H vs Q E hr hsp=>?_
 obtain⟨t,h,q⟩:=hbody A outer s H vs Q E hr hsp
 exact⟨t,h.h.nox,q⟩
def strOf? : Value->Option Str
 | .str x _=>some x
 | _=>none
def refOf? : Value->Option Addr
 | .ref a=>some a
 | _=>none
def wk:List DictEntry->Option (List (Int × Str × Addr))
 | []=>some []
 | e :: r=>(strOf? e.key).bind λx=>(refOf? e.val).bind λa=>(wk r).map λl=>(e.hash,x,a) :: l
structure Io (K:W.Frag) (w:World) (a:Addr) (m:List (Int × Str × Addr)):Prop where
 ex : ∃ es ep,K.lookup a=some ⟨.type "dict",none,.dict es ep,#[]⟩/\wk es.toList=some m
 hs : ∀ p∈m,p.1=hashStr w p.2.1
 nd:(m.map (·.2.1)).Nodup
 ns:(a == sysModules)=false
structure Im (P:Program) (w:World) (K:W.Frag) (mg:Str->Option Value) (base:Heap) (x:Str) (k:Nat) (f:Addr) (fd:FuncData) (ps:List Str) (dvs:List V) (sp:Sp):Prop where
 g:mg x=some (.ref f)
 kp:W.keepIn K (.ref f)=true
 b : ∃ ds,ay K fd ps ds/\ar dvs ds
 ok:bt P w K mg base bI k f fd ps sp
end L2
namespace My
open PySem L2
def aV(i:Nat):Stmt:=PySem.Challenge.pw_bytetongue_k86_whole_slack_and_step.main.body.getD i (.Pass ⟨0,0,0,0⟩)
abbrev iM:Stmt:=aV 2
abbrev iK:Stmt:=aV 3
abbrev iO:Stmt:=aV 4
abbrev iL:Stmt:=aV 5
abbrev gR:Stmt:=aV 6
abbrev iJ:Stmt:=aV 8
abbrev i0:Stmt:=aV 9
abbrev iZ:Stmt:=aV 10
abbrev i3:Stmt:=aV 11
abbrev fS:Stmt:=aV 12
abbrev iN:Stmt:=aV 13
abbrev gJ:Stmt:=aV 14
abbrev iI:Stmt:=aV 15
abbrev fm:Stmt:=aV 16
abbrev iY:Stmt:=aV 21
abbrev iS:Stmt:=aV 30
abbrev iV:Stmt:=aV 31
abbrev iT:Stmt:=aV 32
abbrev iP:Stmt:=aV 33
abbrev iR:Stmt:=aV 34
abbrev iQ:Stmt:=aV 35
abbrev gQ:Stmt:=aV 36
abbrev iU:Stmt:=aV 42
abbrev iW:Stmt:=aV 43
abbrev iX:Stmt:=aV 44
abbrev i7:Stmt:=fY (aV 45) 0
abbrev i9:Stmt:=fY (aV 45) 1
abbrev gU:Stmt:=fY (aV 45) 2
abbrev i6:Stmt:=fY (aV 45) 5
abbrev i8:Stmt:=fY (aV 45) 6
abbrev gT:Stmt:=fY (aV 45) 7
abbrev i4:Stmt:=fY (aV 38) 1
abbrev i5:Stmt:=fY (aV 38) 6
abbrev iH:Stmt:=aV 47
abbrev iG:Stmt:=aV 48
abbrev fQ:Stmt:=aV 49
abbrev gH:Stmt:=aV 50
abbrev fR:Stmt:=aV 51
theorem ni:aQ ["tongue", "spot", "unit", "begun", "found"] ["tongue", "spot", "unit"] (am iM):=by constructor<;>first|rfl|decide +kernel
theorem kO:aQ ["tongue", "spots", "unit", "behind", "spot", "goal"] ["tongue", "spots", "unit"] (am iK):=by constructor<;>first|rfl|decide +kernel
theorem gC:aQ ["tongue", "units", "layer", "page", "begun", "layers", "unit"] ["tongue", "units"] (am iO):=by constructor<;>first|rfl|decide +kernel
theorem nh:aQ ["layer", "spots", "found", "spot"] ["layer", "spots"] (am iL):=by constructor<;>first|rfl|decide +kernel
theorem eC:aQ ["tongue", "row", "size", "layers", "many", "spots", "least", "layer"] ["tongue", "row"] (am gR):=by constructor<;>first|rfl|decide +kernel
theorem iC:aQ ["tongue", "steps", "sign", "row", "size", "begun"] ["tongue"] (am iJ):=by constructor<;>first|rfl|decide +kernel
theorem kR:aQ ["steps", "one", "other", "found", "byte", "goal"] ["steps", "one", "other"] (am i0):=by constructor<;>first|rfl|decide +kernel
theorem kQ:aQ ["steps", "apart", "one", "other"] ["steps"] (am iZ):=by constructor<;>first|rfl|decide +kernel
theorem iE:aQ ["apart", "found", "pair", "behind", "goal"] ["apart"] (am i3):=by constructor<;>first|rfl|decide +kernel
theorem fk:aQ ["apart", "far", "ahead", "unknown", "pair", "behind", "known", "earlier"] ["apart"] (am fS):=by constructor<;>first|rfl|decide +kernel
theorem kP:aQ ["apart", "far", "pair", "row", "byte"] ["apart", "far", "pair"] (am iN):=by constructor<;>first|rfl|decide +kernel
theorem jK:aQ ["apart", "far", "pair", "row", "met", "onward"] ["apart", "far", "pair"] (am gJ):=by constructor<;>first|rfl|decide +kernel
theorem zl:aQ ["pair", "row"] ["pair", "row"] (am iI):=by constructor<;>first|rfl|decide +kernel
theorem iD:aQ ["tongue", "apart", "far", "endless", "trip", "pair"] ["tongue"] (am fm):=by constructor<;>first|rfl|decide +kernel
theorem zx:aQ ["one", "other"] ["one", "other"] (am iY):=by constructor<;>first|rfl|decide +kernel
theorem zq:aQ ["thing"] ["thing"] (am iS):=by constructor<;>first|rfl|decide +kernel
theorem zu:aQ ["thing"] ["thing"] (am iV):=by constructor<;>first|rfl|decide +kernel
theorem zr:aQ ["number"] ["number"] (am iT):=by constructor<;>first|rfl|decide +kernel
theorem zm:aQ ["number"] ["number"] (am iP):=by constructor<;>first|rfl|decide +kernel
theorem zo:aQ ["thing"] ["thing"] (am iR):=by constructor<;>first|rfl|decide +kernel
theorem zn:aQ ["thing"] ["thing"] (am iQ):=by constructor<;>first|rfl|decide +kernel
theorem zp:aQ ["thing"] ["thing"] (am gQ):=by constructor<;>first|rfl|decide +kernel
theorem zt:aQ ["thing"] ["thing"] (am iU):=by constructor<;>first|rfl|decide +kernel
theorem zw:aQ ["one", "other"] ["one", "other"] (am iW):=by constructor<;>first|rfl|decide +kernel
theorem jL:aQ ["rows", "other", "entry", "one", "earlier"] ["rows"] (am iX):=by constructor<;>first|rfl|decide +kernel
theorem tf:aQ ["self", "rows", "entry"] ["self", "rows"] (am i7):=by constructor<;>first|rfl|decide +kernel
theorem tm:aQ ["self", "sign", "row", "size"] ["self", "sign", "row"] (am i9):=by constructor<;>first|rfl|decide +kernel
theorem zA:aQ ["self"] ["self"] (am gU):=by constructor<;>first|rfl|decide +kernel
theorem sZ:aQ ["self", "row", "page", "sign"] ["self", "row", "page"] (am i6):=by constructor<;>first|rfl|decide +kernel
theorem tj:aQ ["self", "row", "page", "rest"] ["self", "row", "page"] (am i8):=by constructor<;>first|rfl|decide +kernel
theorem zz:aQ ["self"] ["self"] (am gT):=by constructor<;>first|rfl|decide +kernel
theorem zy:aQ ["self"] ["self"] (am i4):=by constructor<;>first|rfl|decide +kernel
theorem sY:aQ ["self", "begun", "page", "found"] ["self", "begun", "page"] (am i5):=by constructor<;>first|rfl|decide +kernel
theorem zk:aQ ["_law_script", "_law_k"] ["_law_script", "_law_k"] (am iH):=by constructor<;>first|rfl|decide +kernel
theorem zj:aQ ["_law_found"] ["_law_found"] (am iG):=by constructor<;>first|rfl|decide +kernel
theorem gA:aQ ["_law_cells", "_law_found", "_law_cell", "_law_number", "_law_row", "_law_k"] ["_law_cells"] (am fQ):=by constructor<;>first|rfl|decide +kernel
theorem zi:aQ ["_law_rows_here", "_law_cells"] ["_law_rows_here", "_law_cells"] (am gH):=by constructor<;>first|rfl|decide +kernel
theorem cX:aQ ["_law_script", "_law_rows_here", "_law_tongue", "_law_word", "_law_many", "_law_witness", "_law_row", "_law_begins_at", "_law_whole", "_law_cut", "_law_most", "_law_found"] ["_law_script"] (am fR):=by constructor<;>first|rfl|decide +kernel
set_option genInjectivity false in
structure Adr where
 qK:Addr
 ph:FuncData
 qI:Addr
 o9:FuncData
 qM:Addr
 pq:FuncData
 qJ:Addr
 pb:FuncData
 qX:Addr
 pG:FuncData
 qH:Addr
 o7:FuncData
 rf:Addr
 pN:FuncData
 re:Addr
 pM:FuncData
 rg:Addr
 pO:FuncData
 qY:Addr
 pH:FuncData
 qL:Addr
 pk:FuncData
 qG:Addr
 o6:FuncData
 qF:Addr
 o5:FuncData
 mC:Addr
 ma:FuncData
 rc:Addr
 pL:FuncData
 qT:Addr
 pC:FuncData
 qW:Addr
 pF:FuncData
 qU:Addr
 pD:FuncData
 qO:Addr
 pv:FuncData
 qQ:Addr
 pA:FuncData
 qP:Addr
 pz:FuncData
 qR:Addr
 pB:FuncData
 qV:Addr
 pE:FuncData
 qZ:Addr
 pJ:FuncData
 q9:Addr
 pK:FuncData
 mF:Addr
 me:FuncData
 rk:Addr
 pT:FuncData
 rj:Addr
 pR:FuncData
 mE:Addr
 j5:FuncData
 ud_TableTongue_whole_0:Tok
 mG:Addr
 j6:FuncData
 ud_TableTongue_fill_0:Tok
 ri:Addr
 pQ:FuncData
 rh:Addr
 pP:FuncData
 mD:Addr
 j4:FuncData
 ud_Tongue_look_0:Tok
 qE:Addr
 o4:FuncData
 qD:Addr
 oZ:FuncData
 qC:Addr
 oY:FuncData
 qB:Addr
 oX:FuncData
 qN:Addr
 md:FuncData
 bf:Addr
 xU:Tok
 xT:Tok
 xS:Tok
 xR:Tok
 xQ:Tok
 xP:Tok
 xO:Tok
 xN:Tok
 xM:Tok
structure Txt (K:PySem.W.Frag) (mg:Str->Option Value) (t:Adr):Prop where
 xn:aU K "spot_behind" "spot_behind" iM t.qK t.ph
 GI:ay K t.ph ["tongue", "spot", "unit"] []
 Er:mg "spot_behind" = some (.ref t.qK)
 xk:aU K "spots_behind" "spots_behind" iK t.qI t.o9
 GG:ay K t.o9 ["tongue", "spots", "unit"] []
 Eo:mg "spots_behind" = some (.ref t.qI)
 xp:aU K "layers_along" "layers_along" iO t.qM t.pq
 GL:ay K t.pq ["tongue", "units"] []
 Ez:mg "layers_along" = some (.ref t.qM)
 xl:aU K "spots_ahead" "spots_ahead" iL t.qJ t.pb
 GH:ay K t.pb ["layer", "spots"] []
 Ep:mg "spots_ahead" = some (.ref t.qJ)
 xz:aU K "in_step" "in_step" gR t.qX t.pG
 GV:ay K t.pG ["tongue", "row"] []
 EJ:mg "in_step" = some (.ref t.qX)
 xj:aU K "steps_of" "steps_of" iJ t.qH t.o7
 GF:ay K t.o7 ["tongue"] []
 En:mg "steps_of" = some (.ref t.qH)
 xF:aU K "apart_behind" "apart_behind" i0 t.rf t.pN
 G2:ay K t.pN ["steps", "one", "other"] []
 EV:mg "apart_behind" = some (.ref t.rf)
 xE:aU K "apart_of" "apart_of" iZ t.re t.pM
 G1:ay K t.pM ["steps"] []
 EU:mg "apart_of" = some (.ref t.re)
 xG:aU K "ahead_of" "ahead_of" i3 t.rg t.pO
 G3:ay K t.pO ["apart"] []
 EW:mg "ahead_of" = some (.ref t.rg)
 xA:aU K "farthest" "farthest" fS t.qY t.pH
 GW:ay K t.pH ["apart"] []
 EN:mg "farthest" = some (.ref t.qY)
 xo:aU K "row_apart" "row_apart" iN t.qL t.pk
 GK:ay K t.pk ["apart", "far", "pair"] []
 Ew:mg "row_apart" = some (.ref t.qL)
 xi:aU K "trip_from" "trip_from" gJ t.qG t.o6
 GE:ay K t.o6 ["apart", "far", "pair"] []
 Em:mg "trip_from" = some (.ref t.qG)
 xh:aU K "witness" "witness" iI t.qF t.o5
 GD:ay K t.o5 ["pair", "row"] []
 El:mg "witness" = some (.ref t.qF)
 Ht:aU K "slack" "slack" fm t.mC t.ma
 wZ:mM K "slack" "slack" fm t.mC t.ma 110 108
 GJ:ay K t.ma ["tongue"] []
 Et:mg "slack" = some (.ref t.mC)
 xD:aU K "begins" "begins" iY t.rc t.pL
 GZ:ay K t.pL ["one", "other"] []
 ET:mg "begins" = some (.ref t.rc)
 xv:aU K "is_number" "is_number" iS t.qT t.pC
 GR:ay K t.pC ["thing"] []
 EF:mg "is_number" = some (.ref t.qT)
 xy:aU K "is_byte" "is_byte" iV t.qW t.pF
 GU:ay K t.pF ["thing"] []
 EI:mg "is_byte" = some (.ref t.qW)
 xw:aU K "is_head" "is_head" iT t.qU t.pD
 GS:ay K t.pD ["number"] []
 EG:mg "is_head" = some (.ref t.qU)
 xq:aU K "is_tail" "is_tail" iP t.qO t.pv
 GN:ay K t.pv ["number"] []
 EB:mg "is_tail" = some (.ref t.qO)
 xt:aU K "is_seen_byte" "is_seen_byte" iR t.qQ t.pA
 GP:ay K t.pA ["thing"] []
 ED:mg "is_seen_byte" = some (.ref t.qQ)
 xr:aU K "is_sign" "is_sign" iQ t.qP t.pz
 GO:ay K t.pz ["thing"] []
 EC:mg "is_sign" = some (.ref t.qP)
 xu:aU K "is_row" "is_row" gQ t.qR t.pB
 GQ:ay K t.pB ["thing"] []
 EE:mg "is_row" = some (.ref t.qR)
 xx:aU K "is_entry" "is_entry" iU t.qV t.pE
 GT:ay K t.pE ["thing"] []
 EH:mg "is_entry" = some (.ref t.qV)
 xB:aU K "collide" "collide" iW t.qZ t.pJ
 GX:ay K t.pJ ["one", "other"] []
 EQ:mg "collide" = some (.ref t.qZ)
 xC:aU K "check_table" "check_table" iX t.q9 t.pK
 GY:ay K t.pK ["rows"] []
 ER:mg "check_table" = some (.ref t.q9)
 Hz:aU K "__init__" "TableTongue.__init__" i7 t.mF t.me
 G9:ay K t.me ["self", "rows"] []
 HR:aU K "enter" "TableTongue.enter" i9 t.rk t.pT
 Hb:ay K t.pT ["self", "sign", "row"] []
 Hy:aU K "rows" "TableTongue.rows" gU t.rj t.pR
 G8:ay K t.pR ["self"] []
 Hw:gp K "whole" "TableTongue.whole" i6 t.mE t.j5 [.int 0 t.ud_TableTongue_whole_0]
 HX:ay K t.j5 ["self", "row", "page"] [.int 0 t.ud_TableTongue_whole_0]
 G6:ay K t.j5 ["self", "row", "page"] []
 HH:gp K "fill" "TableTongue.fill" i8 t.mG t.j6 [.int 0 t.ud_TableTongue_fill_0]
 HY:ay K t.j6 ["self", "row", "page"] [.int 0 t.ud_TableTongue_fill_0]
 Ha:ay K t.j6 ["self", "row", "page"] []
 Hx:aU K "spots" "TableTongue.spots" gT t.ri t.pQ
 G7:ay K t.pQ ["self"] []
 Hu:aU K "unit" "Tongue.unit" i4 t.rh t.pP
 G4:ay K t.pP ["self"] []
 Hv:gp K "look" "Tongue.look" i5 t.mD t.j4 [.int 0 t.ud_Tongue_look_0]
 HW:ay K t.j4 ["self", "begun", "page"] [.int 0 t.ud_Tongue_look_0]
 G5:ay K t.j4 ["self", "begun", "page"] []
 xf:aU K "_law_pick" "_law_pick" iH t.qE t.o4
 GC:ay K t.o4 ["_law_script", "_law_k"] []
 Ek:mg "_law_pick" = some (.ref t.qE)
 xc:aU K "_law_plain" "_law_plain" iG t.qD t.oZ
 GB:ay K t.oZ ["_law_found"] []
 Ej:mg "_law_plain" = some (.ref t.qD)
 xb:aU K "_law_rows" "_law_rows" fQ t.qC t.oY
 GA:ay K t.oY ["_law_cells"] []
 Ei:mg "_law_rows" = some (.ref t.qC)
 xa:aU K "_law_signs" "_law_signs" gH t.qB t.oX
 Gz:ay K t.oX ["_law_rows_here", "_law_cells"] []
 Eh:mg "_law_signs" = some (.ref t.qB)
 rF:aU K "law" "law" fR t.qN t.md
 GM:ay K t.md ["_law_script"] []
 vJ:mg "law" = some (.ref t.qN)
 Eg:mg "TableTongue" = some (.ref t.bf)
 cF:dt K t.bf
 Cp:Mk K t.bf t.mF
 Cn:dF K t.bf "enter" t.rk
 Cl:dF K t.bf "rows" t.rj
 Cj:dF K t.bf "whole" t.mE
 Cm:dF K t.bf "fill" t.mG
 Ck:dF K t.bf "spots" t.ri
 mt_TableTongue_unit:dF K t.bf "unit" t.rh
 mt_TableTongue_look:dF K t.bf "look" t.mD
 lI:fK K t.bf "rest_by_row"
 oa:fK K t.bf "row_by_sign"
 n6:fK K t.bf "sign_by_row"
 HU : ∀ H a dx fs,H a=some (.ins t.bf dx fs)->cz K H (.ref a) (.ref t.bf)
 Gq:mg "FIRST_HEAD" = some (.int 55296 t.xU)
 Gp:mg "FIRST_SEEN" = some (.int 61184 t.xT)
 wH:mg "FIRST_TAIL" = some (.int 56320 t.xS)
 Go:mg "LAST_BYTE" = some (.int 255 t.xR)
 Gn:mg "LAST_SEEN" = some (.int 61439 t.xQ)
 Gm:mg "LAST_SIGN" = some (.int 1114111 t.xP)
 Gk:mg "LAST_TAIL" = some (.int 57343 t.xO)
 Gj:mg "MOST_BYTES" = some (.int 6 t.xN)
 Gi:mg "MOST_TUPLES" = some (.int 64 t.xM)
 n_all:mg "all" = none
 n_bool:mg "bool" = none
 n_enumerate:mg "enumerate" = none
 n_int:mg "int" = none
 n_isinstance:mg "isinstance" = none
 n_len:mg "len" = none
 n_list:mg "list" = none
 n_max:mg "max" = none
 n_range:mg "range" = none
 n_reversed:mg "reversed" = none
 n_sum:mg "sum" = none
 n_tuple:mg "tuple" = none
end My
namespace My
open PySem L2
def hU:V->Bool
 | .int _=>true
 | _=>false
def cb(v:V)(lo hi:Int):Bool:=match v with
 | .int i=>decide (lo<=i) && decide (i<=hi)
 | _=>false
def fE(v:V):Bool:=cb v 0 1114111 && !(cb v 55296 57343) && !(cb v 61184 61439)
theorem ow{v:V}(h:hU v=true) : ∃ i,v=.int i:=by
 cases v <;> first | exact⟨_,rfl⟩ | cases h
def jJ(f:V->Bool)(K:PySem.W.Frag):Sp:=λvs H Q _=>∃ v,vs=[v]/\dH K H v/\Q (.bl (f v)) H
def na(f:Int->Bool):Sp:=λvs H Q _=>∃ i,vs=[.int i]/\Q (.bl (f i)) H
theorem lQ{f:V->Bool}{K:PySem.W.Frag}{x:Str} : ∀ vs H Q E,jJ f K vs H Q E->vs.length=[x].length:=λvs H Q E h=>by
 obtain⟨v,rfl,_⟩:=h
 rfl
theorem uV{f:Int->Bool}{x:Str} : ∀ vs H Q E,na f vs H Q E->vs.length=[x].length:=λvs H Q E h=>by
 obtain⟨v,rfl,_⟩:=h
 rfl
def Sg(n:Int):Prop:=0<=n/\n<=1114111/\¬ (55296<=n/\n<=57343)/\¬ (61184<=n/\n<=61439)
theorem zd(n:Int):fE (.int n)=true ↔ Sg n:=by
 unfold fE cb Sg
 simp
 omega
def az{α β:Type}(R:α->β->Prop)(xs:List α)(ys:List β):Prop:=xs.length=ys.length/\∀ (i:Nat) x y,xs[i]? = some x->ys[i]? = some y->R x y
theorem az.nil{α β:Type}{R:α->β->Prop}:az R [] []:=⟨rfl,λi x y h=>by simp at h⟩
theorem az.cons{α β:Type}{R:α->β->Prop}{x:α}{y:β}{xs:List α}{ys:List β}(h:R x y)(t:az R xs ys):az R (x :: xs) (y :: ys):=⟨by simp[t.1],λi a b ha hb=>by
 cases i with
 | zero=>simp at ha hb; subst ha hb; exact h
 | succ i=>exact t.2 i a b (by simpa using ha) (by simpa using hb)⟩
theorem az.imp{α β:Type}{R S:α->β->Prop}{xs:List α}{ys:List β}(h:az R xs ys)(k : ∀ x y,R x y->S x y):az S xs ys:=⟨h.1,λi x y a b=>k x y (h.2 i x y a b)⟩
theorem az.app{α β:Type}{R:α->β->Prop}{xs us:List α}{ys vs:List β}(h:az R xs ys)(k:az R us vs):az R (xs++us) (ys++vs):=by
 refine⟨by simp[h.1,k.1],λi x y a b=>?_⟩
 by_cases hi:i < xs.length
 ·rw[List.getElem?_append_left hi]at a
  rw[List.getElem?_append_left (by rw[<- h.1]; exact hi)]at b
  exact h.2 i x y a b
 ·rw[List.getElem?_append_right (by omega)]at a
  rw[List.getElem?_append_right (by rw[<- h.1]; omega),<- h.1]at b
  exact k.2 _ x y a b
theorem az.right{α β:Type}{R:α->β->Prop}{xs:List α}{ys:List β}(h:az R xs ys){i:Nat}{x:α}(hx:xs[i]? = some x) : ∃ y,ys[i]? = some y/\R x y:=by
 have hi:=(List.getElem?_eq_some_iff.mp hx).1
 have hy:ys[i]? = some (ys[i]'(by rw[<- h.1]; exact hi)):=by simp
 exact⟨_,hy,h.2 i x _ hx hy⟩
theorem az.left{α β:Type}{R:α->β->Prop}{xs:List α}{ys:List β}(h:az R xs ys){i:Nat}{y:β}(hy:ys[i]? = some y) : ∃ x,xs[i]? = some x/\R x y:=by
 have hi:=(List.getElem?_eq_some_iff.mp hy).1
 have hx:xs[i]? = some (xs[i]'(by rw[h.1]; exact hi)):=by simp
 exact⟨_,hx,h.2 i _ y hx hy⟩
def Kp(a:Addr)(H H':Hp):Prop:=∀ c u,c≠a->H c=some u->H' c=some u
theorem Kp.trans{a:Addr}{H H1 H2:Hp}(h:Kp a H H1)(h':Kp a H1 H2):Kp a H H2:=λc u n e=>h' c u n (h c u n e)
theorem Kp.of{a:Addr}{H H1:Hp}(h:ag H H1):Kp a H H1:=λc u _ e=>h c u e
theorem Kp.upd{a:Addr}{H:Hp}{o:HO}:Kp a H (upd H a o):=λc u n e=>by rw[ak n]; exact e
end My
namespace My
open PySem L2
section
variable {P:Program}{w:World}{K:PySem.W.Frag}{mg:Str->Option Value}{base:Heap}{t:Adr}
theorem oG (T:Txt K mg t):bj P w K mg base "is_number" 1 t.qT t.pC ["thing"] (jJ hU K):=by
 refine⟨T.EF,T.xv.kp,T.GR,T.xv.okQ zq lQ λcdv A outer s H vs Q E hr h=>?_⟩
 obtain⟨v,rfl,kd,k⟩:=h
 refine⟨_,(au (aJ (c8 (be (jq (K:=K) rfl) T.n_isinstance PyProof.Rows.boot_isinstance (af (aa 0) (af (jb rfl T.n_int PyProof.Rows.boot_int) ai))) (dY (tT (be (jq (K:=K) rfl) T.n_isinstance PyProof.Rows.boot_isinstance (af (aa 0) (af (jb rfl T.n_bool PyProof.Rows.boot_bool) ai)))))))),?_⟩
 obtain⟨ty,hty,e0⟩:=kd.isInt
 refine⟨ty,_,hty,e0,?_⟩
 refine aF (λe=>?_) (λe=>?_)
 ·obtain⟨ty,hty,e0⟩:=kd.isBl
  refine⟨ty,_,hty,e0,?_⟩
  exact bD k (by cases v <;> simp_all [hU,ox,vh])
 ·exact bD k (by cases v <;> simp_all [hU,ox])
theorem DR (T:Txt K mg t):bj P w K mg base "is_head" 1 t.qU t.pD ["number"] (na λi=>decide (55296<=i) && decide (i < 56320)):=by
 refine⟨T.EG,T.xw.kp,T.GS,T.xw.okQ zr uV λcdv A outer s H vs Q E hr h=>?_⟩
 obtain⟨i,rfl,k⟩:=h
 refine⟨_,(au (aJ (jN dD lX (eK T.Gq) (aa 0) (eK T.wH)))),?_⟩
 refine aF (λe1=>?_) (λe1=>?_)
 ·exact bD k (by simp at *; omega)
 ·exact bD k (by simp at *; omega)
theorem DK (T:Txt K mg t):bj P w K mg base "is_tail" 1 t.qO t.pv ["number"] (na λi=>decide (56320<=i) && decide (i<=57343)):=by
 refine⟨T.EB,T.xq.kp,T.GN,T.xq.okQ zm uV λcdv A outer s H vs Q E hr h=>?_⟩
 obtain⟨i,rfl,k⟩:=h
 refine⟨_,(au (aJ (jN dD dD (eK T.wH) (aa 0) (eK T.Gk)))),?_⟩
 refine aF (λe1=>?_) (λe1=>?_)
 ·exact bD k (by simp at *; omega)
 ·exact bD k (by simp at *; omega)
theorem DM (T:Txt K mg t):bj P w K mg base "is_seen_byte" 2 t.qQ t.pA ["thing"] (jJ (λv=>cb v 61184 61439) K):=by
 refine⟨T.ED,T.xt.kp,T.GP,T.xt.okQ zo lQ λcdv A outer s H vs Q E hr h=>?_⟩
 obtain⟨v,rfl,kd,k⟩:=h
 refine⟨_,(au (aJ (c8 (aX (oG T) hr (af (aa 0) ai)) (dY (jN dD dD (eK T.Gp) (aa 0) (eK T.Gn)))))),?_⟩
 refine⟨v,rfl,kd,?_⟩
 refine aF (λe=>?_) (λe=>?_)
 ·obtain⟨i,rfl⟩:=ow e
  refine aF (λe1=>?_) (λe1=>?_)
  ·exact bD k (by simp[cb]at *; omega)
  ·exact bD k (by simp[cb]at *; omega)
 ·exact bD k (by cases v <;> simp_all [hU,cb])
theorem DL (T:Txt K mg t):bj P w K mg base "is_sign" 3 t.qP t.pz ["thing"] (jJ fE K):=by
 refine⟨T.EC,T.xr.kp,T.GO,T.xr.okQ zn lQ λcdv A outer s H vs Q E hr h=>?_⟩
 obtain⟨v,rfl,kd,k⟩:=h
 refine⟨_,(ap (bM (jc (ja (ft (gX (aX (oG T) hr (af (aa 0) ai)))) (kW (ft (Ap dD dD av (aa 0) (eK T.Gm)))))) (au (aJ gW)) bL)
  (au (aJ (tT (lh (aX (DR T) hr (af (aa 0) ai)) (lh (aX (DK T) hr (af (aa 0) ai)) (dY (aX (DM T) hr (af (aa 0) ai))))))))),?_⟩
 refine⟨v,rfl,kd,?_⟩
 refine aF (λe=>?_) (λe=>?_)
 ·refine fX ?_
  exact bD k (by cases v <;> simp_all [hU,cb,fE])
 ·obtain⟨i,rfl⟩:=ow (v:=v) (by simpa using e)
  refine aF (λe1=>?_) (λe1=>?_)
  ·refine aF (λe2=>?_) (λe2=>?_)
   ·exact bD k (by simp[fE,cb]at *; omega)
   ·refine⟨i,rfl,?_⟩
    refine aF (λe3=>?_) (λe3=>?_)
    ·exact bD k (by simp[fE,cb]at *; omega)
    ·refine⟨i,rfl,?_⟩
     refine aF (λe4=>?_) (λe4=>?_)
     ·exact bD k (by simp[fE,cb]at *; omega)
     ·refine⟨_,rfl,kd,?_⟩
      exact bD k (by rw[Bool.eq_iff_iff]; simp[fE,cb]at *; omega)
  ·refine fX ?_
   exact bD k (by simp[fE,cb]at *; omega)
theorem DT (T:Txt K mg t):bj P w K mg base "is_byte" 2 t.qW t.pF ["thing"] (jJ (λv=>cb v 0 255) K):=by
 refine⟨T.EI,T.xy.kp,T.GU,T.xy.okQ zu lQ λcdv A outer s H vs Q E hr h=>?_⟩
 obtain⟨v,rfl,kd,k⟩:=h
 refine⟨_,(au (aJ (c8 (aX (oG T) hr (af (aa 0) ai)) (dY (jN dD dD av (aa 0) (eK T.Go)))))),?_⟩
 refine⟨v,rfl,kd,?_⟩
 refine aF (λe=>?_) (λe=>?_)
 ·obtain⟨i,rfl⟩:=ow e
  refine aF (λe1=>?_) (λe1=>?_)
  ·exact bD k (by simp[cb]at *; omega)
  ·exact bD k (by simp[cb]at *; omega)
 ·exact bD k (by cases v <;> simp_all [hU,cb])
def bd(one other:List Int):Bool:=decide (other.take one.length=one)
def y4(K:PySem.W.Frag):Sp:=λvs H Q _=>∃ (a b:Addr) (x y:List Int),vs=[.ref a,.ref b]/\ax K H a (x.map V.int)/\ax K H b (y.map V.int)/\∀ H',ag H H'->Q (.bl (bd x y)) H'
theorem jo(ns:List Int)(k:Nat):cy (ns.map V.int) none (some (k:Int))=(ns.take k).map V.int:=by rw[ia,wx]
theorem vC (T:Txt K mg t):bj P w K mg base "begins" 1 t.rc t.pL ["one", "other"] (y4 K):=by
 refine⟨T.ET,T.xD.kp,T.GZ,T.xD.okQ zx (λvs H Q E h=>by obtain⟨a,b,x,y,rfl,_⟩:=h; rfl) λcdv A outer s H vs Q E hr h=>?_⟩
 obtain⟨a,b,x,y,rfl,ha,hb,k⟩:=h
 have hu:=hr.units
 refine⟨_,(au (aJ (dR (eT (K:=K) rfl hu) (c7 (dS (K:=K) rfl) (aa 1) eI (cr (be (bR (K:=K) rfl) T.n_len PySem.boot_len (af (aa 0) ai)))) (aa 0) (bc _)))),?_⟩
 refine⟨_,.inl ha,_,rfl,_,hb,λp1 H1 g1=>?_⟩
 rw[List.length_map,jo]at g1
 exact pU g1.lst (g1.sm.seq ha) (k H1 g1.sm)
structure iu (H:Hp) (p:Addr) (s:Int) (r:List Int):Prop where
 h : ∃ q,H p=some (.tup [.int s,.ref q])/\H q=some (.lst (r.map V.int))
 l:1<=r.length/\r.length<=6
theorem iu.mono{H H':Hp}{p:Addr}{s:Int}{r:List Int}(h:iu H p s r)(k:ag H H'):iu H' p s r:=by
 obtain⟨⟨q,a,b⟩,l⟩:=h
 exact⟨⟨q,k _ _ a,k _ _ b⟩,l⟩
def de(e f:Int × List Int):Bool:=decide (e.1=f.1) || bd e.2 f.2 || bd f.2 e.2
def yZ:Sp:=λvs H Q _=>∃ (a b:Addr) (e f:Int × List Int),vs=[.ref a,.ref b]/\iu H a e.1 e.2/\iu H b f.1 f.2/\∀ H',ag H H'->Q (.bl (de e f)) H'
theorem DV (T:Txt K mg t):bj P w K mg base "collide" 2 t.qZ t.pJ ["one", "other"] yZ:=by
 refine⟨T.EQ,T.xB.kp,T.GX,T.xB.okQ zw (λvs H Q E h=>by obtain⟨a,b,x,y,rfl,_⟩:=h; rfl) λcdv A outer s H vs Q E hr h=>?_⟩
 obtain⟨a,b,⟨s1,r1⟩,⟨s2,r2⟩,rfl,⟨⟨q1,ha,hq1⟩,_⟩,⟨⟨q2,hb,hq2⟩,_⟩,k⟩:=h
 dsimp only at ha hq1 hb hq2
 have hu:=hr.units
 refine⟨_,(au (aJ (lh (dR (eT (K:=K) rfl hu) (aK (aL (K:=K) rfl) (aa 0) av (λ_ _=>rfl)) (aK (aL (K:=K) rfl) (aa 1) av (λ_ _=>rfl)) (bc _)) (lh (aX (vC T) hr (af (aK (aL (K:=K) rfl) (aa 0) av (λ_ _=>rfl)) (af (aK (aL (K:=K) rfl) (aa 1) av (λ_ _=>rfl)) ai))) (dY (aX (vC T) hr (af (aK (aL (K:=K) rfl) (aa 1) av (λ_ _=>rfl)) (af (aK (aL (K:=K) rfl) (aa 0) av (λ_ _=>rfl)) ai)))))))),?_⟩
 refine⟨_,_,.inr (.of ha),aZ (j:=0) rfl,?_⟩
 refine⟨_,_,.inr (.of hb),aZ (j:=0) rfl,?_⟩
 refine aF (λz=>?_) (λz=>?_)
 ·refine bD (k H (ag.refl _)) ?_
  have z:decide (s1=s2)=true:=z
  show (decide (s1=s2) || bd r1 r2 || bd r2 r1)=true
  rw[z]; rfl
 have z : ¬ decide (s1=s2)=true:=z
 refine⟨_,_,.inr (.of ha),aZ (j:=1) rfl,?_⟩
 refine⟨_,_,.inr (.of hb),aZ (j:=1) rfl,?_⟩
 refine⟨q1,q2,r1,r2,rfl,.of hq1,.of hq2,λH1 k1=>?_⟩
 refine aF (λy=>?_) (λy=>?_)
 ·refine bD (k H1 k1) ?_
  have y:bd r1 r2=true:=y
  show (decide (s1=s2) || bd r1 r2 || bd r2 r1)=true
  rw[y]; simp
 have y : ¬ bd r1 r2=true:=y
 refine⟨_,_,.inr (.of (k1 _ _ hb)),aZ (j:=1) rfl,?_⟩
 refine⟨_,_,.inr (.of (k1 _ _ ha)),aZ (j:=1) rfl,?_⟩
 refine⟨q2,q1,r2,r1,rfl,.of (k1 _ _ hq2),.of (k1 _ _ hq1),λH2 k2=>?_⟩
 refine bD (k H2 (k1.trans k2)) ?_
 show (decide (s1=s2) || bd r1 r2 || bd r2 r1)=bd r2 r1
 simp at z y
 simp[z,y]
structure Es (es:List (Int × List Int)):Prop where
 sg : ∀ e∈es,Sg e.1/\1<=e.2.length/\e.2.length<=6/\∀ b∈e.2,0<=b/\b<=255
 pw:es.Pairwise λe f=>de e f=false
 l:es.length<=64
theorem FN(e f:Int × List Int):de e f=de f e:=by
 unfold de
 rw[show decide (e.1=f.1)=decide (f.1=e.1) by simp[eq_comm],Bool.or_assoc,Bool.or_assoc,Bool.or_comm (bd e.2 f.2)]
theorem Es.two{es:List (Int × List Int)}(h:Es es){e f:Int × List Int}(he:e∈es)(hf:f∈es):e=f\/de e f=false:=by
 obtain⟨i,hi,rfl⟩:=List.mem_iff_getElem.mp he
 obtain⟨j,hj,rfl⟩:=List.mem_iff_getElem.mp hf
 rcases Nat.lt_trichotomy i j with c | c | c
 ·exact .inr (List.pairwise_iff_getElem.mp h.pw i j hi hj c)
 ·subst c; exact .inl rfl
 ·rw[FN]; exact .inr (List.pairwise_iff_getElem.mp h.pw j i hj hi c)
def rG(H:Hp)(ps:List Addr)(es:List (Int × List Int)):Prop:=az (λa e=>iu H a e.1 e.2) ps es
def yF(K:PySem.W.Frag):Sp:=λvs H Q _=>∃ (q:Addr) (r:List Int),vs=[.ref q]/\H q=some (.lst (r.map V.int))/\(∀ b∈r,0<=b/\b<=255)/\r.length<=1000/\∀ H',ag H H'->Q (.bl true) H'
theorem DO (T:Txt K mg t):bj P w K mg base "is_row" 3 t.qR t.pB ["thing"] (yF K):=by
 refine⟨T.EE,T.xu.kp,T.GQ,T.xu.okQ zp (λvs H Q E h=>by obtain⟨q,r,rfl,_⟩:=h; rfl) λcdv A outer s H vs Q E hr h=>?_⟩
 obtain⟨q,r,rfl,hq,hb,hl,k⟩:=h
 refine⟨_,(au (aJ (c8 (be (jq (K:=K) rfl) T.n_isinstance PyProof.Rows.boot_isinstance (af (aa 0) (af (jb rfl T.n_list PyProof.Rows.boot_list) ai))) (dY (be (wG (K:=K) rfl rfl) T.n_all PyProof.Rows.boot_all (af (eJ rfl (bZ.of (fns:=(am gQ).names) (N:=["thing"]) (Nc:=["each"]) (nv:=1) (caps:=[]) rfl rfl (by decide +kernel)) (dz (K:=K) rfl (aa 0)) (λ_ _ _ _=>(aD (i:=0) (show List.Nodup (["each"]:List Str) by decide +kernel) rfl (Or.inl rfl) (Or.inr rfl))) (λ_ _ _ _=>fq) (λ_ _ _ _=>(aX (DT T) hr (af (aa 0) ai)))) ai)))))),?_⟩
 refine⟨_,_,.lst hq,by with_unfolding_all rfl,?_⟩
 refine fX ?_
 refine⟨q,rfl,⟨_,.of hq⟩,mv ((r.map λ_=>true).map V.bl) (by simp) (.of hq) (ce (by rw[List.length_map]; omega)) (λi x y H4 N hx hy s4 hN=>?_) λp3 H3 g3=>?_⟩
 ·obtain⟨o,ho,rfl⟩:=oz hx
  rw[List.getElem?_map,List.getElem?_map,ho]at hy
  cases hy
  have:=hb o (List.mem_of_getElem? ho)
  exact⟨_,rfl,.int _,bD (hN _ (ag.refl _)) (by simp[cb]; omega)⟩
 refine⟨_,g3.lst,?_⟩
 exact bD (k H3 g3.sm) (by simp)
def yY(K:PySem.W.Frag):Sp:=λvs H Q _=>∃ (p:Addr) (e:Int × List Int),vs=[.ref p]/\iu H p e.1 e.2/\Sg e.1/\(∀ b∈e.2,0<=b/\b<=255)/\∀ H',ag H H'->Q (.bl true) H'
theorem DS (T:Txt K mg t):bj P w K mg base "is_entry" 4 t.qV t.pE ["thing"] (yY K):=by
 refine⟨T.EH,T.xx.kp,T.GT,T.xx.okQ zt (λvs H Q E h=>by obtain⟨p,e,rfl,_⟩:=h; rfl) λcdv A outer s H vs Q E hr h=>?_⟩
 obtain⟨p,⟨sg,r⟩,rfl,⟨⟨q,hp,hq⟩,l1,l6⟩,hs,hb,k⟩:=h
 dsimp only at hp hq l1 l6 hs hb
 have hu:=hr.units
 refine⟨_,(ap (bM (jc (ja (ft (gX (be (jq (K:=K) rfl) T.n_isinstance PyProof.Rows.boot_isinstance (af (aa 0) (af (jb rfl T.n_tuple PyProof.Rows.boot_tuple) ai))))) (kW (bw (jh (K:=K) rfl hu) (be (bR (K:=K) rfl) T.n_len PySem.boot_len (af (aa 0) ai)) av (bc _))))) (au (aJ gW)) bL)
  (au (aJ (c8 (aX (DL T) hr (af (aK (aL (K:=K) rfl) (aa 0) av (λ_ _=>rfl)) ai)) (c8 (aX (DO T) hr (af (aK (aL (K:=K) rfl) (aa 0) av (λ_ _=>rfl)) ai)) (dY (jN dD dD av (be (bR (K:=K) rfl) T.n_len PySem.boot_len (af (aK (aL (K:=K) rfl) (aa 0) av (λ_ _=>rfl)) ai)) (eK T.Gj)))))))),?_⟩
 refine⟨_,_,.tup hp,by with_unfolding_all rfl,?_⟩
 refine aF (λz=>absurd z (by decide)) (λ_=>?_)
 refine⟨_,.inr (.of hp),?_⟩
 refine⟨_,_,.inr (.of hp),aZ (j:=0) rfl,?_⟩
 refine⟨_,rfl,.int _,?_⟩
 refine aF (λ_=>?_) (λz=>absurd ((zd sg).mpr hs) z)
 refine⟨_,_,.inr (.of hp),aZ (j:=1) rfl,?_⟩
 refine⟨q,r,rfl,hq,hb,by omega,λH1 s1=>?_⟩
 refine fX ?_
 refine⟨_,_,.inr (.of (s1 _ _ hp)),aZ (j:=1) rfl,?_⟩
 refine⟨_,.inl (.of (s1 _ _ hq)),?_⟩
 refine aF (λz=>?_) (λz=>?_)
 ·exact bD (k H1 s1) (by rw[List.length_map]; simp; omega)
 ·exact absurd (show decide ((1:Int)<=((r.map V.int).length:Int))=true by rw[List.length_map]; simp; omega) z
def y0:Sp:=λvs H Q _=>∃ (a:Addr) (ps:List Addr) (es:List (Int × List Int)),vs=[.ref a]/\H a=some (.lst (ps.map V.ref))/\rG H ps es/\Es es/\∀ H',ag H H'->Q .non H'
theorem FD(xs:List V)(k:Nat):cy xs none (some (k:Int))=xs.take k:=wx xs k
theorem nA{qs:List Addr}{i:Nat}{x:V}(h:(qs.map V.ref)[i]? = some x) : ∃ q,qs[i]? = some q/\x=.ref q:=by
 rw[List.getElem?_map]at h
 obtain⟨q,hq,rfl⟩:=Option.map_eq_some_iff.mp h
 exact⟨q,hq,rfl⟩
theorem DW (T:Txt K mg t):bj P w K mg base "check_table" 5 t.q9 t.pK ["rows"] y0:=by
 refine⟨T.ER,T.xC.kp,T.GY,T.xC.okQ jL (λvs H Q E h=>by obtain⟨a,ps,es,rfl,_⟩:=h; rfl) λcdv A outer s H vs Q E hr h=>?_⟩
 obtain⟨a,ps,es,rfl,ha,en,ok,k⟩:=h
 have hu:=hr.units
 refine⟨_,(ap (bM (bw oJ (be (bR (K:=K) rfl) T.n_len PySem.boot_len (af (aa 0) ai)) (eK T.Gi) (bc _)) (au nL) bL)
  (au (bN PassesOwn.never rfl (nP (K:=K) rfl rfl T.n_enumerate (af (aa 0) ai)) (cZ (K:=K) rfl rfl (bq (aD (i:=1) jL.nd rfl (.inl rfl)) (bq (aD (i:=2) jL.nd rfl (.inl rfl)) cY))) (ap (bM (ft (gX (aX (DS T) hr (af (aa 2) ai)))) (au nL) bL)
  (au (bN PassesOwn.never rfl (nP (K:=K) rfl rfl T.n_enumerate (af (c7 (dS (K:=K) rfl) (aa 0) eI (cr (aa 1))) ai)) (cZ (K:=K) rfl rfl (bq (aD (i:=3) jL.nd rfl (.inl rfl)) (bq (aD (i:=4) jL.nd rfl (.inl rfl)) cY))) (au (bM (gX (aX (DV T) hr (af (aa 4) (af (aa 2) ai)))) (au nL) bL)))))))),?_⟩
 have lp:ps.length=es.length:=en.1
 have l64:=ok.l
 refine⟨_,.inl (.of ha),?_⟩
 refine aF (λz=>?_) (λ_=>?_)
 ·have z:((ps.map V.ref).length:Int) > 64:=of_decide_eq_true z
  rw[List.length_map]at z
  omega
 refine⟨a,_,rfl,.of ha,vV (K:=K) (a:=a) (xs:=ps.map V.ref) (λi σ H'=>ag H H'/\∃ v1 v2 v3 v4,σ=[some (.ref a),v1,v2,v3,v4]) ⟨ag.refl _,_,_,_,_,rfl⟩ (λi σ H' _ z=>z.1.seq (.of ha)) ?_ ?_⟩
 ·rintro i x p σ H2 H3 hx ⟨s2,v1,v2,v3,v4,rfl⟩ g3
  obtain⟨px,hpx,rfl⟩:=nA hx
  obtain⟨e,he,ee⟩:=en.right hpx
  refine⟨p,_,rfl,g3.tup,rfl,_,_,rfl,_,_,rfl,rfl,?_⟩
  have s3:=s2.trans g3.sm
  obtain⟨k1,k2,k3,k4⟩:=ok.sg e (List.mem_of_getElem? he)
  refine⟨px,e,rfl,ee.mono s3,k1,k4,λH4 s4=>?_⟩
  refine aF (λz=>absurd (show (!true)=true from z) (by decide)) (λ_=>?_)
  have s04:=s3.trans s4
  refine⟨_,rfl,_,s04.seq (.of ha),λp1 H5 g5=>?_⟩
  rw[FD]at g5
  have s05:=s04.trans g5.sm
  refine⟨p1,_,rfl,g5.lst,vV (K:=K) (a:=p1) (xs:=(ps.map V.ref).take i) (λj σ H'=>ag H5 H'/\∃ v3 v4,σ=[some (.ref a),some (.int (i:Int)),some (.ref px),v3,v4]) ⟨ag.refl _,_,_,rfl⟩ (λi σ H' _ z=>z.1.seq g5.lst) ?_ ?_⟩
  ·rintro j u pj σ H6 H7 hju ⟨s6,v3,v4,rfl⟩ g7
   have hji:j < i:=by have:=(List.getElem?_eq_some_iff.mp hju).1; rw[List.length_take]at this; omega
   rw[List.getElem?_take_of_lt hji]at hju
   obtain⟨pu,hpu,rfl⟩:=nA hju
   obtain⟨f,hf,ef⟩:=en.right hpu
   refine⟨pj,_,rfl,g7.tup,rfl,_,_,rfl,_,_,rfl,rfl,?_⟩
   have s07:=s05.trans (s6.trans g7.sm)
   refine⟨pu,px,f,e,rfl,ef.mono s07,ee.mono s07,λH8 s8=>?_⟩
   have nc:de f e=false:=by
    obtain⟨a1,e1⟩:=List.getElem?_eq_some_iff.mp hf
    obtain⟨a2,e2⟩:=List.getElem?_eq_some_iff.mp he
    rw[<- e1,<- e2]
    exact List.pairwise_iff_getElem.mp ok.pw j i a1 a2 hji
   refine aF (λz=>absurd (show de f e=true from z) (by rw[nc]; decide)) (λ_=>?_)
   exact⟨s6.trans (g7.sm.trans s8),_,_,rfl⟩
  ·rintro σ H6 ⟨s6,v3,v4,rfl⟩
   exact⟨s05.trans s6,_,_,_,_,rfl⟩
 ·rintro σ H2 ⟨s2,_⟩
  exact k H2 s2
structure Ft where
 dx:Addr
 d1:Addr
 d2:Addr
 d3:Addr
def bp(r:List Int):List ao:=r.map Sum.inl
theorem jY(r:List Int):r.map V.int=(bp r).map kV:=by
 unfold bp
 rw[List.map_map]; rfl
theorem je{r s:List Int}(h:bp r=bp s):r=s:=by
 unfold bp at h
 induction r generalizing s with
 | nil=>cases s with
  | nil=>rfl
  | cons _ _=>cases h
 | cons x r ih=>cases s with
  | nil=>cases h
  | cons y s=>simp at h; rw[h.1,ih (by simpa using h.2)]
def gh(H:Hp)(k3:List (List ao × V))(es:List (Int × List Int))(rr:List Int):Prop:=∃ (q:Addr) (r2:List Int),aR k3 (bp rr)=some (.ref q)/\H q=some (.tup (r2.map V.int))/\∃ e'∈es,e'.2=rr++r2
structure Kv (H:Hp) (k1:List (ao × V)) (k2 k3:List (List ao × V)) (es:List (Int × List Int)):Prop where
 a : ∀ e∈es,∃ q,aR k1 (.inl e.1)=some (.ref q)/\H q=some (.tup (e.2.map V.int))
 b : ∀ e∈es,aR k2 (bp e.2)=some (.int e.1)
 b' : ∀ r:List Int,(∀ e∈es,e.2≠r)->aR k2 (bp r)=none
 c : ∀ e∈es,∀ m,m<=e.2.length->gh H k3 es (e.2.take m)
 e : ∀ x∈k3.map (λx=>x.1),∃ rr,x=bp rr/\gh H k3 es rr
 nd:(k3.map λx=>x.1).Nodup
 d:k1.map (λx=>x.1)=es.map λe=>Sum.inl e.1
theorem mR{kvs:List (ao × V)}{k:ao}(h:k∉kvs.map λx=>x.1):aR kvs k=none:=by
 unfold aR
 rw[Option.map_eq_none_iff,List.find?_eq_none]
 intro x hx z
 exact h (List.mem_map.mpr ⟨x,hx,of_decide_eq_true z⟩)
theorem mQ{kvs:List (List ao × V)}{k:List ao}(h:k∉kvs.map λx=>x.1):aR kvs k=none:=by
 unfold aR
 rw[Option.map_eq_none_iff,List.find?_eq_none]
 intro x hx z
 exact h (List.mem_map.mpr ⟨x,hx,of_decide_eq_true z⟩)
open Classical in
theorem va(kvs:List (List ao × V))(k:List ao)(v:V):((aW kvs k v).map λx=>x.1)=if k∈(kvs.map λx=>x.1) then kvs.map λx=>x.1 else (kvs.map λx=>x.1)++[k]:=by
 by_cases h:k∈(kvs.map λx=>x.1)
 ·rw[if_pos h]
  unfold aW
  obtain⟨y,hy,ey⟩:=List.mem_map.mp h
  rw[if_pos (List.any_eq_true.mpr ⟨y,hy,decide_eq_true ey⟩),List.map_map]
  refine List.map_congr_left λy hy=>?_
  show (if y.1=k then (y.1,v) else y).1=y.1
  split <;> rfl
 ·rw[if_neg h,nU v (mQ h),List.map_append]
  rfl
theorem C5{kvs:List (List ao × V)}{k x:List ao}{v:V}(h:x∈(aW kvs k v).map λx=>x.1):x=k\/x∈kvs.map λx=>x.1:=by
 rw[va]at h
 split at h
 ·exact .inr h
 ·rcases List.mem_append.mp h with h | h
  ·exact .inr h
  ·exact .inl (List.mem_singleton.mp h)
theorem C4{kvs:List (List ao × V)}{k:List ao}{v:V}(h:(kvs.map λx=>x.1).Nodup):((aW kvs k v).map λx=>x.1).Nodup:=by
 rw[va]
 split
 ·exact h
 ·rename_i c
  exact List.nodup_append.mpr ⟨h,List.pairwise_singleton ..,λa ha y hy z=>by rw[List.mem_singleton.mp hy]at z; exact c (z ▸ ha)⟩
structure Tt (t:Adr) (H:Hp) (a:Addr) (f:Ft) (es:List (Int × List Int)) (n:Nat):Prop where
 o:H a=some (.ins t.bf f.dx [("row_by_sign",.ref f.d1),("sign_by_row",.ref f.d2),("rest_by_row",.ref f.d3)])
 k : ∃ k1 k2 k3,H f.d1=some (.dK k1)/\H f.d2=some (.dT k2)/\H f.d3=some (.dT k3)/\k1.length<=n/\k2.length<=n/\k3.length<=n/\Kv H k1 k2 k3 es
 ne:f.d2≠f.d3
variable {H H':Hp}{a:Addr}{f:Ft}{es:List (Int × List Int)}{n:Nat}
theorem Kv.mono{k1:List (ao × V)}{k2 k3:List (List ao × V)}(h:Kv H k1 k2 k3 es)(s : ∀ q xs,H q=some (.tup xs)->H' q=some (.tup xs)):Kv H' k1 k2 k3 es:=by
 refine⟨λe he=>?_,h.b,h.b',λe he m hm=>?_,λx hx=>?_,h.nd,h.d⟩
 ·obtain⟨q,x,y⟩:=h.a e he
  exact⟨q,x,s _ _ y⟩
 ·obtain⟨q,r2,x,y,z⟩:=h.c e he m hm
  exact⟨q,r2,x,s _ _ y,z⟩
 ·obtain⟨rr,e,q,r2,x,y,z⟩:=h.e x hx
  exact⟨rr,e,q,r2,x,s _ _ y,z⟩
theorem Tt.mono(h:Tt t H a f es n)(s:ag H H'):Tt t H' a f es n:=by
 obtain⟨o,⟨k1,k2,k3,a1,a2,a3,l1,l2,l3,kv⟩,ne⟩:=h
 exact⟨s _ _ o,⟨k1,k2,k3,s _ _ a1,s _ _ a2,s _ _ a3,l1,l2,l3,kv.mono λq xs e=>s _ _ e⟩,ne⟩
theorem aw{c d:Addr}{u v:HO}(h:H c=some u)(k:H d=some v)(n:u≠v):c≠d:=λz=>by rw[z,k]at h; exact n (Option.some.inj h).symm
def cG(f:Ft)(H H':Hp):Prop:=∀ c u,c≠f.d1->c≠f.d2->c≠f.d3->H c=some u->H' c=some u
theorem cG.trans{H H1 H2:Hp}(h:cG f H H1)(h':cG f H1 H2):cG f H H2:=λc u n1 n2 n3 e=>h' c u n1 n2 n3 (h c u n1 n2 n3 e)
theorem cG.of{H H1:Hp}(h:ag H H1):cG f H H1:=λc u _ _ _ e=>h c u e
theorem Tt.tup{q:Addr}{xs:List V}(h:Tt t H a f es n)(hq:H q=some (.tup xs))(k:cG f H H'):H' q=some (.tup xs):=by
 obtain⟨o,⟨k1,k2,k3,a1,a2,a3,_⟩,ne⟩:=h
 exact k _ _ (aw hq a1 (by intro z; cases z)) (aw hq a2 (by intro z; cases z)) (aw hq a3 (by intro z; cases z)) hq
def yX(t:Adr):Sp:=λvs H Q _=>∃ (a:Addr) (f:Ft) (q:Addr) (n:Nat) (s:Int) (r:List Int) (es:List (Int × List Int)),vs=[.ref a,.int s,.ref q]/\Tt t H a f es n/\H q=some (.tup (r.map V.int))/\r.length<=6/\n<=1000/\(∀ e∈es,e.1≠s/\e.2≠r) /\
 ∀ H',Tt t H' a f (es++[(s,r)]) (n+9)->cG f H H'->Q .non H'
theorem D7 (T:Txt K mg t):jB P w K mg base t.bf "enter" 1 t.rk t.pT ["self", "sign", "row"] (yX t):=by
 refine⟨T.cF,T.Cn,T.Hb,T.HR.okQ tm (λvs H Q E h=>by obtain⟨a,f,q,n,s,r,es,rfl,_⟩:=h; rfl) λcdv A outer s H vs Q E hr h=>?_⟩
 obtain⟨a,f,q,n,sg,r,es,rfl,tb,hq,lr,ln,new,k⟩:=h
 have hu:=hr.units
 obtain⟨o,⟨k1,k2,k3,a1,a2,a3,l1,l2,l3,kv⟩,ne⟩:=id tb
 refine⟨_,(ap (jP hu (gY (K:=K) rfl (aa 0)) (aa 1) (aa 2))
  (ap (jP hu (gY (K:=K) rfl (aa 0)) (aa 2) (aa 1))
  (au (bN PassesOwn.never rfl (nN rfl T.n_range (af (bO (cL (K:=K) rfl) (be (bR (K:=K) rfl) T.n_len PySem.boot_len (af (aa 2) ai)) av) ai)) (aD (i:=3) tm.nd rfl (.inl rfl)) (au (jP hu (gY (K:=K) rfl (aa 0)) (c7 (vG (K:=K) rfl) (aa 2) eI (cr (aa 3))) (c7 (vG (K:=K) rfl) (aa 2) (cr (aa 3)) eI))))))),?_⟩
 have n12:f.d1≠f.d2:=aw a1 a2 (by intro z; cases z)
 have n13:f.d1≠f.d3:=aw a1 a3 (by intro z; cases z)
 have na1:a≠f.d1:=aw o a1 (by intro z; cases z)
 have na2:a≠f.d2:=aw o a2 (by intro z; cases z)
 have na3:a≠f.d3:=aw o a3 (by intro z; cases z)
 refine⟨a,_,f.dx,_,_,rfl,o,T.cF,T.oa,rfl,?_⟩
 refine⟨f.d1,_,rfl,eA.k (k:=.inl sg) a1 (dP (by omega)),?_⟩
 obtain⟨H1,e1⟩ : ∃ H1,H1=upd H f.d1 (.dK (aW k1 (.inl sg) (.ref q))):=⟨_,rfl⟩
 rw[<- e1]
 have o1:cG f H H1:=λc u m1 m2 m3 e=>by rw[e1,ak m1]; exact e
 have b1:H1 f.d1=some (.dK (aW k1 (.inl sg) (.ref q))):=by rw[e1,aN]
 have b2:H1 f.d2=some (.dT k2):=by rw[e1,ak n12.symm]; exact a2
 have b3:H1 f.d3=some (.dT k3):=by rw[e1,ak n13.symm]; exact a3
 clear e1
 refine⟨a,_,f.dx,_,_,rfl,o1 _ _ na1 na2 na3 o,T.cF,T.n6,rfl,?_⟩
 have hq1:=tb.tup hq o1
 refine⟨f.d2,_,rfl,eA.t (k:=bp r) b2 (by rw[<- jY]; exact hq1) (dP (by omega)),?_⟩
 obtain⟨H2,e2⟩ : ∃ H2,H2=upd H1 f.d2 (.dT (aW k2 (bp r) (.int sg))):=⟨_,rfl⟩
 rw[<- e2]
 have o2:cG f H1 H2:=λc u m1 m2 m3 e=>by rw[e2,ak m2]; exact e
 have c1:H2 f.d1=some (.dK (aW k1 (.inl sg) (.ref q))):=by rw[e2,ak n12]; exact b1
 have c2:H2 f.d2=some (.dT (aW k2 (bp r) (.int sg))):=by rw[e2,aN]
 have c3:H2 f.d3=some (.dT k3):=by rw[e2,ak ne.symm]; exact b3
 clear e2
 have o02:=o1.trans o2
 have hq2:=tb.tup hq o02
 refine⟨_,.inr (.of hq2),?_⟩
 refine⟨_,rfl,by rw[List.length_map]; omega,by rw[List.length_map]; omega,?_⟩
 rw[List.length_map]
 refine oV (lo:=0) (n:=((r.length:Int)+1).toNat) (λi σ H'=>cG f H H'/\H' f.d1=some (.dK (aW k1 (.inl sg) (.ref q)))/\H' f.d2=some (.dT (aW k2 (bp r) (.int sg)))/\(∃ k3',H' f.d3=some (.dT k3')/\k3'.length<=n+i/\(∀ m,m < i->gh H' k3' (es++[(sg,r)]) (r.take m))/\(∀ e∈es,∀ m,m<=e.2.length->gh H' k3' (es++[(sg,r)]) (e.2.take m))/\(∀ x∈k3'.map (λx=>x.1),∃ rr,x=bp rr/\gh H' k3' (es++[(sg,r)]) rr)/\(k3'.map λx=>x.1).Nodup)/\∃ v3,σ=[some (.ref a),some (.int sg),some (.ref q),v3]) ⟨o02,c1,c2,⟨k3,c3,by omega,(λm h=>absurd h (by omega)),(λe he m hm=>?_),(λx hx=>?_),kv.nd⟩,_,rfl⟩ ?_ ?_
 ·obtain⟨q',r2,x,y,e',he',z⟩:=kv.c e he m hm
  exact⟨q',r2,x,tb.tup y o02,e',List.mem_append_left _ he',z⟩
 ·obtain⟨rr,ex,q',r2,x,y,e',he',z⟩:=kv.e x hx
  exact⟨rr,ex,q',r2,x,tb.tup y o02,e',List.mem_append_left _ he',z⟩
 ·rintro i σ H3 hi ⟨o3,d1,d2,⟨k3',d3,l3',new3,old3,all3,nd3⟩,v3,rfl⟩
  have hq3:=tb.tup hq o3
  refine⟨_,rfl,_,.of hq3,hq3,λp4 H4 s4 h4=>?_⟩
  refine⟨a,_,f.dx,_,_,rfl,s4 _ _ (o3 _ _ na1 na2 na3 o),T.cF,T.lI,rfl,?_⟩
  refine⟨_,rfl,_,.of (s4 _ _ hq3),s4 _ _ hq3,λp5 H5 s5 h5=>?_⟩
  rw[Int.zero_add,jo,jY]at h5
  have s35:=s4.trans s5
  refine⟨f.d3,_,rfl,eA.t (k:=bp (r.take i)) (s35 _ _ d3) h5 (dP (by omega)),?_⟩
  obtain⟨H6,e6⟩ : ∃ H6,H6=upd H5 f.d3 (.dT (aW k3' (bp (r.take i)) (.ref p4))):=⟨_,rfl⟩
  rw[<- e6]
  have t6 : ∀ c u,c≠f.d3->H3 c=some u->H6 c=some u:=λc u m e=>by rw[e6,ak m]; exact s35 _ _ e
  have n43:p4≠f.d3:=aw (s5 _ _ h4) (s35 _ _ d3) (by intro z; cases z)
  have h46:H6 p4=some (.tup (cy (r.map V.int) (some (0+(i:Int))) none)):=by rw[e6,ak n43]; exact s5 _ _ h4
  have b6:H6 f.d3=some (.dT (aW k3' (bp (r.take i)) (.ref p4))):=by rw[e6,aN]
  clear e6
  have h46':H6 p4=some (.tup ((r.drop i).map V.int)):=by
   rw[h46,Int.zero_add,ia]
   exact congrArg _ (congrArg _ (congrArg _ (wy r i)))
  have keep : ∀ rr,gh H3 k3' (es++[(sg,r)]) rr->gh H6 (aW k3' (bp (r.take i)) (.ref p4)) (es++[(sg,r)]) rr:=by
   rintro rr ⟨q',r2,x,y,z⟩
   by_cases c:bp rr=bp (r.take i)
   ·have c':=je c
    exact⟨p4,r.drop i,by rw[dO,if_pos c],h46',(sg,r),by simp,by rw[c',List.take_append_drop]⟩
   ·exact⟨q',r2,by rw[dO,if_neg c]; exact x,t6 _ _ (aw y d3 (by intro z; cases z)) y,z⟩
  have here:gh H6 (aW k3' (bp (r.take i)) (.ref p4)) (es++[(sg,r)]) (r.take i):=⟨p4,r.drop i,by rw[dO,if_pos rfl],h46',(sg,r),by simp,by rw[List.take_append_drop]⟩
  refine⟨λc u m1 m2 m3 e=>t6 _ _ m3 (o3 c u m1 m2 m3 e),t6 _ _ n13 d1,t6 _ _ ne d2,⟨_,b6,?_,λm hm=>?_,(λe he m hm=>keep _ (old3 e he m hm)),λx hx=>?_,C4 nd3⟩,_,rfl⟩
  ·have:=hE k3' (bp (r.take i)) (.ref p4); omega
  ·by_cases c:m < i
   ·exact keep _ (new3 m c)
   ·obtain rfl:m=i:=by omega
    exact here
  ·rcases C5 hx with rfl | hx
   ·exact⟨r.take i,rfl,here⟩
   ·obtain⟨rr,ex,z⟩:=all3 x hx
    exact⟨rr,ex,keep rr z⟩
 ·rintro σ H3 ⟨o3,d1,d2,⟨k3',d3,l3',new3,old3,all3,nd3⟩,_⟩
  refine k _ ⟨o3 _ _ na1 na2 na3 o,⟨_,_,k3',d1,d2,d3,?_,?_,by omega,?_⟩,ne⟩ o3
  ·have:=hE k1 (.inl sg) (.ref q); omega
  ·have:=hE k2 (bp r) (.int sg); omega
  ·refine⟨λe he=>?_,λe he=>?_,λr' hr'=>?_,(λe he m hm=>?_),all3,nd3,?_⟩
   ·rcases List.mem_append.mp he with he | he
    ·rw[dO,if_neg (λz=>(new e he).1 (Sum.inl.inj z))]
     obtain⟨q',x,y⟩:=kv.a e he
     exact⟨q',x,tb.tup y o3⟩
    ·rw[List.mem_singleton.mp he,dO,if_pos rfl]
     exact⟨q,rfl,tb.tup hq o3⟩
   ·rcases List.mem_append.mp he with he | he
    ·rw[dO,if_neg (λz=>(new e he).2 (je z))]
     exact kv.b e he
    ·rw[List.mem_singleton.mp he,dO,if_pos rfl]
   ·rw[dO,if_neg (λz=>hr' (sg,r) (by simp) (je z).symm)]
    exact kv.b' r' λe he=>hr' e (by simp[he])
   ·rcases List.mem_append.mp he with he | he
    ·exact old3 e he m hm
    ·rw[List.mem_singleton.mp he]at hm ⊢
     exact new3 m (by dsimp only at hm; omega)
   ·have no:aR k1 (.inl sg)=none:=by
     refine mR λz=>?_
     rw[kv.d]at z
     obtain⟨e,he,ee⟩:=List.mem_map.mp z
     exact (new e he).1 (Sum.inl.inj ee)
    rw[nU _ no,List.map_append,List.map_append,kv.d]
    rfl
def sN(t:Adr):Sp:=λvs H Q _=>∃ (a dx p:Addr) (ps:List Addr) (es:List (Int × List Int)),vs=[.ref a,.ref p]/\H a=some (.ins t.bf dx [])/\H p=some (.lst (ps.map V.ref))/\rG H ps es/\Es es /\
 ∀ f H',Kp a H H'->Tt t H' a f es 1000->Q .non H'
theorem Tt.up{H:Hp}{a:Addr}{f:Ft}{es:List (Int × List Int)}{n m:Nat}(h:Tt t H a f es n)(hm:n<=m):Tt t H a f es m:=by
 obtain⟨o,⟨k1,k2,k3,a1,a2,a3,l1,l2,l3,kv⟩,ne⟩:=h
 exact⟨o,⟨k1,k2,k3,a1,a2,a3,by omega,by omega,by omega,kv⟩,ne⟩
theorem B7 (T:Txt K mg t):bt P w K mg base bI 6 t.mF t.me ["self", "rows"] (sN t):=by
 refine T.Hz.okQ tf (λvs H Q E h=>by obtain⟨a,dx,p,ps,es,rfl,_⟩:=h; rfl) λcdv A outer s H vs Q E hr h=>?_
 obtain⟨a,dx,p,ps,es,rfl,ha,hp,en,ok,kq⟩:=h
 have hu:=hr.units
 refine⟨_,(ap (dQ (aX (DW T) hr (af (aa 1) ai)))
  (ap (nM (K:=K) rfl (aa 0) nT)
  (ap (nM (K:=K) rfl (aa 0) tV)
  (ap (nM (K:=K) rfl (aa 0) tV)
  (au (bN PassesOwn.never rfl (dz (K:=K) rfl (aa 1)) (aD (i:=2) tf.nd rfl (.inl rfl)) (au (dQ (Aq (D7 T) hr (aa 0) (af (aK (aL (K:=K) rfl) (aa 2) av (λ_ _=>rfl)) (af (c9 (ic (K:=K) rfl) T.n_tuple PyProof.Rows.boot_tuple (af (aK (aL (K:=K) rfl) (aa 2) av (λ_ _=>rfl)) ai)) ai))))))))))),?_⟩
 refine⟨p,ps,es,rfl,hp,en,ok,λH1 s1=>?_⟩
 refine λd1 H2 g2=>?_
 refine⟨a,_,dx,_,rfl,g2.sm _ _ (s1 _ _ ha),T.cF,T.oa,Nat.lt_of_lt_of_le Nat.zero_lt_one (by decide),?_⟩
 obtain⟨H3,e3⟩ : ∃ H3,H3=upd H2 a (HO.ins t.bf dx (ci "row_by_sign" (.ref d1) [])):=⟨_,rfl⟩
 have a3:H3 a=some (.ins t.bf dx [("row_by_sign",.ref d1)]):=by rw[e3,aN]; rfl
 have k3:Kp a H2 H3:=by rw[e3]; exact Kp.upd
 rw[<- e3]
 clear e3
 refine λd2 H4 g4=>?_
 refine⟨a,_,dx,_,rfl,g4.sm _ _ a3,T.cF,T.n6,Nat.lt_of_lt_of_le (Nat.lt_succ_self 1) (by decide),?_⟩
 obtain⟨H5,e5⟩ : ∃ H5,H5=upd H4 a (HO.ins t.bf dx (ci "sign_by_row" (.ref d2) [("row_by_sign",.ref d1)])):=⟨_,rfl⟩
 have a5:H5 a=some (.ins t.bf dx [("row_by_sign",.ref d1),("sign_by_row",.ref d2)]):=by rw[e5,aN]; rfl
 have k5:Kp a H4 H5:=by rw[e5]; exact Kp.upd
 rw[<- e5]
 clear e5
 refine λd3 H6 g6=>?_
 refine⟨a,_,dx,_,rfl,g6.sm _ _ a5,T.cF,T.lI,Nat.lt_of_lt_of_le (Nat.lt_succ_self 2) (by decide),?_⟩
 obtain⟨H7,e7⟩ : ∃ H7,H7=upd H6 a (HO.ins t.bf dx (ci "rest_by_row" (.ref d3) [("row_by_sign",.ref d1),("sign_by_row",.ref d2)])):=⟨_,rfl⟩
 have a7:H7 a=some (.ins t.bf dx [("row_by_sign",.ref d1),("sign_by_row",.ref d2),("rest_by_row",.ref d3)]):=by rw[e7,aN]; rfl
 have k7:Kp a H6 H7:=by rw[e7]; exact Kp.upd
 rw[<- e7]
 clear e7
 have n1:d1≠a:=(br (s1 _ _ ha) g2.nw).symm
 have n2:d2≠a:=(br a3 g4.nw).symm
 have n3:d3≠a:=(br a5 g6.nw).symm
 have k35:Kp a H3 H5:=(Kp.of g4.sm).trans k5
 have k57:Kp a H5 H7:=(Kp.of g6.sm).trans k7
 have k37:Kp a H3 H7:=k35.trans k57
 have k17:Kp a H1 H7:=(Kp.of g2.sm).trans (k3.trans k37)
 have k07:Kp a H H7:=(Kp.of s1).trans k17
 have b2:H5 d2=some (.dT []):=k5 _ _ n2 g4.at_
 have n23:d2≠d3:=br b2 g6.nw
 have tb:Tt t H7 a ⟨dx,d1,d2,d3⟩ [] 0:=⟨a7,⟨[],[],[],k37 _ _ n1 (k3 _ _ n1 g2.at_),k57 _ _ n2 b2,k7 _ _ n3 g6.at_,Nat.le_refl _,Nat.le_refl _,Nat.le_refl _,⟨(λe h=>nomatch h),(λe h=>nomatch h),(λr _=>rfl),(λe h=>nomatch h),(λx h=>nomatch h),.nil,rfl⟩⟩,n23⟩
 have f1:H d1=none:=s1.free g2.nw
 have f2 : ∀ c u,H c=some u->c≠a->c≠d2:=λc u e n=>br (k3 _ _ n (g2.sm _ _ (s1 _ _ e))) g4.nw
 have f3 : ∀ c u,H c=some u->c≠a->c≠d3:=λc u e n=>br (k35 _ _ n (k3 _ _ n (g2.sm _ _ (s1 _ _ e)))) g6.nw
 have lx:=en.1
 have l64:=ok.l
 have kpo : ∀ H',cG ⟨dx,d1,d2,d3⟩ H7 H'->Kp a H H':=λH' o c u n e=>o c u (br e f1) (f2 c u e n) (f3 c u e n) (k07 c u n e)
 have px : ∀ H',cG ⟨dx,d1,d2,d3⟩ H7 H'->H' p=some (.lst (ps.map V.ref)):=λH' o=>kpo H' o _ _ (aw hp ha (by intro z; cases z)) hp
 refine⟨p,rfl,⟨_,.of (px H7 (cG.of (ag.refl _)))⟩,gb (K:=K) (a:=p) (xs:=ps.map V.ref) (λi σ H'=>Tt t H' a ⟨dx,d1,d2,d3⟩ (es.take i) (i*9)/\cG ⟨dx,d1,d2,d3⟩ H7 H'/\∃ v2,σ=[some (.ref a),some (.ref p),v2]) ⟨tb.up (by omega),cG.of (ag.refl _),_,rfl⟩ (λi σ H' _ z=>.of (px H' z.2.1)) ?_ ?_⟩
 ·rintro i x σ H8 hx ⟨tb8,o8,v2,rfl⟩
  obtain⟨pe,hpe,rfl⟩:=nA hx
  obtain⟨e,he,⟨q,hq1,hq2⟩,l1,l6⟩:=en.right hpe
  have he8:=kpo _ o8 _ _ (aw hq1 ha (by intro z; cases z)) hq1
  have hq8:=kpo _ o8 _ _ (aw hq2 ha (by intro z; cases z)) hq2
  have hi:i < ps.length:=(List.getElem?_eq_some_iff.mp hpe).1
  refine⟨a,dx,_,rfl,tb8.o,rfl,?_⟩
  refine⟨_,_,.inr (.of he8),aZ (j:=0) rfl,?_⟩
  refine⟨_,_,.inr (.of he8),aZ (j:=1) rfl,?_⟩
  refine⟨_,.of hq8,λpt H9 g9=>?_⟩
  refine⟨a,⟨dx,d1,d2,d3⟩,pt,i*9,e.1,e.2,es.take i,rfl,tb8.mono g9.sm,g9.at_,l6,by omega,λe' he'=>?_,λHA tA oA=>?_⟩
  ·obtain⟨j,hj,rfl⟩:=List.mem_iff_getElem.mp he'
   obtain⟨a2,e2⟩:=List.getElem?_eq_some_iff.mp he
   rw[List.length_take]at hj
   have nc:=List.pairwise_iff_getElem.mp ok.pw j i (by omega) a2 (by omega)
   rw[e2]at nc
   rw[List.getElem_take]
   unfold de bd at nc
   refine⟨λz=>?_,λz=>?_⟩
   ·rw[decide_eq_true z]at nc; cases nc
   ·rw[z]at nc; simp at nc
  ·have et:es.take (i+1)=es.take i++[(e.1,e.2)]:=rR he
   rw[et]
   exact⟨tA.up (by omega),o8.trans ((cG.of g9.sm).trans oA),_,rfl⟩
 ·rintro σ H8 ⟨t8,o8,_⟩
  rw[List.length_map,lx,List.take_length]at t8
  exact kq _ _ (kpo _ o8) (t8.up (by omega))
theorem Dt (T:Txt K mg t):w5 P w K mg base "TableTongue" t.bf 6 t.mF t.me ["self", "rows"] [] (sN t):=⟨T.Eg,T.Cp,⟨[],T.G9,.nil⟩,B7 T⟩
theorem jD : ∀ {kvs:List (ao × V)} {i:Nat} {k:ao} {v:V},(kvs.map λx=>x.1).Nodup->kvs[i]? = some (k,v)->aR kvs k=some v
 | [],_,_,_,_,h=>by simp at h
 | q :: r,0,k,v,_,h=>by
  simp at h
  subst h
  exact dw rfl
 | q :: r,i+1,k,v,nd,h=>by
  obtain⟨a,b⟩:=List.nodup_cons.mp nd
  have h:r[i]? = some (k,v):=by simpa using h
  have ne : ¬ q.1=k:=λz=>a (List.mem_map.mpr ⟨(k,v),List.mem_of_getElem? h,z.symm⟩)
  rw[dy ne]
  exact jD b h
def yQ(t:Adr):Sp:=λvs H Q _=>∃ (a:Addr) (f:Ft) (es:List (Int × List Int)) (n:Nat),vs=[.ref a]/\Tt t H a f es n/\n<=1000/\(es.map λe=>e.1).Nodup/\∀ (p:Addr) (ps:List Addr) H',ag H H'->H' p=some (.lst (ps.map V.ref))->az (λq (e:Int × List Int)=>∃ l,H' q=some (.tup [.int e.1,.ref l])/\H' l=some (.lst (e.2.map V.int))) ps es->Q (.ref p) H'
theorem D4 (T:Txt K mg t):jB P w K mg base t.bf "rows" 1 t.rj t.pR ["self"] (yQ t):=by
 refine⟨T.cF,T.Cl,T.G8,T.Hy.okQ zA (λvs H Q E h=>by obtain⟨a,f,es,n,rfl,_⟩:=h; rfl) λcdv A outer s H vs Q E hr h=>?_⟩
 obtain⟨a,f,es,n,rfl,tt,hn,nd,k⟩:=h
 obtain⟨o,⟨k1,k2,k3,a1,a2,a3,l1,l2,l3,kv⟩,ne⟩:=id tt
 refine⟨_,(au (aJ (nI (eJ rfl (bZ.of (fns:=(am gU).names) (N:=["self"]) (Nc:=["sign", "row"]) (nv:=2) (caps:=[]) rfl rfl (by decide +kernel)) (kY (gY (K:=K) rfl (aa 0))) (λ_ _ _ _=>(cZ (K:=K) rfl (n:=2) rfl (bq (aD (i:=0) (show List.Nodup (["sign", "row"]:List Str) by decide +kernel) rfl (Or.inl rfl) (Or.inr rfl)) (bq (aD (i:=1) (show List.Nodup (["sign", "row"]:List Str) by decide +kernel) rfl (Or.inl rfl) (Or.inr rfl)) cY)))) (λ_ _ _ _=>fq) (λ_ _ _ _=>(bW (af (aa 0) (af (c9 (jp (K:=K) rfl) T.n_list PyProof.Rows.boot_list (af (aa 1) ai)) ai)))))))),?_⟩
 refine⟨f.d1,.dK k1,(λob v z=>by rw[a1]at z; cases z),?_⟩
 refine⟨a,_,f.dx,_,_,rfl,o,T.cF,T.oa,rfl,?_⟩
 refine⟨f.d1,k1,rfl,a1,λob=>?_⟩
 have el:es.length=k1.length:=by have:=congrArg List.length kv.d; rw[List.length_map,List.length_map]at this; exact this.symm
 obtain⟨H1,e1⟩ : ∃ H1,H1=upd H f.d1 (.frz ob (.dK k1)):=⟨_,rfl⟩
 have d1:H1 f.d1=some (.frz ob (.dK k1)):=by rw[e1,aN]
 have b1 : ∀ c u,c≠f.d1->H c=some u->H1 c=some u:=λc u n e=>by rw[e1,ak n]; exact e
 rw[<- e1]
 clear e1
 refine qh (K:=K) (λi ys H'=>ag H1 H'/\i<=k1.length/\∃ ps:List Addr,ys=ps.map V.ref/\az (λq (e:Int × List Int)=>∃ l,H' q=some (.tup [.int e.1,.ref l])/\H' l=some (.lst (e.2.map V.int))) ps (es.take i)) ⟨ag.refl _,Nat.zero_le _,[],rfl,az.nil⟩ (λi ys H' hi z=>⟨z.1 _ _ d1,?_⟩) (ce (by omega)) (λi ky v ys H2 H3 N hkv z s23 hN=>?_) λys H2 p H3 z g=>?_
 ·obtain⟨_,_,ps,rfl,al⟩:=z
  have:=al.1
  rw[List.length_take]at this
  rw[List.length_map]
  omega
 ·obtain⟨s2,_,ps,rfl,al⟩:=z
  have hi:i < k1.length:=(List.getElem?_eq_some_iff.mp hkv).1
  obtain⟨e,he⟩ : ∃ e,es[i]? = some e:=⟨_,List.getElem?_eq_getElem (by omega)⟩
  have ek:ky=Sum.inl e.1:=by
   have q1:(k1.map λx=>x.1)[i]? = some ky:=by rw[List.getElem?_map,hkv]; rfl
   rw[kv.d,List.getElem?_map,he]at q1
   exact (Option.some.inj q1).symm
  subst ek
  obtain⟨q,vq,hq⟩:=kv.a e (List.mem_of_getElem? he)
  have ev:v=.ref q:=by
   have nk:(k1.map λx=>x.1).Nodup:=by
    rw[kv.d]
    have nd:=List.pairwise_map.mp nd
    exact List.pairwise_map.mpr (nd.imp λh z=>h (Sum.inl.inj z))
   have:=jD nk hkv
   rw[vq]at this
   exact (Option.some.inj this).symm
  subst ev
  simp only [fi,if_true]
  have q3:H3 q=some (.tup (e.2.map V.int)):=s23 _ _ (s2 _ _ (b1 _ _ (aw hq a1 (by intro z; cases z)) hq))
  refine⟨_,.inr (.of q3),λl4 H4 g4=>?_⟩
  refine⟨sz rfl,λp5 H5 g5=>hN _ _ ⟨s2.trans (s23.trans (g4.sm.trans g5.sm)),hi,ps++[p5],by rw[List.map_append]; rfl,?_⟩⟩
  rw[List.take_add_one,he]
  refine az.app (al.imp λc e' h=>?_) (az.cons ⟨l4,g5.at_,g5.sm _ _ g4.at_⟩ az.nil)
  obtain⟨l,h,h'⟩:=h
  exact⟨l,g5.sm _ _ (g4.sm _ _ (s23 _ _ h)),g5.sm _ _ (g4.sm _ _ (s23 _ _ h'))⟩
 ·obtain⟨s2,_,ps,rfl,al⟩:=z
  refine⟨⟨ob,g.sm _ _ (s2 _ _ d1)⟩,k p ps _ (λc u e=>?_) ?_ ?_⟩
  ·by_cases n:c=f.d1
   ·subst n
    rw[aN,<- a1,e]
   ·rw[ak n]
    exact g.sm _ _ (s2 _ _ (b1 c u n e))
  ·rw[ak (br (s2 _ _ d1) g.nw).symm]
   exact g.at_
  ·rw[List.take_of_length_le (by omega)]at al
   refine al.imp λc e h=>?_
   obtain⟨l,h,h'⟩:=h
   exact⟨l,by rw[ak (aw (g.sm _ _ h) (g.sm _ _ (s2 _ _ d1)) (by intro z; cases z))]; exact g.sm _ _ h,by rw[ak (aw (g.sm _ _ h') (g.sm _ _ (s2 _ _ d1)) (by intro z; cases z))]; exact g.sm _ _ h'⟩
def bh(rows:List (List Int))(p:List Int):List Int:=if p∈rows then [] else p
structure mK (H:Hp) (rows PS:List (List Int)) (b:List Int) (ks:List (ao × V)):Prop where
 nd:(ks.map λy=>y.1).Nodup
 int : ∀ y∈ks,∃ x:Int,y.1=.inl x
 yes : ∀ x,b++[x]∈PS->∃ q,aR ks (.inl x)=some (.ref q)/\H q=some (.tup ((bh rows (b++[x])).map V.int))
 no : ∀ x,b++[x]∉PS->aR ks (.inl x)=none
 len:ks.length<=PS.length
structure bS (H:Hp) (p:Addr) (rows PS:List (List Int)) (ky:List Int->Prop) (kvs:List (aG × Addr × V)):Prop where
 dq:DQ H p kvs
 key : ∀ b,b∈kvs.map (λe=>e.1) ↔ ky b
 met : ∀ b x,b++[x]∈PS->ky b
 val : ∀ e∈kvs,∃ d ks,e.2.2=.ref d/\H d=some (.dK ks)/\mK H rows PS e.1 ks
 inj : ∀ e∈kvs,∀ e'∈kvs,e.2.2=e'.2.2->e.1=e'.1
theorem mK.mono{H H':Hp}{rows PS:List (List Int)}{b:List Int}{ks:List (ao × V)}(h:mK H rows PS b ks)(s : ∀ q xs,H q=some (.tup xs)->H' q=some (.tup xs)):mK H' rows PS b ks :=
 ⟨h.nd,h.int,λx hx=>let ⟨q,a,b⟩:=h.yes x hx; ⟨q,a,s _ _ b⟩,h.no,h.len⟩
theorem bS.same{H H':Hp}{p:Addr}{rows PS:List (List Int)}{ky:List Int->Prop}{kvs:List (aG × Addr × V)}(h:bS H p rows PS ky kvs)(s:ag H H'):bS H' p rows PS ky kvs :=
 ⟨h.dq.same s,h.key,h.met,λe he=>let ⟨d,ks,a,b,c⟩:=h.val e he; ⟨d,ks,a,s _ _ b,c.mono λq xs z=>s _ _ z⟩,h.inj⟩
theorem gy{kvs:List (aG × Addr × V)}{b:List Int}{v:V}(h:bE kvs b=some v) : ∃ e∈kvs,e.1=b/\e.2.2=v:=by
 unfold bE at h
 obtain⟨e,he,rfl⟩:=Option.map_eq_some_iff.mp h
 exact⟨e,List.mem_of_find?_eq_some he,by have z:=List.find?_some he; exact of_decide_eq_true z,rfl⟩
theorem kE{kvs:List (aG × Addr × V)}{b:List Int}(h:b∈kvs.map λe=>e.1) : ∃ v,bE kvs b=some v:=by
 cases e:bE kvs b with
 | some v=>exact⟨v,rfl⟩
 | none =>
  unfold bE at e
  rw[Option.map_eq_none_iff,List.find?_eq_none]at e
  obtain⟨x,hx,rfl⟩:=List.mem_map.mp h
  exact absurd (decide_eq_true rfl) (e x hx)
theorem AD{kvs:List (aG × Addr × V)}{b:List Int}{q:Addr}{v:V}(h:bE kvs b=none):eL kvs b q v=kvs++[(b,q,v)]:=by
 unfold eL
 rw[h]
 rfl
theorem wd{H H':Hp}{a d:Addr}{kvs:List (aG × Addr × V)}{ks:List (ao × V)}(h:DQ H a kvs)(hd:H d=some (.dK ks))(s : ∀ c,c≠d->H' c=H c):DQ H' a kvs:=by
 obtain⟨⟨xs,ep,h1,h2⟩,k,n,l⟩:=h
 refine⟨⟨xs,ep,?_,h2⟩,λx hx=>?_,n,l⟩
 ·rw[s a (aw h1 hd (by intro z; cases z))]; exact h1
 ·have z:=k x hx
  show H' x.2.1=_
  rw[s _ (aw z hd (by intro z; cases z))]
  exact z
theorem lR(kvs:List (ao × V))(k:ao)(v:V):(k∈(kvs.map λx=>x.1)/\((aW kvs k v).map λx=>x.1)=kvs.map λx=>x.1)\/(k∉(kvs.map λx=>x.1)/\((aW kvs k v).map λx=>x.1)=(kvs.map λx=>x.1)++[k]):=by
 by_cases h:k∈(kvs.map λx=>x.1)
 ·refine .inl ⟨h,?_⟩
  unfold aW
  obtain⟨y,hy,ey⟩:=List.mem_map.mp h
  rw[if_pos (List.any_eq_true.mpr ⟨y,hy,decide_eq_true ey⟩),List.map_map]
  refine List.map_congr_left λy hy=>?_
  show (if y.1=k then (y.1,v) else y).1=y.1
  split <;> rfl
 ·refine .inr ⟨h,?_⟩
  rw[nU v (mR h),List.map_append]
  rfl
theorem bS.put{H H':Hp}{p d qg:Addr}{rows PS:List (List Int)}{ky:List Int->Prop}{kvs:List (aG × Addr × V)}{b:List Int}{x:Int}{ks:List (ao × V)}(h:bS H p rows PS ky kvs)(hv:bE kvs b=some (.ref d))(hd:H d=some (.dK ks))(hq:H qg=some (.tup ((bh rows (b++[x])).map V.int)))
 (e':H'=upd H d (.dK (aW ks (.inl x) (.ref qg)))):bS H' p rows (PS++[b++[x]]) ky kvs:=by
 have so : ∀ c,c≠d->H' c=H c:=λc n=>by rw[e',ak n]
 have tu : ∀ q xs,H q=some (.tup xs)->H' q=some (.tup xs):=λq xs z=>by rw[so q (aw z hd (by intro z; cases z))]; exact z
 have kb:ky b:=by
  obtain⟨e,he,e1,_⟩:=gy hv
  exact (h.key b).mp (List.mem_map.mpr ⟨e,he,e1⟩)
 refine⟨wd h.dq hd so,h.key,λb' x' hx=>?_,λe he=>?_,h.inj⟩
 ·rcases List.mem_append.mp hx with z | z
  ·exact h.met b' x' z
  ·have z:=List.append_inj_left' (List.mem_singleton.mp z) rfl
   rw[z]; exact kb
 ·obtain⟨d1,ks1,a1,a2,a3⟩:=h.val e he
  by_cases c:d1=d
  ·subst c
   rw[hd]at a2; cases a2
   obtain⟨e0,he0,e1,e2⟩:=gy hv
   have eb:e.1=b:=by rw[<- e1]; exact h.inj e he e0 he0 (a1.trans e2.symm)
   refine⟨d1,_,a1,by rw[e',aN],?_⟩
   rw[eb]at a3 ⊢
   refine⟨?_,λy hy=>?_,λx' hx=>?_,λx' hx=>?_,by have:=hE ks (.inl x) (.ref qg); have:=a3.len; rw[List.length_append]; simp; omega⟩
   ·rcases lR ks (.inl x) (.ref qg) with ⟨_,z2⟩ | ⟨z,z2⟩
    ·rw[z2]; exact a3.nd
    ·rw[z2]
     refine List.nodup_append.mpr ⟨a3.nd,by simp,λu hu v hv=>?_⟩
     rw[List.mem_singleton.mp hv]
     exact λe=>z (e ▸ hu)
   ·have hm:y.1∈(aW ks (.inl x) (.ref qg)).map λx=>x.1:=List.mem_map.mpr ⟨y,hy,rfl⟩
    have old:y.1∈(ks.map λx=>x.1)->∃ x:Int,y.1=.inl x:=λz=>by
     obtain⟨u,hu,eu⟩:=List.mem_map.mp z
     obtain⟨x,ex⟩:=a3.int u hu
     exact⟨x,eu.symm.trans ex⟩
    rcases lR ks (.inl x) (.ref qg) with ⟨_,z2⟩ | ⟨_,z2⟩
    ·rw[z2]at hm; exact old hm
    ·rw[z2]at hm
     rcases List.mem_append.mp hm with z | z
     ·exact old z
     ·exact⟨x,List.mem_singleton.mp z⟩
   ·rw[dO]
    by_cases c:(Sum.inl x':ao)=.inl x
    ·rw[if_pos c]
     cases Sum.inl.inj c
     exact⟨qg,rfl,tu _ _ hq⟩
    ·rw[if_neg c]
     have hx:b++[x']∈PS:=by
      rcases List.mem_append.mp hx with z | z
      ·exact z
      ·have z:=List.append_inj_right' (List.mem_singleton.mp z) rfl
       cases z
       exact absurd rfl c
     obtain⟨q,b1,b2⟩:=a3.yes x' hx
     exact⟨q,b1,tu _ _ b2⟩
   ·rw[dO]
    by_cases c:(Sum.inl x':ao)=.inl x
    ·cases Sum.inl.inj c
     exact absurd (List.mem_append_right _ (List.mem_singleton.mpr rfl)) hx
    ·rw[if_neg c]
     exact a3.no x' λz=>hx (List.mem_append_left _ z)
  ·refine⟨d1,ks1,a1,by rw[so d1 c]; exact a2,?_⟩
   have nb:e.1≠b:=λz=>by
    obtain⟨e0,he0,e1,e2⟩:=gy hv
    have nd:=h.dq.nd
    have:e=e0:=by
     have:=List.pairwise_map.mp nd
     obtain⟨i,hi⟩:=List.getElem?_of_mem he
     obtain⟨j,hj⟩:=List.getElem?_of_mem he0
     have l1:=(List.getElem?_eq_some_iff.mp hi).1
     have l2:=(List.getElem?_eq_some_iff.mp hj).1
     have:i=j:=by
      have q1:(kvs.map λe=>e.1)[i]? = some b:=by rw[List.getElem?_map,hi]; exact congrArg some z
      have q2:(kvs.map λe=>e.1)[j]? = some b:=by rw[List.getElem?_map,hj]; exact congrArg some e1
      exact (List.getElem?_inj (by rw[List.length_map]; exact l1) nd).mp (q1.trans q2.symm)
     subst this
     rw[hi]at hj; cases hj; rfl
    subst this
    rw[a1]at e2; cases e2
    exact c rfl
   refine⟨a3.nd,a3.int,λx' hx=>?_,λx' hx=>a3.no x' λz=>hx (List.mem_append_left _ z),by have:=a3.len; rw[List.length_append]; omega⟩
   have hx:e.1++[x']∈PS:=by
    rcases List.mem_append.mp hx with z | z
    ·exact z
    ·exact absurd (List.append_inj_left' (List.mem_singleton.mp z) rfl) nb
   obtain⟨q,b1,b2⟩:=a3.yes x' hx
   exact⟨q,b1,tu _ _ b2⟩
theorem bS.new{H H':Hp}{p dn q:Addr}{rows PS:List (List Int)}{ky:List Int->Prop}{kvs:List (aG × Addr × V)}{b:List Int}(h:bS H p rows PS ky kvs)(nb : ¬ ky b)(hn:H dn=some (.dK []))(nn : ∀ e∈kvs,e.2.2 ≠ .ref dn)
 (dq:DQ H' p (kvs++[(b,q,.ref dn)])) (so : ∀ c,c≠p->H' c=H c):bS H' p rows PS (λc=>ky c\/c=b) (kvs++[(b,q,.ref dn)]):=by
 obtain⟨xs,ep,h1,_⟩:=h.dq.ex
 have tu : ∀ q xs,H q=some (.tup xs)->H' q=some (.tup xs):=λq xs z=>by rw[so q (aw z h1 (by intro z; cases z))]; exact z
 refine⟨dq,λc=>?_,λc x hx=>.inl (h.met c x hx),λe he=>?_,λe he e' he' z=>?_⟩
 ·rw[List.map_append,List.mem_append,h.key]
  simp
 ·rcases List.mem_append.mp he with he | he
  ·obtain⟨d1,ks1,a1,a2,a3⟩:=h.val e he
   exact⟨d1,ks1,a1,by rw[so d1 (aw a2 h1 (by intro z; cases z))]; exact a2,a3.mono tu⟩
  ·cases List.mem_singleton.mp he
   exact⟨dn,[],rfl,by rw[so dn (aw hn h1 (by intro z; cases z))]; exact hn,.nil,(λy hy=>nomatch hy),(λx hx=>absurd (h.met b x hx) nb),(λx _=>rfl),Nat.zero_le _⟩
 ·rcases List.mem_append.mp he with he | he <;> rcases List.mem_append.mp he' with he' | he'
  ·exact h.inj e he e' he' z
  ·cases List.mem_singleton.mp he'
   exact absurd z (nn e he)
  ·cases List.mem_singleton.mp he
   exact absurd z.symm (nn e' he')
  ·cases List.mem_singleton.mp he
   cases List.mem_singleton.mp he'
   rfl
def bQ(r:List Int)(n:Nat):List (List Int):=(List.range n).map λk=>r.take (k+1)
def aH(rows:List (List Int)):List (List Int):=rows.flatMap λr=>bQ r r.length
theorem ud(r:List Int)(n:Nat):bQ r (n+1)=bQ r n++[r.take (n+1)]:=by
 unfold bQ
 rw[List.range_succ,List.map_append]
 rfl
theorem Ba(rows:List (List Int))(r:List Int):aH (rows++[r])=aH rows++bQ r r.length:=by
 unfold aH
 rw[List.flatMap_append]
 simp
theorem uc{rows:List (List Int)}(h : ∀ r∈rows,r.length<=6):(aH rows).length<=6*rows.length:=by
 induction rows with
 | nil=>exact Nat.zero_le _
 | cons r rows ih =>
  have h1:=h r (List.mem_cons_self ..)
  have h2:=ih λx hx=>h x (List.mem_cons_of_mem _ hx)
  show (bQ r r.length++aH rows).length<=_
  rw[List.length_append]
  have:(bQ r r.length).length=r.length:=by unfold bQ; rw[List.length_map,List.length_range]
  rw[List.length_cons]
  omega
theorem uE{r q:List Int}:q∈bQ r r.length ↔ q≠[]/\q <+: r:=by
 unfold bQ
 rw[List.mem_map]
 constructor
 ·rintro⟨k,hk,rfl⟩
  have hk:=List.mem_range.mp hk
  refine⟨λz=>?_,List.take_prefix _ _⟩
  have:=congrArg List.length z
  simp only [List.length_take,List.length_nil]at this
  omega
 ·rintro⟨h1,h2⟩
  have hl:0 < q.length:=List.length_pos_iff.mpr h1
  have h3:=h2.length_le
  refine⟨q.length - 1,List.mem_range.mpr (by omega),?_⟩
  rw[show q.length - 1+1=q.length by omega]
  exact (List.prefix_iff_eq_take.mp h2).symm
theorem eQ{rows:List (List Int)}{q:List Int}:q∈aH rows ↔ q≠[]/\∃ r∈rows,q <+: r:=by
 unfold aH
 rw[List.mem_flatMap]
 constructor
 ·rintro⟨r,hr,h⟩
  obtain⟨h1,h2⟩:=uE.mp h
  exact⟨h1,r,hr,h2⟩
 ·rintro⟨h1,r,hr,h2⟩
  exact⟨r,hr,uE.mpr ⟨h1,h2⟩⟩
theorem bS.kyE{H:Hp}{p:Addr}{rows PS:List (List Int)}{ky ky':List Int->Prop}{kvs:List (aG × Addr × V)}(h:bS H p rows PS ky kvs)(e : ∀ b,ky b ↔ ky' b):bS H p rows PS ky' kvs :=
 ⟨h.dq,λb=>(h.key b).trans (e b),λb x hx=>(e b).mp (h.met b x hx),h.val,h.inj⟩
def cD(PS:List (List Int)):List Int->Prop:=λb=>∃ x,b++[x]∈PS
theorem bS.nil{H:Hp}{p:Addr}(rows:List (List Int))(h:DQ H p []):bS H p rows [] (cD []) []:=by
 refine⟨h,λb=>⟨λz=>?_,λz=>?_⟩,λb x hx=>?_,λe he=>?_,λe he=>?_⟩
 ·cases z
 ·obtain⟨x,hx⟩:=z; cases hx
 ·cases hx
 ·cases he
 ·cases he
def fJ(p:Addr)(H H':Hp):Prop:=∀ c u,c≠p->H c=some u->H' c=some u
def rC(H:Hp)(kvs:List (aG × Addr × V)):Prop:=∀ e∈kvs,∀ d,e.2.2=.ref d->H d=none
theorem Ea{rows:List (List Int)}{r:List Int}{j:Nat}(pf : ∀ x∈rows,∀ y∈rows,x <+: y->x=y)(hr:r∈rows)(hj:j < r.length):bh rows (r.take (j+1))=if j+1 < r.length then r.take (j+1) else []:=by
 unfold bh
 by_cases c:j+1 < r.length
 ·rw[if_pos c,if_neg λz=>?_]
  have:=congrArg List.length (pf _ z _ hr (List.take_prefix _ _))
  rw[List.length_take]at this
  omega
 ·rw[if_neg c,List.take_of_length_le (by omega),if_pos hr]
def yJ(t:Adr):Sp:=λvs H Q _=>∃ (a:Addr) (f:Ft) (es:List (Int × List Int)) (n:Nat),vs=[.ref a]/\Tt t H a f es n/\n<=1000/\Es es /\
 ∀ p kvs H',ag H H'->H p=none->bS H' p (es.map λe=>e.2) (aH (es.map λe=>e.2)) (cD (aH (es.map λe=>e.2))) kvs->kvs.length<=(aH (es.map λe=>e.2)).length->Q (.ref p) H'
theorem DC (T:Txt K mg t):bj P w K mg base "steps_of" 2 t.qH t.o7 ["tongue"] (yJ t):=by
 refine⟨T.En,T.xj.kp,T.GF,T.xj.okQ iC (λvs H Q E h=>by obtain⟨a,f,es,n,rfl,_⟩:=h; rfl) λcdv A outer s H vs Q E hr h=>?_⟩
 obtain⟨a,f,es,n,rfl,tt,hn,ok,k⟩:=h
 have hu:=hr.units
 refine⟨_,(ap (aE (i:=1) iC.nd rfl (.inl rfl) Ar)
  (ap (bN PassesOwn.never rfl (dz (K:=K) rfl (nR (D4 T) hr (aa 0))) (cZ (K:=K) rfl rfl (bq (aD (i:=2) iC.nd rfl (.inl rfl)) (bq (aD (i:=3) iC.nd rfl (.inl rfl)) cY))) (au (bN PassesOwn.never rfl (nN rfl T.n_range (af (be (bR (K:=K) rfl) T.n_len PySem.boot_len (af (aa 3) ai)) ai)) (aD (i:=4) iC.nd rfl (.inl rfl)) (ap (aE (i:=5) iC.nd rfl (.inl rfl) (c9 (ic (K:=K) rfl) T.n_tuple PyProof.Rows.boot_tuple (af (c7 (dS (K:=K) rfl) (aa 3) eI (cr (aa 4))) ai)))
  (ap (dQ (Av hu (aa 1) (aa 5) nT))
  (au (jP hu (jQ hu (aa 1) (aa 5)) (aK (aL (K:=K) rfl) (aa 3) (aa 4) (λ_ _=>rfl)) (kZ (bw lX (bO (cL (K:=K) rfl) (aa 4) av) (be (bR (K:=K) rfl) T.n_len PySem.boot_len (af (aa 3) ai)) (bc _)) (c9 (ic (K:=K) rfl) T.n_tuple PyProof.Rows.boot_tuple (af (c7 (dS (K:=K) rfl) (aa 3) eI (cr (bO (cL (K:=K) rfl) (aa 4) av))) ai)) (bW ai)))))))))
  (au (aJ (aa 1))))),?_⟩
 refine λp1 H1 g1=>?_
 refine⟨a,f.dx,_,rfl,g1.sm _ _ tt.o,rfl,?_⟩
 obtain⟨rows,er⟩ : ∃ rows,rows=es.map λe=>e.2:=⟨_,rfl⟩
 have pf : ∀ x∈rows,∀ y∈rows,x <+: y->x=y:=by
  intro x hx y hy hp
  rw[er]at hx hy
  obtain⟨e1,h1,rfl⟩:=List.mem_map.mp hx
  obtain⟨e2,h2,rfl⟩:=List.mem_map.mp hy
  rcases ok.two h1 h2 with z | z
  ·rw[z]
  ·have:bd e1.2 e2.2=true:=decide_eq_true (List.prefix_iff_eq_take.mp hp).symm
   unfold de at z
   rw[this]at z
   simp at z
 have nds:(es.map λe=>e.1).Nodup:=by
  refine List.pairwise_map.mpr (ok.pw.imp λ{e1 e2} z=>?_)
  unfold de at z
  intro c
  rw[decide_eq_true c]at z
  simp at z
 refine⟨a,f,es,n,rfl,tt.mono g1.sm,hn,nds,λp2 ps H2 s2 h2 al=>?_⟩
 have lps:ps.length=es.length:=al.1
 have lr:rows.length=es.length:=by rw[er,List.length_map]
 have d0:DQ H2 p1 []:=(DQ.new g1).same s2
 obtain⟨xs0,ep0,dh,_⟩:=d0.ex
 have S0:bS H2 p1 rows (aH (rows.take 0)) (cD (aH (rows.take 0))) []:=bS.nil rows d0
 refine⟨p2,rfl,⟨_,.of h2⟩,gb (K:=K) (a:=p2) (xs:=ps.map V.ref) (λi σ H'=>fJ p1 H2 H'/\(∃ kvs,bS H' p1 rows (aH (rows.take i)) (cD (aH (rows.take i))) kvs/\kvs.length<=(aH (rows.take i)).length/\rC H2 kvs)/\∃ v2 v3 v4 v5,σ=[some (.ref a),some (.ref p1),v2,v3,v4,v5]) ⟨λc u _ e=>e,⟨[],S0,Nat.zero_le _,λe he=>by cases he⟩,_,_,_,_,rfl⟩ (λi σ H' _ z=>.of (z.1 _ _ (aw h2 dh (by intro z; cases z)) h2)) ?_ ?_⟩
 ·rintro i x σ H3 hx ⟨b3,⟨kvs,st,lk,nv⟩,v2,v3,v4,v5,rfl⟩
  rw[List.getElem?_map]at hx
  obtain⟨q,hq,rfl⟩:=Option.map_eq_some_iff.mp hx
  obtain⟨e,he,l,e1,e2⟩:=al.right hq
  have em:e∈es:=List.mem_of_getElem? he
  have hri:rows[i]? = some e.2:=by rw[er,List.getElem?_map,he]; rfl
  have hrm:e.2∈rows:=List.mem_of_getElem? hri
  have le:=(ok.sg e em).2.2.1
  have il:i < 64:=by have:=(List.getElem?_eq_some_iff.mp he).1; have:=ok.l; omega
  have q3:=b3 _ _ (aw e1 dh (by intro z; cases z)) e1
  have l3:=b3 _ _ (aw e2 dh (by intro z; cases z)) e2
  refine⟨q,_,rfl,.of q3,rfl,?_⟩
  refine⟨_,_,rfl,_,_,rfl,rfl,?_⟩
  refine⟨_,.inl (.of l3),?_⟩
  refine⟨_,rfl,by rw[List.length_map]; omega,by rw[List.length_map]; omega,?_⟩
  rw[List.length_map]
  refine oV (lo:=0) (n:=(e.2.length:Int).toNat) (λj σ H'=>fJ p1 H2 H'/\(∃ kvs,bS H' p1 rows (aH (rows.take i)++bQ e.2 j) (cD (aH (rows.take i)++bQ e.2 j)) kvs/\kvs.length<=(aH (rows.take i)++bQ e.2 j).length/\rC H2 kvs)/\∃ v4 v5,σ=[some (.ref a),some (.ref p1),some (.int e.1),some (.ref l),v4,v5]) ⟨b3,⟨kvs,by rw[show bQ e.2 0=[] from rfl,List.append_nil]; exact st,by rw[show bQ e.2 0=[] from rfl,List.append_nil]; exact lk,nv⟩,_,_,rfl⟩ ?_ ?_
  ·rintro j σ H4 hj ⟨b4,⟨kvs4,st4,lk4,nv4⟩,v4,v5,rfl⟩
   rw[Int.toNat_natCast]at hj
   obtain⟨PS,ePS⟩ : ∃ PS,PS=aH (rows.take i)++bQ e.2 j:=⟨_,rfl⟩
   rw[<- ePS]at st4 lk4
   have lPS:PS.length<=390:=by
    have:=uc (rows:=rows.take i) λr hr=>by
     have hr:=List.mem_of_mem_take hr
     rw[er]at hr
     obtain⟨e1,h1,rfl⟩:=List.mem_map.mp hr
     exact (ok.sg e1 h1).2.2.1
    rw[ePS,List.length_append]
    have l2:(bQ e.2 j).length=j:=by unfold bQ; rw[List.length_map,List.length_range]
    rw[List.length_take]at this
    omega
   obtain⟨x,hx⟩ : ∃ x,e.2[j]? = some x:=⟨_,List.getElem?_eq_getElem hj⟩
   have tk:e.2.take (j+1)=e.2.take j++[x]:=by rw[List.take_add_one,hx]; rfl
   obtain⟨b,eb⟩ : ∃ b,b=e.2.take j:=⟨_,rfl⟩
   rw[<- eb]at tk
   have l4:=b4 _ _ (aw e2 dh (by intro z; cases z)) e2
   obtain⟨xs4,ep4,dh4,_⟩:=st4.dq.ex
   refine⟨_,rfl,_,.of l4,λp5 H5 g5=>?_⟩
   rw[Int.zero_add,jo,<- eb]at g5
   refine⟨_,.of g5.at_,λp6 H6 g6=>?_⟩
   have s46:=g5.sm.trans g6.sm
   dsimp only [bF]
   refine kN (λσ' H'=>σ'=[some (.ref a),some (.ref p1),some (.int e.1),some (.ref l),some (.int (0+(j:Int))),some (.ref p6)]/\fJ p1 H6 H'/\∃ kvs8,bS H' p1 rows PS (λc=>cD PS c\/c=b) kvs8/\kvs8.length<=PS.length+1/\rC H2 kvs8/\b∈kvs8.map λe=>e.1) (λnx hnx=>?_) λσ' H8 z=>?_
   ·refine⟨p1,kvs4,rfl,st4.dq.same s46,λp7 H7 g7=>?_⟩
    have s47:=s46.trans g7.sm
    have st7:=st4.same s47
    refine⟨p6,kvs4,b,rfl,st7.dq,g7.sm _ _ g6.at_,dP (by omega),λv hv=>?_,λhv H8 d8 so=>?_⟩
    ·obtain⟨e0,he0,e01,e02⟩:=gy hv
     have kb:b∈kvs4.map λe=>e.1:=List.mem_map.mpr ⟨e0,he0,e01⟩
     have kyb:=(st7.key b).mp kb
     refine hnx _ _ ⟨rfl,λc u _ z=>g7.sm _ _ z,kvs4,st7.kyE λc=>⟨.inl,λz=>?_⟩,by omega,nv4,kb⟩
     rcases z with z | z
     ·exact z
     ·rw[z]; exact kyb
    ·rw[AD hv]at d8
     have nb : ¬ cD PS b:=λz=>by
      obtain⟨v,hv'⟩:=kE ((st7.key b).mpr z)
      rw[hv]at hv'; cases hv'
     have np:p7≠p1:=λz=>by have:=g7.nw; rw[z,s46 _ _ dh4]at this; cases this
     have n2:H2 p7=none:=by
      cases c:H2 p7 with
      | none=>rfl
      | some u =>
       have:=s46 _ _ (b4 _ _ np c)
       rw[g7.nw]at this; cases this
     have nn : ∀ e∈kvs4,e.2.2 ≠ .ref p7:=λe0 he0 z=>by
      obtain⟨d1,ks1,a1,a2,_⟩:=st4.val e0 he0
      rw[z]at a1; cases a1
      have:=s46 _ _ a2
      rw[g7.nw]at this; cases this
     refine hnx _ _ ⟨rfl,λc u n z=>by rw[so c n]; exact g7.sm _ _ z,_,st7.new nb g7.at_ nn d8 so,by rw[List.length_append]; simp; omega,λe0 he0 d hd=>?_,by rw[List.map_append]; exact List.mem_append_right _ (List.mem_singleton.mpr rfl)⟩
     rcases List.mem_append.mp he0 with z | z
     ·exact nv4 e0 z d hd
     ·cases List.mem_singleton.mp z
      cases hd
      exact n2
   ·obtain⟨rfl,b8,kvs8,st8,lk8,nv8,kb8⟩:=z
    have b28:fJ p1 H2 H8:=λc u n z=>b8 c u n (s46 _ _ (b4 c u n z))
    have l8:=b28 _ _ (aw e2 dh (by intro z; cases z)) e2
    have q8:=b8 _ _ (λz=>by have:=g6.nw; rw[z,g5.sm _ _ dh4]at this; cases this) g6.at_
    have gl:=Ea pf hrm hj
    rw[tk]at gl
    refine⟨_,.inl (.of l8),?_⟩
    rw[List.length_map]
    refine aF (λc=>?A) (λc=>?B)
    case' A =>
     refine⟨_,rfl,_,.of l8,λp9 H9 g9=>?_⟩
     rw[Int.zero_add,show ((j:Int)+1)=((j+1:Nat):Int) by omega,jo,tk]at g9
     refine⟨_,.of g9.at_,λq10 H10 g10=>?_⟩
     have s8:ag H8 H10:=g9.sm.trans g10.sm
     have h10:H10 q10=some (.tup ((bh rows (b++[x])).map V.int)):=by
      rw[gl,if_pos (by have:=of_decide_eq_true c; omega)]; exact g10.at_
     clear g9 g10
    case' B =>
     refine⟨sz rfl,λq10 H10 g10=>?_⟩
     have s8:ag H8 H10:=g10.sm
     have h10:H10 q10=some (.tup ((bh rows (b++[x])).map V.int)):=by
      rw[gl,if_neg (λz=>c (decide_eq_true (by omega)))]; exact g10.at_
     clear g10
    all_goals
     have st10:=st8.same s8
     obtain⟨v,hv⟩:=kE kb8
     obtain⟨e0,he0,e01,e02⟩:=gy hv
     obtain⟨d,ks,a1,a2,a3⟩:=st10.val e0 he0
     rw[e02]at a1
     subst a1
     refine⟨p1,p6,kvs8,b,.ref d,rfl,rfl,st10.dq,s8 _ _ q8,hv,?_⟩
     refine⟨_,.int x,.inl (.of (s8 _ _ l8)),?_,?_⟩
     ·rw[Int.zero_add]
      exact aZ (by rw[List.getElem?_map,hx]; rfl)
     refine⟨d,_,rfl,eA.k (k:=.inl x) a2 (dP (by have:=a3.len; omega)),?_⟩
     have nd:H2 d=none:=nv8 e0 he0 d e02
     refine⟨λc u n z=>?_,⟨kvs8,?_,by rw[ud,<- List.append_assoc,<- ePS,List.length_append]; exact lk8,nv8⟩,_,_,rfl⟩
     ·rw[ak (λz'=>by rw[z',nd]at z; cases z)]
      exact s8 _ _ (b28 c u n z)
     ·rw[ud,<- List.append_assoc,<- ePS,tk]
      refine (st10.put hv a2 h10 rfl).kyE λc=>?_
      constructor
      ·rintro (⟨y,hy⟩ | rfl)
       ·exact⟨y,List.mem_append_left _ hy⟩
       ·exact⟨x,List.mem_append_right _ (List.mem_singleton.mpr rfl)⟩
      ·rintro⟨y,hy⟩
       rcases List.mem_append.mp hy with z | z
       ·exact .inl ⟨y,z⟩
       ·exact .inr (List.append_inj_left' (List.mem_singleton.mp z) rfl)
  ·rintro σ H4 ⟨b4,⟨kvs4,st4,lk4,nv4⟩,v4,v5,rfl⟩
   rw[Int.toNat_natCast]at st4 lk4
   have et:aH (rows.take (i+1))=aH (rows.take i)++bQ e.2 e.2.length:=by
    rw[List.take_add_one,hri]
    rw[show (some e.2).toList=[e.2] from rfl,Ba]
   refine⟨b4,⟨kvs4,?_,by rw[et]; exact lk4,nv4⟩,_,_,_,_,rfl⟩
   rw[et]
   exact st4
 ·rintro σ H3 ⟨b3,⟨kvs,st,lk,nv⟩,v2,v3,v4,v5,rfl⟩
  have sm:ag H H3:=λc u e=>b3 c u (λz=>by rw[z,g1.nw]at e; cases e) (s2 _ _ (g1.sm _ _ e))
  rw[List.length_map,lps,<- lr,List.take_length]at st lk
  have:=uc (rows:=rows) λr hr=>by
   rw[er]at hr
   obtain⟨e1,h1,rfl⟩:=List.mem_map.mp hr
   exact (ok.sg e1 h1).2.2.1
  have:=ok.l
  rw[er]at st lk
  exact k p1 kvs H3 sm g1.nw st lk
theorem jU{σ:St}{i:Nat}{v:V}{H:Hp}{Q:VK}(h:σ[i]? = some (some v))(q:Q v H):mV i σ H Q:=by
 unfold mV
 rw[h]
 exact q
theorem v9{K:PySem.W.Frag}{H:Hp}{a b:Addr}{ns ms:List Int}{neg:Bool}{Q:VK}(h1:H a=some (.tup (ns.map V.int)))(h2:H b=some (.tup (ms.map V.int)))(q:Q (.bl (if neg then !decide (ns=ms) else decide (ns=ms))) H) :
 hX K neg (.ref a) (.ref b) H Q:=by
 refine⟨_,_,bu.tup (.of h1) (cQ.ints ns),bu.tup (.of h2) (cQ.ints ms),PySem.W.ke_shaped_ints ns,PySem.W.ke_shaped_ints ms,?_⟩
 have e:PyData.eqv (.tuple (ns.map PyData.int)) (.tuple (ms.map PyData.int))=decide (ns=ms):=by
  show PyData.eqvAll _ _=_
  exact PySem.W.ked_eqvAll ns ms
 rw[e]
 exact q
def cM(rows PS:List (List Int))(b c:List Int)(x:Int):Option ab :=
 if b++[x]∈PS/\c++[x]∈PS/\bh rows (c++[x])≠bh rows (b++[x]) then some (bh rows (b++[x]),bh rows (c++[x])) else none
structure cJ (H:Hp) (F:Int->Option ab) (S:Int->Prop) (n:Nat) (ks:List (ao × V)):Prop where
 nd:(ks.map λy=>y.1).Nodup
 int : ∀ y∈ks,∃ x:Int,y.1=.inl x
 yes : ∀ x g,S x->F x=some g->∃ q,aR ks (.inl x)=some (.ref q)/\aM H g q
 no : ∀ x,(S x->F x=none)->aR ks (.inl x)=none
 len:ks.length<=n
theorem cJ.mono{H H':Hp}{F:Int->Option ab}{S:Int->Prop}{n:Nat}{ks:List (ao × V)}(h:cJ H F S n ks)(s : ∀ q xs,H q=some (.tup xs)->H' q=some (.tup xs)):cJ H' F S n ks :=
 ⟨h.nd,h.int,λx g a b=>by
  obtain⟨q,h1,c,d,h2,h3,h4⟩:=h.yes x g a b
  exact⟨q,h1,c,d,s _ _ h2,s _ _ h3,s _ _ h4⟩,h.no,h.len⟩
theorem cJ.skip{H:Hp}{F:Int->Option ab}{S S':Int->Prop}{n:Nat}{ks:List (ao × V)}{x:Int}(h:cJ H F S n ks)(hS : ∀ z,S' z ↔ S z\/z=x)(hF:F x=none):cJ H F S' (n+1) ks:=by
 refine⟨h.nd,h.int,λz g a b=>?_,λz a=>h.no z λc=>a ((hS z).mpr (.inl c)),by have:=h.len; omega⟩
 rcases (hS z).mp a with a | a
 ·exact h.yes z g a b
 ·rw[a,hF]at b; cases b
theorem cJ.put{H:Hp}{F:Int->Option ab}{S S':Int->Prop}{n:Nat}{ks:List (ao × V)}{x:Int}{g:ab}{q:Addr}(h:cJ H F S n ks)(hS : ∀ z,S' z ↔ S z\/z=x)(hF:F x=some g)(hq:aM H g q):cJ H F S' (n+1) (aW ks (.inl x) (.ref q)):=by
 refine⟨?_,λy hy=>?_,λz g' a b=>?_,λz a=>?_,by have:=hE ks (.inl x) (.ref q); have:=h.len; omega⟩
 ·rcases lR ks (.inl x) (.ref q) with ⟨_,z2⟩ | ⟨z,z2⟩
  ·rw[z2]; exact h.nd
  ·rw[z2]
   refine List.nodup_append.mpr ⟨h.nd,by simp,λu hu v hv=>?_⟩
   rw[List.mem_singleton.mp hv]
   exact λe=>z (e ▸ hu)
 ·have hm:y.1∈(aW ks (.inl x) (.ref q)).map λx=>x.1:=List.mem_map.mpr ⟨y,hy,rfl⟩
  have old:y.1∈(ks.map λx=>x.1)->∃ x:Int,y.1=.inl x:=λz=>by
   obtain⟨u,hu,eu⟩:=List.mem_map.mp z
   obtain⟨x,ex⟩:=h.int u hu
   exact⟨x,eu.symm.trans ex⟩
  rcases lR ks (.inl x) (.ref q) with ⟨_,z2⟩ | ⟨_,z2⟩
  ·rw[z2]at hm; exact old hm
  ·rw[z2]at hm
   rcases List.mem_append.mp hm with z | z
   ·exact old z
   ·exact⟨x,List.mem_singleton.mp z⟩
 ·rw[dO]
  by_cases c:(Sum.inl z:ao)=.inl x
  ·rw[if_pos c]
   cases Sum.inl.inj c
   rw[hF]at b; cases b
   exact⟨q,rfl,hq⟩
  ·rw[if_neg c]
   rcases (hS z).mp a with a | a
   ·exact h.yes z g' a b
   ·exact absurd (by rw[a]) c
 ·rw[dO]
  by_cases c:(Sum.inl z:ao)=.inl x
  ·cases Sum.inl.inj c
   have:=a ((hS x).mpr (.inr rfl))
   rw[hF]at this; cases this
  ·rw[if_neg c]
   exact h.no z λy=>a ((hS z).mpr (.inl y))
def y3:Sp:=λvs H Q _=>∃ (p b c:Addr) (rows PS:List (List Int)) (ky:List Int->Prop) (kvs:List (aG × Addr × V)) (kb kc:List Int),vs=[.ref p,.ref b,.ref c]/\bS H p rows PS ky kvs/\PS.length<=390 /\
 H b=some (.tup (kb.map V.int))/\H c=some (.tup (kc.map V.int))/\ky kb/\ky kc/\kb≠kc /\
 ∀ d ks H',ag H H'->H d=none->H' d=some (.dK ks)->cJ H' (cM rows PS kb kc) (λ_=>True) 390 ks->Q (.ref d) H'
theorem DY (T:Txt K mg t):bj P w K mg base "apart_behind" 1 t.rf t.pN ["steps", "one", "other"] y3:=by
 refine⟨T.EV,T.xF.kp,T.G2,T.xF.okQ kR (λvs H Q E h=>by obtain⟨p,b,c,rows,PS,ky,kvs,kb,kc,rfl,_⟩:=h; rfl) λcdv A outer s H vs Q E hr h=>?_⟩
 obtain⟨p,b,c,rows,PS,ky,kvs,kb,kc,rfl,st,lP,hb,hc,kyb,kyc,ne,k⟩:=h
 have hu:=hr.units
 refine⟨_,(ap (aE (i:=3) kR.nd rfl (.inl rfl) nT)
  (ap (nH (bN PassesOwn.never rfl (kY (jQ hu (aa 0) (aa 1))) (cZ (K:=K) rfl rfl (bq (aD (i:=4) kR.nd rfl (.inl rfl)) (bq (aD (i:=5) kR.nd rfl (.inl rfl)) cY))) (au (bM (jc (tP (bw (EK hu) (aa 4) (jQ hu (aa 0) (aa 2)) (by with_unfolding_all rfl)) (tO (bw (jh (K:=K) rfl hu) (li hu (jQ hu (aa 0) (aa 2)) (aa 4)) (aa 5) (bc _))))) (au (jP hu (aa 3) (aa 4) (bW (af (aa 5) (af (li hu (jQ hu (aa 0) (aa 2)) (aa 4)) ai))))) bL))))
  (au (aJ (aa 3))))),?_⟩
 refine λpf H1 g1=>?_
 have st1:=st.same g1.sm
 obtain⟨v1,hv1⟩:=kE ((st1.key kb).mpr kyb)
 obtain⟨e1,he1,e11,e12⟩:=gy hv1
 obtain⟨d1,ks1,a1,a2,a3⟩:=st1.val e1 he1
 rw[e12]at a1; subst a1
 obtain⟨v2,hv2⟩:=kE ((st1.key kc).mpr kyc)
 obtain⟨e2,he2,e21,e22⟩:=gy hv2
 obtain⟨d2,ks2,b1,b2,b3'⟩:=st1.val e2 he2
 rw[e22]at b1; subst b1
 rw[e11]at a3
 rw[e21]at b3'
 have nd:d2≠d1:=λz=>by
  subst z
  exact ne (by rw[<- e11,<- e21]; exact st1.inj e1 he1 e2 he2 (e12.trans e22.symm))
 have npd:pf≠d1:=λz=>by
  obtain⟨d0,k0,z1,z2,_⟩:=st.val e1 he1
  rw[e12]at z1; cases z1
  have:=g1.nw; rw[z,z2]at this; cases this
 refine⟨d1,.dK ks1,(λo v z=>by rw[a2]at z; cases z),?_⟩
 refine⟨p,b,kvs,kb,.ref d1,rfl,rfl,st1.dq,g1.sm _ _ hb,hv1,?_⟩
 refine⟨d1,ks1,rfl,a2,λob=>?_⟩
 obtain⟨H2,eH2⟩ : ∃ H2,H2=upd H1 d1 (.frz ob (.dK ks1)):=⟨_,rfl⟩
 have f2:H2 d1=some (.frz ob (.dK ks1)):=by rw[eH2,aN]
 have o2 : ∀ c u,c≠d1->H1 c=some u->H2 c=some u:=λc u n e=>by rw[eH2,ak n]; exact e
 have o2' : ∀ c u,c≠d1->H2 c=some u->H1 c=some u:=λc u n e=>by rw[eH2,ak n]at e; exact e
 rw[<- eH2]
 have dq2:DQ H2 p kvs:=wd st1.dq a2 λc n=>by rw[eH2,ak n]
 have tu2 : ∀ q xs,H1 q=some (.tup xs)->H2 q=some (.tup xs):=λq xs z=>o2 _ _ (aw z a2 (by intro z; cases z)) z
 have pf2:=o2 _ _ npd g1.at_
 clear eH2
 refine E9 (λi σ H'=>fJ pf H2 H'/\(∃ ksf,H' pf=some (.dK ksf)/\cJ H' (cM rows PS kb kc) (λx=>(Sum.inl x:ao)∈(ks1.take i).map λy=>y.1) i ksf)/\∃ v4 v5,σ=[some (.ref p),some (.ref b),some (.ref c),some (.ref pf),v4,v5]) ⟨λc u _ e=>e,⟨[],pf2,.nil,(λy hy=>nomatch hy),(λx g a=>nomatch a),(λx _=>rfl),Nat.zero_le _⟩,_,_,rfl⟩ (λi σ H' _ z=>z.1 _ _ npd.symm f2) ?_ ?_
 ·rintro i key v pt σ H3 H4 hkv ⟨b3,⟨ksf,f3,fn⟩,v4,v5,rfl⟩ g4
  obtain⟨x,hx⟩:=a3.int _ (List.mem_of_getElem? hkv)
  have hx:key=.inl x:=hx
  subst hx
  have hv:=jD a3.nd hkv
  have inP:kb++[x]∈PS:=Classical.byContradiction λz=>by rw[a3.no x z]at hv; cases hv
  obtain⟨q1,y1,y2⟩:=a3.yes x inP
  rw[hv]at y1
  cases y1
  have hi:i < ks1.length:=(List.getElem?_eq_some_iff.mp hkv).1
  have b4:fJ pf H2 H4:=λc u n e=>g4.sm _ _ (b3 c u n e)
  obtain⟨xs2,ep2,dh2,_⟩:=dq2.ex
  have npf : ∀ q xs,H2 q=some (.tup xs)->q≠pf:=λq xs z=>aw z pf2 (by intro z; cases z)
  have tu4 : ∀ q xs,H1 q=some (.tup xs)->H4 q=some (.tup xs):=λq xs z=>b4 _ _ (npf _ _ (tu2 _ _ z)) (tu2 _ _ z)
  have dq4:DQ H4 p kvs:=by
   obtain⟨⟨xs,ep,h1,h2⟩,kk,n,l⟩:=dq2
   exact⟨⟨xs,ep,b4 _ _ (aw h1 pf2 (by intro z; cases z)) h1,h2⟩,λx hx=>b4 _ _ (npf _ _ (kk x hx)) (kk x hx),n,l⟩
  have npd2:pf≠d2:=λz=>by
   obtain⟨d0,k0,z1,z2,_⟩:=st.val e2 he2
   rw[e22]at z1; cases z1
   have:=g1.nw; rw[z,z2]at this; cases this
  have d24:H4 d2=some (.dK ks2):=b4 _ _ npd2.symm (o2 _ _ nd b2)
  have take : ∀ z:Int,(Sum.inl z:ao)∈((ks1.take (i+1)).map λy=>y.1) ↔ ((Sum.inl z:ao)∈(ks1.take i).map λy=>y.1)\/z=x:=λz=>by
   rw[List.take_add_one,hkv,List.map_append,List.mem_append]
   constructor
   ·rintro (h | h)
    ·exact .inl h
    ·exact .inr (Sum.inl.inj (List.mem_singleton.mp h))
   ·rintro (h | h)
    ·exact .inl h
    ·exact .inr (by rw[h]; exact List.mem_singleton.mpr rfl)
  have xnew:(Sum.inl x:ao)∉(ks1.take i).map λy=>y.1:=λz=>by
   obtain⟨j,hj⟩:=List.getElem?_of_mem z
   have jl:=(List.getElem?_eq_some_iff.mp hj).1
   rw[List.length_map,List.length_take]at jl
   rw[List.getElem?_map,List.getElem?_take_of_lt (by omega),<- List.getElem?_map]at hj
   have h2:(ks1.map λy=>y.1)[i]? = some (Sum.inl x):=by rw[List.getElem?_map,hkv]; rfl
   have:=(List.getElem?_inj (by rw[List.length_map]; omega) a3.nd).mp (hj.trans h2.symm)
   omega
  refine⟨pt,_,rfl,.of g4.at_,rfl,?_⟩
  refine⟨_,_,rfl,_,_,rfl,rfl,?_⟩
  refine⟨p,c,kvs,kc,.ref d2,rfl,rfl,dq4,tu4 _ _ (g1.sm _ _ hc),hv2,?_⟩
  refine⟨d2,_,rfl,cC.k (k:=.inl x) d24,?_⟩
  have fn4:=fn.mono λq xs z=>g4.sm _ _ z
  have hc4:=tu4 _ _ (g1.sm _ _ hc)
  by_cases inC:kc++[x]∈PS
  ·obtain⟨q2,z1,z2⟩:=b3'.yes x inC
   refine aF (λ_=>?_) (λz=>absurd (show (aR ks2 (.inl x)).isSome=true by rw[z1]; rfl) z)
   refine⟨p,c,kvs,kc,.ref d2,rfl,rfl,dq4,hc4,hv2,?_⟩
   refine⟨d2,_,rfl,by have:=cC.k (k:=.inl x) d24; rw[z1]at this; exact this,?_⟩
   refine jU (by rfl) ?_
   refine v9 (tu4 _ _ z2) (tu4 _ _ y2) ?_
   refine aF (λz=>?_) (λz=>?_)
   ·have ne':bh rows (kc++[x])≠bh rows (kb++[x]):=λe=>by
     have z:(!decide (bh rows (kc++[x])=bh rows (kb++[x])))=true:=z
     rw[decide_eq_true e]at z; cases z
    have hF:cM rows PS kb kc x=some (bh rows (kb++[x]),bh rows (kc++[x])):=if_pos ⟨inP,inC,ne'⟩
    refine⟨p,c,kvs,kc,.ref d2,rfl,rfl,dq4,hc4,hv2,?_⟩
    refine⟨d2,_,rfl,by have:=cC.k (k:=.inl x) d24; rw[z1]at this; exact this,?_⟩
    refine⟨sz rfl,λp6 H6 g6=>?_⟩
    refine⟨pf,_,rfl,eA.k (k:=.inl x) (g6.sm _ _ (g4.sm _ _ f3)) (dP (by have:=fn.len; have:=a3.len; omega)),?_⟩
    have f6:=g6.sm _ _ (g4.sm _ _ f3)
    refine⟨λc u n e=>by rw[ak n]; exact g6.sm _ _ (b4 c u n e),⟨_,aN,?_⟩,_,_,rfl⟩
    refine ((fn4.mono λq xs z=>g6.sm _ _ z).put take hF ⟨q1,q2,g6.at_,g6.sm _ _ (tu4 _ _ y2),g6.sm _ _ (tu4 _ _ z2)⟩).mono λq xs z=>?_
    rw[ak (aw z f6 (by intro z; cases z))]; exact z
   ·have e:bh rows (kc++[x])=bh rows (kb++[x]):=Classical.byContradiction λe=>z (by show (!decide (bh rows (kc++[x])=bh rows (kb++[x])))=true; rw[decide_eq_false e]; rfl)
    exact⟨b4,⟨ksf,g4.sm _ _ f3,fn4.skip take (if_neg λy=>y.2.2 e)⟩,_,_,rfl⟩
  ·have z1:=b3'.no x inC
   refine aF (λz=>absurd (show (aR ks2 (.inl x)).isSome=true from z) (by rw[z1]; decide)) (λ_=>?_)
   refine Dh ?_
   exact⟨b4,⟨ksf,g4.sm _ _ f3,fn4.skip take (if_neg λy=>inC y.2.1)⟩,_,_,rfl⟩
 ·rintro σ H3 ⟨b3,⟨ksf,f3,fn⟩,v4,v5,rfl⟩
  refine⟨⟨ob,b3 _ _ npd.symm f2⟩,?_⟩
  rw[List.take_length]at fn
  have nn:pf≠d1:=npd
  refine k pf ksf _ (λc u e=>?_) g1.nw (by rw[ak nn]; exact f3) ?_
  ·by_cases c1:c=d1
   ·subst c1
    have:=g1.sm _ _ e
    rw[a2]at this
    rw[aN,<- this]
   ·rw[ak c1]
    exact b3 _ _ (λz=>by rw[z,g1.nw]at e; cases e) (o2 _ _ c1 (g1.sm _ _ e))
  ·refine (show cJ H3 (cM rows PS kb kc) (λ_=>True) 390 ksf from ⟨fn.nd,fn.int,λx g _ hg=>?_,λx hx=>fn.no x λ_=>hx trivial,by have:=fn.len; have:=a3.len; omega⟩).mono λq xs z=>by
    rw[ak (aw z (b3 _ _ npd.symm f2) (by intro z; cases z))]; exact z
   refine fn.yes x g ?_ hg
   unfold cM at hg
   split at hg
   ·rename_i z
    obtain⟨q,hq,_⟩:=a3.yes x z.1
    by_cases c1:(Sum.inl x:ao)∈ks1.map λy=>y.1
    ·exact c1
    ·rw[mR c1]at hq; cases hq
   ·cases hg
structure Gr (H:Hp) (a:Addr) (kvs:List (ab × Addr × V)) (F:ab->Int->Option ab) (N:ab->Prop):Prop where
 dp:DP H a kvs
 key : ∀ k,k∈kvs.map (λe=>e.1) ↔ N k
 val : ∀ e∈kvs,∃ d ks,e.2.2=.ref d/\H d=some (.dK ks)/\cJ H (F e.1) (λ_=>True) 390 ks
theorem Gr.same{H H':Hp}{a:Addr}{kvs:List (ab × Addr × V)}{F:ab->Int->Option ab}{N:ab->Prop}(h:Gr H a kvs F N)(s:ag H H'):Gr H' a kvs F N :=
 ⟨h.dp.same s,h.key,λe he=>let ⟨d,ks,a,b,c⟩:=h.val e he; ⟨d,ks,a,s _ _ b,c.mono λq xs z=>s _ _ z⟩⟩
theorem Gr.nE{H:Hp}{a:Addr}{kvs:List (ab × Addr × V)}{F:ab->Int->Option ab}{N N':ab->Prop}(h:Gr H a kvs F N)(e : ∀ k,N k ↔ N' k):Gr H a kvs F N':=⟨h.dp,λk=>(h.key k).trans (e k),h.val⟩
theorem jF{kvs:List (ab × Addr × V)}{b:ab}(h:b∉kvs.map λe=>e.1):aB kvs b=none:=by
 unfold aB
 rw[Option.map_eq_none_iff,List.find?_eq_none]
 intro x hx z
 exact h (List.mem_map.mpr ⟨x,hx,of_decide_eq_true z⟩)
theorem fN{kvs:List (ab × Addr × V)}{b:ab}{v:V}(h:aB kvs b=some v) : ∃ e∈kvs,e.1=b/\e.2.2=v:=by
 unfold aB at h
 obtain⟨e,he,rfl⟩:=Option.map_eq_some_iff.mp h
 exact⟨e,List.mem_of_find?_eq_some he,by have z:=List.find?_some he; exact of_decide_eq_true z,rfl⟩
theorem ff{kvs:List (ab × Addr × V)}{b:ab}(h:b∈kvs.map λe=>e.1) : ∃ v,aB kvs b=some v:=by
 cases e:aB kvs b with
 | some v=>exact⟨v,rfl⟩
 | none =>
  unfold aB at e
  rw[Option.map_eq_none_iff,List.find?_eq_none]at e
  obtain⟨x,hx,rfl⟩:=List.mem_map.mp h
  exact absurd (decide_eq_true rfl) (e x hx)
theorem jR{kvs:List (ab × Addr × V)}{b:ab}{q:Addr}{v:V}(h:aB kvs b=none):cg kvs b q v=kvs++[(b,q,v)]:=by
 unfold cg
 rw[h]
 rfl
theorem Gr.put{H H':Hp}{a q d:Addr}{kvs:List (ab × Addr × V)}{F:ab->Int->Option ab}{N:ab->Prop}{k:ab}{ks:List (ao × V)}(h:Gr H a kvs F N)(nk : ¬ N k)(hd:H d=some (.dK ks))(hf:cJ H (F k) (λ_=>True) 390 ks)
 (dp:DP H' a (cg kvs k q (.ref d))) (so : ∀ c,c≠a->H' c=H c):Gr H' a (kvs++[(k,q,.ref d)]) F (λx=>N x\/x=k):=by
 obtain⟨xs,ep,h1,_⟩:=h.dp.ex
 have tu : ∀ q xs,H q=some (.tup xs)->H' q=some (.tup xs):=λq xs z=>by rw[so q (aw z h1 (by intro z; cases z))]; exact z
 have nv:aB kvs k=none:=jF λz=>nk ((h.key k).mp z)
 rw[jR nv]at dp
 refine⟨dp,λx=>?_,λe he=>?_⟩
 ·rw[List.map_append,List.mem_append,h.key]
  simp
 ·rcases List.mem_append.mp he with he | he
  ·obtain⟨d1,ks1,a1,a2,a3⟩:=h.val e he
   exact⟨d1,ks1,a1,by rw[so d1 (aw a2 h1 (by intro z; cases z))]; exact a2,a3.mono tu⟩
  ·cases List.mem_singleton.mp he
   exact⟨d,ks,rfl,by rw[so d (aw hd h1 (by intro z; cases z))]; exact hd,hf.mono tu⟩
theorem lD{α:Type}{ns:List α}{i:Nat}{x:α}(nd:ns.Nodup)(h:ns[i]? = some x):x∉ns.take i:=λz=>by
 obtain⟨j,hj⟩:=List.getElem?_of_mem z
 have jl:=(List.getElem?_eq_some_iff.mp hj).1
 rw[List.length_take]at jl
 rw[List.getElem?_take_of_lt (by omega)]at hj
 have:=(List.getElem?_inj (by omega) nd).mp (hj.trans h.symm)
 omega
theorem eO{α:Type}{ns:List α}{i:Nat}{x y:α}(h:ns[i]? = some x):y∈ns.take (i+1) ↔ y∈ns.take i\/y=x:=by
 rw[List.take_add_one,h,List.mem_append]
 exact or_congr Iff.rfl List.mem_singleton
def db(PS:List (List Int)):ab->Prop:=λk=>cD PS k.1/\cD PS k.2/\k.1≠k.2
def y6:Sp:=λvs H Q _=>∃ (p:Addr) (rows PS:List (List Int)) (kvs:List (aG × Addr × V)),vs=[.ref p]/\bS H p rows PS (cD PS) kvs/\PS.length<=390/\kvs.length<=400 /\
 ∀ a kvA H',ag H H'->H a=none->Gr H' a kvA (λk=>cM rows PS k.1 k.2) (db PS)->kvA.length<=kvs.length*kvs.length->Q (.ref a) H'
theorem DX (T:Txt K mg t):bj P w K mg base "apart_of" 2 t.re t.pM ["steps"] y6:=by
 refine⟨T.EU,T.xE.kp,T.G1,T.xE.okQ kQ (λvs H Q E h=>by obtain⟨p,rows,PS,kvs,rfl,_⟩:=h; rfl) λcdv A outer s H vs Q E hr h=>?_⟩
 obtain⟨p,rows,PS,kvs,rfl,st,lP,lk,k⟩:=h
 have hu:=hr.units
 refine⟨_,(ap (aE (i:=1) kQ.nd rfl (.inl rfl) jM)
  (ap (bN PassesOwn.never rfl (tQ (aa 0)) (aD (i:=2) kQ.nd rfl (.inl rfl)) (au (bN PassesOwn.never rfl (tQ (aa 0)) (aD (i:=3) kQ.nd rfl (.inl rfl)) (au (bM (bw (jh (K:=K) rfl hu) (aa 2) (aa 3) (bc _)) (au (jO hu (aa 1) (bW (af (aa 2) (af (aa 3) ai))) (aX (DY T) hr (af (aa 0) (af (aa 2) (af (aa 3) ai)))))) bL)))))
  (au (aJ (aa 1))))),?_⟩
 refine λpa H1 g1=>?_
 obtain⟨ns,ens⟩ : ∃ ns,ns=kvs.map λe=>e.1:=⟨_,rfl⟩
 have nsN:ns.Nodup:=by rw[ens]; exact st.dq.nd
 have nsk : ∀ b,b∈ns ↔ cD PS b:=λb=>by rw[ens]; exact st.key b
 have lns:ns.length=kvs.length:=by rw[ens,List.length_map]
 obtain⟨xs0,ep0,dh,_⟩:=st.dq.ex
 have st1:=st.same g1.sm
 refine⟨p,kvs,rfl,st1.dq,λo ho=>?_⟩
 rw[g1.sm _ _ dh]at ho
 cases ho
 have G0:Gr H1 pa [] (λk=>cM rows PS k.1 k.2) (λk=>k.1≠k.2/\k.1∈ns.take 0/\k.2∈ns):=⟨DP.new g1,λk=>⟨(λz=>nomatch z),(λz=>nomatch z.2.1)⟩,λe he=>nomatch he⟩
 refine vW (λi σ H'=>ag H H'/\(∃ kvA,Gr H' pa kvA (λk=>cM rows PS k.1 k.2) (λk=>k.1≠k.2/\k.1∈ns.take i/\k.2∈ns)/\kvA.length<=kvs.length*i)/\∃ v2 v3,σ=[some (.ref p),some (.ref pa),v2,v3]) ⟨g1.sm,⟨[],G0,Nat.zero_le _⟩,_,_,rfl⟩ (λi σ H' _ z=>z.1 _ _ dh) ?_ ?_
 ·rintro i b qb vb σ H2 hi ⟨s2,⟨kvA,gr,lA⟩,v2,v3,rfl⟩
  have hbi:ns[i]? = some b:=by rw[ens,List.getElem?_map,hi]; rfl
  have bm:b∈ns:=List.mem_of_getElem? hbi
  have il:i < kvs.length:=(List.getElem?_eq_some_iff.mp hi).1
  have kb0:H qb=some (.tup (b.map V.int)):=st.dq.key _ (List.mem_of_getElem? hi)
  refine⟨p,kvs,rfl,(st.same s2).dq,λo ho=>?_⟩
  rw[s2 _ _ dh]at ho
  cases ho
  refine vW (λj σ H'=>ag H H'/\(∃ kvA,Gr H' pa kvA (λk=>cM rows PS k.1 k.2) (λk=>k.1≠k.2/\(k.1∈ns.take i/\k.2∈ns\/k.1=b/\k.2∈ns.take j))/\kvA.length<=kvs.length*i+j)/\∃ v3,σ=[some (.ref p),some (.ref pa),some (.ref qb),v3]) ⟨s2,⟨kvA,gr.nE λx=>⟨λz=>⟨z.1,.inl z.2⟩,λz=>⟨z.1,z.2.elim id λy=>nomatch y.2⟩⟩,lA⟩,_,rfl⟩ (λi σ H' _ z=>z.1 _ _ dh) ?_ ?_
  ·rintro j c qc vc σ H3 hj ⟨s3,⟨kvB,gr3,lB⟩,v3,rfl⟩
   have hcj:ns[j]? = some c:=by rw[ens,List.getElem?_map,hj]; rfl
   have cm:c∈ns:=List.mem_of_getElem? hcj
   have jl:j < kvs.length:=(List.getElem?_eq_some_iff.mp hj).1
   have kc0:H qc=some (.tup (c.map V.int)):=st.dq.key _ (List.mem_of_getElem? hj)
   dsimp only [bF]
   unfold mY mB fj
   refine jU (v:=.ref qb) rfl ?_
   refine jU (v:=.ref qc) rfl ?_
   refine v9 (s3 _ _ kb0) (s3 _ _ kc0) ?_
   refine aF (λz=>?_) (λz=>?_)
   ·have ne:b≠c:=λe=>by
     have z:(!decide (b=c))=true:=z
     rw[decide_eq_true e]at z; cases z
    refine⟨p,qb,qc,rows,PS,cD PS,kvs,b,c,rfl,st.same s3,lP,s3 _ _ kb0,s3 _ _ kc0,(nsk b).mp bm,(nsk c).mp cm,ne,λd ks H4 s4 n4 h4 fd=>?_⟩
    refine⟨sz rfl,λq5 H5 g5=>?_⟩
    have s35:=s4.trans g5.sm
    have gr5:=gr3.same s35
    refine⟨pa,q5,kvB,(b,c),rfl,rfl,gr5.dp,⟨qb,qc,g5.at_,s35 _ _ (s3 _ _ kb0),s35 _ _ (s3 _ _ kc0)⟩,?_,λH6 d6 so=>?_⟩
    ·have:kvs.length*i<=400*400:=Nat.mul_le_mul lk (by omega)
     rw[sizeLine_eq]
     omega
    ·refine⟨λc0 u e=>?_,⟨_,(gr5.put (k:=(b,c)) (λz=>?_) (g5.sm _ _ h4) (fd.mono λq xs z=>g5.sm _ _ z) d6 so).nE λx=>?_,by rw[List.length_append]; simp; omega⟩,_,rfl⟩
     ·rw[so c0 (λz=>by rw[z,g1.nw]at e; cases e)]
      exact s35 _ _ (s3 _ _ e)
     ·rcases z.2 with z | z
      ·exact lD nsN hbi z.1
      ·exact lD nsN hcj z.2
     ·rw[eO hcj]
      constructor
      ·rintro (z | rfl)
       ·exact⟨z.1,z.2.imp id λy=>⟨y.1,.inl y.2⟩⟩
       ·exact⟨ne,.inr ⟨rfl,.inr rfl⟩⟩
      ·rintro⟨z1,z | ⟨z2,z | z⟩⟩
       ·exact .inl ⟨z1,.inl z⟩
       ·exact .inl ⟨z1,.inr ⟨z2,z⟩⟩
       ·exact .inr (Prod.ext z2 z)
   ·have e:b=c:=Classical.byContradiction λe=>z (by show (!decide (b=c))=true; rw[decide_eq_false e]; rfl)
    refine⟨s3,⟨kvB,gr3.nE λx=>?_,by omega⟩,_,rfl⟩
    rw[eO hcj]
    constructor
    ·exact λz=>⟨z.1,z.2.imp id λy=>⟨y.1,.inl y.2⟩⟩
    ·rintro⟨z1,z | ⟨z2,z | z⟩⟩
     ·exact⟨z1,.inl z⟩
     ·exact⟨z1,.inr ⟨z2,z⟩⟩
     ·exact absurd (z2.trans (e.trans z.symm)) z1
  ·rintro σ H3 ⟨s3,⟨kvB,gr3,lB⟩,v3,rfl⟩
   refine⟨s3,⟨kvB,gr3.nE λx=>?_,by rw[Nat.mul_succ]; exact lB⟩,_,_,rfl⟩
   rw[<- lns,List.take_length,eO hbi]
   constructor
   ·rintro⟨z1,z | z⟩
    ·exact⟨z1,.inl z.1,z.2⟩
    ·exact⟨z1,.inr z.1,z.2⟩
   ·rintro⟨z1,z | z,z2⟩
    ·exact⟨z1,.inl ⟨z,z2⟩⟩
    ·exact⟨z1,.inr ⟨z,z2⟩⟩
 ·rintro σ H2 ⟨s2,⟨kvA,gr,lA⟩,v2,v3,rfl⟩
  refine k pa kvA H2 s2 g1.nw (gr.nE λx=>?_) lA
  rw[<- lns,List.take_length]
  show _ ↔ cD PS x.1/\cD PS x.2/\x.1≠x.2
  rw[<- nsk,<- nsk]
  exact⟨λz=>⟨z.2.1,z.2.2,z.1⟩,λz=>⟨z.2.2,z.1,z.2.1⟩⟩
def ba(F:ab->Int->Option ab):ab->List Int->Option ab
 | k,[]=>some k
 | k,x :: r=>(F k x).bind λg=>ba F g r
theorem t5(F:ab->Int->Option ab)(k:ab)(r:List Int)(x:Int):ba F k (r++[x])=(ba F k r).bind λg=>F g x:=by
 induction r generalizing k with
 | nil =>
  show (F k x).bind (λg=>some g)=F k x
  cases F k x <;> rfl
 | cons y r ih =>
  show (F k y).bind (λg=>ba F g (r++[x]))=((F k y).bind λg=>ba F g r).bind λg=>F g x
  cases F k y with
  | none=>rfl
  | some g=>exact ih g
def w6(F:ab->Int->Option ab)(k:ab)(n:Nat):Prop:=∀ r g,ba F k r=some g->r.length<=n
def bH(H:Hp)(kvs:List (ab × Addr × V))(k:ab)(q:Addr)(n:Nat)(bv:V):Prop:=aB kvs k=some (.ref q)/\H q=some (.tup [.int (n:Int),bv])
structure gq (H:Hp) (a:Addr) (kvs:List (ab × Addr × V)) (F:ab->Int->Option ab) (N:ab->Prop):Prop where
 dp:DP H a kvs
 sub : ∀ k,k∈kvs.map (λe=>e.1)->N k
 val : ∀ k,k∈kvs.map (λe=>e.1)->∃ q n bv,bH H kvs k q n bv/\(n<=160000/\w6 F k n)/\(n=0\/∃ x g q' bv',bv=.int x/\F k x=some g/\bH H kvs g q' (n - 1) bv')
theorem bH.key{H:Hp}{kvs:List (ab × Addr × V)}{k:ab}{q:Addr}{n:Nat}{bv:V}(h:bH H kvs k q n bv):k∈kvs.map λe=>e.1:=by
 obtain⟨e,he,e1,_⟩:=fN h.1
 exact List.mem_map.mpr ⟨e,he,e1⟩
theorem bH.same{H H':Hp}{kvs:List (ab × Addr × V)}{k:ab}{q:Addr}{n:Nat}{bv:V}(h:bH H kvs k q n bv)(s : ∀ q xs,H q=some (.tup xs)->H' q=some (.tup xs)):bH H' kvs k q n bv:=⟨h.1,s _ _ h.2⟩
theorem gq.same{H H':Hp}{a:Addr}{kvs:List (ab × Addr × V)}{F:ab->Int->Option ab}{N:ab->Prop}(h:gq H a kvs F N)(s:ag H H'):gq H' a kvs F N :=
 ⟨h.dp.same s,h.sub,λk hk=>by
  obtain⟨q,n,bv,a,l,b⟩:=h.val k hk
  refine⟨q,n,bv,a.same λq xs z=>s _ _ z,l,b.imp id ?_⟩
  rintro⟨x,g,q',bv',b1,b2,b3⟩
  exact⟨x,g,q',bv',b1,b2,b3.same λq xs z=>s _ _ z⟩⟩
theorem bH.one{H:Hp}{kvs:List (ab × Addr × V)}{k:ab}{q q':Addr}{n n':Nat}{bv bv':V}(h:bH H kvs k q n bv)(h':bH H kvs k q' n' bv'):q=q'/\n=n'/\bv=bv':=by
 obtain⟨h1,h2⟩:=h
 obtain⟨g1,g2⟩:=h'
 rw[h1]at g1; cases g1
 rw[h2]at g2
 injection g2 with e
 injection e with e
 injection e with e1 e2
 injection e2 with e2 _
 injection e1 with e1
 exact⟨rfl,by omega,e2⟩
def yS:Sp:=λvs H Q _=>∃ (a fa q:Addr) (kvA kvF:List (ab × Addr × V)) (F:ab->Int->Option ab) (N:ab->Prop) (k:ab) (qv:Addr) (n:Nat) (bv:V),vs=[.ref a,.ref fa,.ref q]/\Gr H a kvA F N/\gq H fa kvF F N/\aM H k q/\bH H kvF k qv n bv /\
 ∀ l r H',ag H H'->H l=none->H' l=some (.lst (r.map V.int))->r.length=n->(∃ g,ba F k r=some g)->Q (.ref l) H'
theorem DH (T:Txt K mg t):bj P w K mg base "row_apart" 1 t.qL t.pk ["apart", "far", "pair"] yS:=by
 refine⟨T.Ew,T.xo.kp,T.GK,T.xo.okQ kP (λvs H Q E h=>by obtain⟨a,fa,q,kvA,kvF,F,N,k,qv,n,bv,rfl,_⟩:=h; rfl) λcdv A outer s H vs Q E hr h=>?_⟩
 obtain⟨a,fa,q,kvA,kvF,F,N,k,qv,n,bv,rfl,gr,fr,kq,fv,kk⟩:=h
 have hu:=hr.units
 have nl:n<=160000:=by
  obtain⟨q0,n0,bv0,fv0,l0,_⟩:=fr.val k fv.key
  obtain⟨_,rfl,_⟩:=fv0.one fv
  exact l0.1
 refine⟨_,(ap (aE (i:=3) kP.nd rfl (.inl rfl) (cf ai))
  (ap (nJ PassesOwn.never (bw oJ (aK (aL (K:=K) rfl) (dA hu (aa 1) (aa 2)) av (λ_ _=>rfl)) av (bc _)) (ap (aE (i:=4) kP.nd rfl (.inl rfl) (aK (aL (K:=K) rfl) (dA hu (aa 1) (aa 2)) av (λ_ _=>rfl)))
  (ap (dQ (fu (K:=K) rfl PySem.F.plainAttrs_list PySem.F.slot_list_append PySem.F.type_list_append fV (aa 3) (af (aa 4) ai)))
  (au (aE (i:=2) kP.nd rfl (.inl rfl) (li hu (dA hu (aa 0) (aa 2)) (aa 4)))))))
  (au (aJ (aa 3))))),?_⟩
 refine⟨sz rfl,λl H1 g1=>?_⟩
 have sl : ∀ {H':Hp},fJ l H1 H'->ag H H':=λ{H'} b c u e=>b c u (λz=>by rw[z,g1.nw]at e; cases e) (g1.sm _ _ e)
 refine⟨λm σ H'=>fJ l H1 H'/\∃ q' k' qv' bv' r v4,σ=[some (.ref a),some (.ref fa),some (.ref q'),some (.ref l),v4]/\aM H' k' q'/\bH H' kvF k' qv' m bv'/\H' l=some (.lst (r.map V.int))/\r.length+m=n/\ba F k r=some k',⟨n,λc u _ e=>e,q,k,qv,bv,[],_,rfl,kq.same g1.sm,fv.same λq xs z=>g1.sm _ _ z,g1.at_,by simp,rfl⟩,?_⟩
 rintro m σ H2 ⟨b2,q',k',qv',bv',r,v4,rfl,kq',fv',hl,ln,hp⟩
 have s2:=sl b2
 have fr2:=fr.same s2
 have gr2:=gr.same s2
 refine⟨fa,q',kvF,k',.ref qv',rfl,rfl,fr2.dp,kq',fv'.1,?_⟩
 refine⟨_,.int (m:Int),.inr (.of fv'.2),rfl,?_⟩
 refine aF (λz=>?_) (λz=>?_)
 ·have mp:0 < m:=by have:=of_decide_eq_true z; omega
  obtain⟨q0,n0,bv0,fv0,l0,c0⟩:=fr2.val k' fv'.key
  obtain⟨rfl,rfl,rfl⟩:=fv0.one fv'
  rcases c0 with c0 | ⟨x,g,q1,bv1,rfl,c2,c3⟩
  ·omega
  obtain⟨v,hv⟩:=ff ((gr2.key k').mpr (fr2.sub k' fv'.key))
  obtain⟨e0,he0,e01,e02⟩:=fN hv
  obtain⟨d,ks,a1,a2,a3⟩:=gr2.val e0 he0
  rw[e02]at a1
  subst a1
  rw[e01]at a3
  obtain⟨qg,y1,y2⟩:=a3.yes x g trivial c2
  refine⟨_,λσ' H' h=>⟨n0 - 1,by omega,h⟩,?_⟩
  refine⟨fa,q',kvF,k',.ref q0,rfl,rfl,fr2.dp,kq',fv'.1,?_⟩
  refine⟨_,.int x,.inr (.of fv'.2),rfl,?_⟩
  refine⟨.inl ⟨rfl,_,.of hl⟩,_,hl,?_,?_⟩
  ·rw[List.length_map,sizeLine_eq]
   omega
  obtain⟨H3,e3⟩ : ∃ H3,H3=upd H2 l (.lst (r.map V.int++[.int x])):=⟨_,rfl⟩
  have l3:H3 l=some (.lst ((r++[x]).map V.int)):=by rw[e3,aN,List.map_append]; rfl
  have b3:fJ l H1 H3:=λc u n e=>by rw[e3,ak n]; exact b2 c u n e
  have tu3 : ∀ q xs,H2 q=some (.tup xs)->H3 q=some (.tup xs):=λq xs z=>by rw[e3,ak (aw z hl (by intro z; cases z))]; exact z
  rw[<- e3]
  have s3:=sl b3
  have gr3:=gr.same s3
  have d3:H3 d=some (.dK ks):=by rw[e3,ak (aw a2 hl (by intro z; cases z))]; exact a2
  have ky3 : ∀ {k:ab} {q:Addr},aM H2 k q->aM H3 k q:=λ{k q} h=>by
   obtain⟨c,b,h1,h2,h3⟩:=h
   exact⟨c,b,tu3 _ _ h1,tu3 _ _ h2,tu3 _ _ h3⟩
  clear e3
  refine⟨a,q',kvA,k',.ref d,rfl,rfl,gr3.dp,ky3 kq',hv,?_⟩
  refine⟨d,_,rfl,by have:=cC.k (k:=.inl x) d3; rw[y1]at this; exact this,?_⟩
  refine⟨b3,qg,g,q1,bv1,r++[x],_,rfl,ky3 y2,c3.same tu3,l3,by rw[List.length_append]; simp; omega,?_⟩
  rw[t5,hp]
  exact c2
 ·have m0:m=0:=by
   cases m with
   | zero=>rfl
   | succ m=>exact absurd (decide_eq_true (by omega)) z
  exact kk l r H2 s2 g1.nw hl (by omega) ⟨k',hp⟩
structure ii (F:ab->Int->Option ab) (N:ab->Prop) (k:ab) (r:List Int) (kvM:List (ab × Addr × V)):Prop where
 len:kvM.length=r.length
 at_ : ∀ (i:Nat) e,kvM[i]? = some e->e.2.2=.int (i:Int)/\ba F k (r.take i)=some e.1/\N e.1
theorem nV(F:ab->Int->Option ab)(k:ab)(r s:List Int):ba F k (r++s)=(ba F k r).bind λg=>ba F g s:=by
 induction r generalizing k with
 | nil=>rfl
 | cons y r ih =>
  show (F k y).bind (λg=>ba F g (r++s))=((F k y).bind λg=>ba F g r).bind λg=>ba F g s
  cases F k y with
  | none=>rfl
  | some g=>exact ih g
theorem wg{H H':Hp}{a d:Addr}{kvs:List (ab × Addr × V)}{ks:List (ao × V)}(h:DP H a kvs)(hd:H d=some (.dK ks))(s : ∀ c,c≠d->H' c=H c):DP H' a kvs:=by
 obtain⟨⟨xs,ep,h1,h2⟩,k,n,l⟩:=h
 have tu : ∀ q xs,H q=some (.tup xs)->H' q=some (.tup xs):=λq xs z=>by rw[s q (aw z hd (by intro z; cases z))]; exact z
 refine⟨⟨xs,ep,?_,h2⟩,λx hx=>?_,n,l⟩
 ·rw[s a (aw h1 hd (by intro z; cases z))]; exact h1
 ·obtain⟨c,b,z1,z2,z3⟩:=k x hx
  exact⟨c,b,tu _ _ z1,tu _ _ z2,tu _ _ z3⟩
theorem jm{H H':Hp}{a d:Addr}{kvs:List (ab × Addr × V)}{ys:List V}(h:DP H a kvs)(hd:H d=some (.lst ys))(s : ∀ c,c≠d->H' c=H c):DP H' a kvs:=by
 obtain⟨⟨xs,ep,h1,h2⟩,k,n,l⟩:=h
 have tu : ∀ q xs,H q=some (.tup xs)->H' q=some (.tup xs):=λq xs z=>by rw[s q (aw z hd (by intro z; cases z))]; exact z
 refine⟨⟨xs,ep,?_,h2⟩,λx hx=>?_,n,l⟩
 ·rw[s a (aw h1 hd (by intro z; cases z))]; exact h1
 ·obtain⟨c,b,z1,z2,z3⟩:=k x hx
  exact⟨c,b,tu _ _ z1,tu _ _ z2,tu _ _ z3⟩
theorem wv(ns:List Int)(i:Nat):cy (ns.map V.int) (some (i:Int)) none=(ns.drop i).map V.int:=by
 rw[ia,wy]
def yI:Sp:=λvs H Q _=>∃ (a fa q:Addr) (kvA kvF:List (ab × Addr × V)) (F:ab->Int->Option ab) (N:ab->Prop) (k:ab),vs=[.ref a,.ref fa,.ref q]/\Gr H a kvA F N/\kvA.length<=160000/\DP H fa kvF/\(∀ k x g,N k->F k x=some g->N g) /\
 (∀ k,N k->k∉kvF.map (λe=>e.1)->∃ x g,F k x=some g/\g∉kvF.map λe=>e.1)/\aM H k q/\N k/\k∉kvF.map (λe=>e.1) /\
 ∀ p q' l k' r H',ag H H'->H' p=some (.tup [.ref q',.ref l])->H l=none->aM H' k' q'->N k'->H' l=some (.lst (r.map V.int))->r≠[]->r.length<=kvA.length->ba F k' r=some k'->Q (.ref p) H'
theorem DB (T:Txt K mg t):bj P w K mg base "trip_from" 1 t.qG t.o6 ["apart", "far", "pair"] yI:=by
 refine⟨T.Em,T.xi.kp,T.GE,T.xi.okQ jK (λvs H Q E h=>by obtain⟨a,fa,q,kvA,kvF,F,N,k,rfl,_⟩:=h; rfl) λcdv A outer s H vs Q E hr h=>?_⟩
 obtain⟨a,fa,q,kvA,kvF,F,N,k,rfl,gr,lA,df,cl,out,kq,nk,kf,kk⟩:=h
 have hu:=hr.units
 refine⟨_,(ap (aE (i:=3) jK.nd rfl (.inl rfl) (cf ai))
  (ap (aE (i:=4) jK.nd rfl (.inl rfl) jM)
  (ap (nJ PassesOwn.never (bw (oH hu) (aa 2) (aa 4) (by with_unfolding_all rfl)) (ap (jO hu (aa 4) (aa 2) (be (bR (K:=K) rfl) T.n_len PySem.boot_len (af (aa 3) ai)))
  (ap (nH (nK (i:=5) jK.nd rfl (.inl rfl) rfl (bZ.of (fns:=(am gJ).names) (N:=["apart", "far", "pair", "row", "met", "onward"]) (Nc:=["byte", "goal", "far"]) (nv:=2) (caps:=[1]) rfl rfl (by decide +kernel)) (kY (dA hu (aa 0) (aa 2))) (λ_ _ _ _=>(cZ (K:=K) rfl (n:=2) rfl (bq (aD (i:=0) (show List.Nodup (["byte", "goal", "far"]:List Str) by decide +kernel) rfl (Or.inl rfl) (Or.inr rfl)) (bq (aD (i:=1) (show List.Nodup (["byte", "goal", "far"]:List Str) by decide +kernel) rfl (Or.inl rfl) (Or.inr rfl)) cY)))) (λ_ _ _ _=>(kX (bw (oH hu) (aa 1) (aa 2) (by with_unfolding_all rfl)))) (λ_ _ _ _=>(aa 0))))
  (ap (dQ (fu (K:=K) rfl PySem.F.plainAttrs_list PySem.F.slot_list_append PySem.F.type_list_append fV (aa 3) (af (aK (aL (K:=K) rfl) (aa 5) av (λ_ _=>rfl)) ai)))
  (au (aE (i:=2) jK.nd rfl (.inl rfl) (li hu (dA hu (aa 0) (aa 2)) (aK (aL (K:=K) rfl) (aa 5) av (λ_ _=>rfl)))))))))
  (au (aJ (bW (af (aa 2) (af (c7 (dS (K:=K) rfl) (aa 3) (cr (dA hu (aa 4) (aa 2))) eI) ai)))))))),?_⟩
 refine⟨sz rfl,λl H1 g1=>?_⟩
 refine λpm H2 g2=>?_
 have npl:pm≠l:=λz=>by have:=g2.nw; rw[z,g1.at_]at this; cases this
 have npm:H pm=none:=by
  cases c:H pm with
  | none=>rfl
  | some u=>have:=g1.sm _ _ c; rw[g2.nw]at this; cases this
 refine⟨λm σ H'=>ag H H'/\∃ q' k' r kvM v5,σ=[some (.ref a),some (.ref fa),some (.ref q'),some (.ref l),some (.ref pm),v5]/\aM H' k' q'/\N k'/\k'∉kvF.map (λe=>e.1)/\H' l=some (.lst (r.map V.int))/\DP H' pm kvM/\ii F N k r kvM/\ba F k r=some k'/\m=kvA.length - kvM.length,⟨kvA.length,g1.sm.trans g2.sm,q,k,[],[],_,rfl,kq.same (g1.sm.trans g2.sm),nk,kf,g2.sm _ _ g1.at_,DP.new g2,⟨rfl,λi e h=>by simp at h⟩,rfl,rfl⟩,?_⟩
 rintro m σ H3 ⟨s3,q',k',r,kvM,v5,rfl,kq',nk',kf',hl,dm,vs,hp,rfl⟩
 have gr3:=gr.same s3
 have mk : ∀ k0,k0∈kvM.map (λe=>e.1)->k0∈kvA.map λe=>e.1:=λk0 h=>by
  obtain⟨e,he,rfl⟩:=List.mem_map.mp h
  obtain⟨i,hi⟩:=List.getElem?_of_mem he
  exact (gr3.key _).mpr (vs.at_ i e hi).2.2
 have lM:kvM.length<=kvA.length:=by
  have:=List.Nodup.length_le_of_subset dm.nd mk
  rwa [List.length_map,List.length_map]at this
 refine⟨q',pm,kvM,k',rfl,rfl,dm,kq',?_⟩
 refine aF (λz=>?_) (λz=>?_)
 ·have hn:aB kvM k'=none:=by
   cases c:aB kvM k' with
   | none=>rfl
   | some v =>
    have z:(!(aB kvM k').isSome)=true:=z
    rw[c]at z; cases z
  have nm:k'∉kvM.map λe=>e.1:=λh=>by
   obtain⟨v,hv⟩:=ff h
   rw[hn]at hv; cases hv
  have ka:k'∈kvA.map λe=>e.1:=(gr3.key k').mpr nk'
  have lt:kvM.length+1<=kvA.length:=by
   have:=List.Nodup.length_le_of_subset (List.nodup_cons.mpr ⟨nm,dm.nd⟩) (l₂:=kvA.map λe=>e.1) λx hx=>by
    rcases List.mem_cons.mp hx with h | h
    ·rw[h]; exact ka
    ·exact mk x h
   rwa [List.length_cons,List.length_map,List.length_map]at this
  refine⟨_,λσ' H' h=>⟨kvA.length - (kvM.length+1),by omega,h⟩,?_⟩
  refine⟨_,.inl (.of hl),?_⟩
  refine⟨pm,q',kvM,k',rfl,rfl,dm,kq',by rw[sizeLine_eq]; omega,λH4 d4 so4=>?_⟩
  rw[List.length_map,jR hn]at d4
  have st4 : ∀ {c u},c≠pm->H3 c=some u->H4 c=some u:=λ{c u} n e=>by rw[so4 c n]; exact e
  obtain⟨xsm,epm,dhm,_⟩:=dm.ex
  have tu4 : ∀ q xs,H3 q=some (.tup xs)->H4 q=some (.tup xs):=λq xs z=>st4 (aw z dhm (by intro z; cases z)) z
  have s4:ag H H4:=λc u e=>st4 (λz=>by rw[z,npm]at e; cases e) (s3 _ _ e)
  have gr4:=gr.same s4
  have df4:=df.same s4
  have ky4 : ∀ {H H':Hp} {k:ab} {q:Addr},(∀ q xs,H q=some (.tup xs)->H' q=some (.tup xs))->aM H k q->aM H' k q:=λs h=>by
   obtain⟨c,b,h1,h2,h3⟩:=h
   exact⟨c,b,s _ _ h1,s _ _ h2,s _ _ h3⟩
  have l4:H4 l=some (.lst (r.map V.int)):=st4 npl.symm hl
  obtain⟨v,hv⟩:=ff ka
  obtain⟨e0,he0,e01,e02⟩:=fN hv
  obtain⟨d,ks,a1,a2,a3⟩:=gr4.val e0 he0
  rw[e02]at a1
  subst a1
  rw[e01]at a3
  obtain⟨x1,g1',o1,o2⟩:=out k' nk' kf'
  obtain⟨qx,y1,_⟩:=a3.yes x1 g1' trivial o1
  refine⟨d,.dK ks,(λo v z=>by rw[a2]at z; cases z),?_⟩
  refine⟨a,q',kvA,k',.ref d,rfl,rfl,gr4.dp,ky4 tu4 kq',hv,?_⟩
  refine⟨d,ks,rfl,a2,λob=>?_⟩
  obtain⟨H5,e5⟩ : ∃ H5,H5=upd H4 d (.frz ob (.dK ks)):=⟨_,rfl⟩
  have f5:H5 d=some (.frz ob (.dK ks)):=by rw[e5,aN]
  have b5 : ∀ {c u},c≠d->H4 c=some u->H5 c=some u:=λ{c u} n e=>by rw[e5,ak n]; exact e
  have df5:DP H5 fa kvF:=wg df4 a2 λc n=>by rw[e5,ak n]
  have tu5 : ∀ q xs,H4 q=some (.tup xs)->H5 q=some (.tup xs):=λq xs z=>b5 (aw z a2 (by intro z; cases z)) z
  rw[<- e5]
  clear e5
  refine qh (K:=K) (λi ys H'=>ag H5 H'/\∃ bs:List Int,ys=bs.map V.int/\bs.length<=i/\(∀ x∈bs,∃ g,F k' x=some g/\g∉kvF.map λe=>e.1)/\∀ j x v,j < i->ks[j]? = some (.inl x,v)->∀ g,F k' x=some g->g∉kvF.map (λe=>e.1)->bs≠[]) ⟨ag.refl _,[],rfl,Nat.zero_le _,(λx h=>nomatch h),λj x v h=>absurd h (by omega)⟩ (λi ys H' hi z=>⟨z.1 _ _ f5,?_⟩) (ce (by have:=a3.len; omega)) (λi ky v ys H6 H7 NN hkv z s67 hN=>?_) λys H6 p7 H7 z g7=>?_
  ·obtain⟨_,bs,rfl,lb,_⟩:=z
   rw[List.length_map]; exact lb
  ·obtain⟨s6,bs,rfl,lb,al,ne⟩:=z
   obtain⟨x,hx⟩:=a3.int _ (List.mem_of_getElem? hkv)
   have hx:ky=.inl x:=hx
   subst hx
   have hvx:=jD a3.nd hkv
   obtain⟨g,hg⟩ : ∃ g,F k' x=some g:=by
    cases c:F k' x with
    | some g=>exact⟨g,rfl⟩
    | none=>rw[a3.no x λ_=>c]at hvx; cases hvx
   obtain⟨qg,w1,w2⟩:=a3.yes x g trivial hg
   rw[hvx]at w1
   cases w1
   have s57:=s6.trans s67
   refine⟨qg,fa,kvF,g,rfl,rfl,df5.same s57,ky4 (λq xs z=>s57 _ _ (tu5 _ _ z)) w2,?_⟩
   have old : ∀ j x' v',j < i+1->ks[j]? = some (.inl x',v')->j < i\/x'=x:=λj x' v' hj hk=>by
    by_cases c:j=i
    ·subst c
     rw[hkv]at hk; cases hk
     exact .inr rfl
    ·exact .inl (by omega)
   refine aF (λz=>?_) (λz=>?_)
   ·have ng:g∉kvF.map λe=>e.1:=λh=>by
     obtain⟨v,hv⟩:=ff h
     have z:(!(aB kvF g).isSome)=true:=z
     rw[hv]at z; cases z
    refine hN _ _ ⟨s57,bs++[x],by rw[List.map_append]; rfl,by rw[List.length_append]; simp; omega,λy hy=>?_,λ_ _ _ _ _ _ _ _=>by simp⟩
    rcases List.mem_append.mp hy with h | h
    ·exact al y h
    ·rw[List.mem_singleton.mp h]; exact⟨g,hg,ng⟩
   ·have ig:g∈kvF.map λe=>e.1:=Classical.byContradiction λh=>z (by show (!(aB kvF g).isSome)=true; rw[jF h]; rfl)
    refine hN _ _ ⟨s57,bs,rfl,by omega,al,λj x' v' hj hk g' hg' ng'=>?_⟩
    rcases old j x' v' hj hk with c | c
    ·exact ne j x' v' c hk g' hg' ng'
    ·rw[c,hg]at hg'; cases hg'
     exact absurd ig ng'
  ·obtain⟨s6,bs,rfl,lb,al,ne⟩:=z
   have s57:=s6.trans g7.sm
   have bne:bs≠[]:=by
    unfold aR at y1
    obtain⟨y,hy,_⟩:=Option.map_eq_some_iff.mp y1
    have ey:y.1=.inl x1:=by have z:=List.find?_some hy; exact of_decide_eq_true z
    obtain⟨j,hj⟩:=List.getElem?_of_mem (List.mem_of_find?_eq_some hy)
    exact ne j x1 y.2 (List.getElem?_eq_some_iff.mp hj).1 (by rw[hj,<- ey]) g1' o1 o2
   obtain⟨x0,tl,rfl⟩ : ∃ x0 tl,bs=x0 :: tl:=by
    cases bs with
    | nil=>exact absurd rfl bne
    | cons x0 tl=>exact⟨x0,tl,rfl⟩
   obtain⟨g,hg,ng⟩:=al x0 (List.mem_cons_self ..)
   obtain⟨qg,w1,w2⟩:=a3.yes x0 g trivial hg
   refine⟨⟨ob,s57 _ _ f5⟩,?_⟩
   obtain⟨H8,e8⟩ : ∃ H8,H8=upd H7 d (.dK ks):=⟨_,rfl⟩
   have d8:H8 d=some (.dK ks):=by rw[e8,aN]
   have s48:ag H4 H8:=λc u e=>by
    by_cases n:c=d
    ·subst n
     rw[a2]at e; cases e
     exact d8
    ·rw[e8,ak n]
     exact s57 _ _ (b5 n e)
   have p8:H8 p7=some (.lst ((x0 :: tl).map V.int)):=by rw[e8,ak (aw g7.at_ (s57 _ _ f5) (by intro z; cases z))]; exact g7.at_
   rw[<- e8]
   clear e8
   have l8:=s48 _ _ l4
   have rl:r.length<=160000:=by have:=vs.len; omega
   have n7l:p7≠l:=λz=>by have:=g7.nw; rw[z,s6 _ _ (b5 (aw l4 a2 (by intro z; cases z)) l4)]at this; cases this
   refine⟨.inl ⟨rfl,_,.of l8⟩,_,.int x0,.inl (.of p8),aZ (j:=0) rfl,_,l8,by rw[List.length_map,sizeLine_eq]; omega,?_⟩
   obtain⟨H9,e9⟩ : ∃ H9,H9=upd H8 l (.lst (r.map V.int++[.int x0])):=⟨_,rfl⟩
   have l9:H9 l=some (.lst ((r++[x0]).map V.int)):=by rw[e9,aN,List.map_append]; rfl
   have so9 : ∀ c,c≠l->H9 c=H8 c:=λc n=>by rw[e9,ak n]
   have tu9 : ∀ q xs,H8 q=some (.tup xs)->H9 q=some (.tup xs):=λq xs z=>by rw[so9 q (aw z l8 (by intro z; cases z))]; exact z
   have s9:ag H H9:=λc u e=>by rw[so9 c (λz=>by rw[z,g1.nw]at e; cases e)]; exact s48 _ _ (s4 _ _ e)
   rw[<- e9]
   clear e9
   have p9:H9 p7=some (.lst ((x0 :: tl).map V.int)):=by rw[so9 _ n7l]; exact p8
   have d9:H9 d=some (.dK ks):=by rw[so9 _ (aw d8 l8 (by intro z; cases z))]; exact d8
   have tu39 : ∀ q xs,H3 q=some (.tup xs)->H9 q=some (.tup xs):=λq xs z=>tu9 _ _ (s48 _ _ (tu4 _ _ z))
   refine⟨a,q',kvA,k',.ref d,rfl,rfl,(gr.same s9).dp,ky4 tu39 kq',hv,?_⟩
   refine⟨_,.int x0,.inl (.of p9),aZ (j:=0) rfl,?_⟩
   refine⟨d,_,rfl,by have:=cC.k (k:=.inl x0) d9; rw[w1]at this; exact this,?_⟩
   refine⟨s9,qg,g,r++[x0],kvM++[(k',q',.int (r.length:Int))],_,rfl,ky4 (λq xs z=>tu9 _ _ (s48 _ _ z)) w2,cl k' x0 g nk' hg,ng,l9,jm (d4.same s48) l8 so9,⟨by rw[List.length_append,List.length_append,vs.len]; rfl,λi e hi=>?_⟩,?_,by rw[List.length_append]; rfl⟩
   ·by_cases c:i < kvM.length
    ·rw[List.getElem?_append_left c]at hi
     obtain⟨v1,v2,v3⟩:=vs.at_ i e hi
     have:=vs.len
     exact⟨v1,by rw[List.take_append_of_le_length (by omega)]; exact v2,v3⟩
    ·have il:=(List.getElem?_eq_some_iff.mp hi).1
     rw[List.length_append]at il
     have il:i < kvM.length+1:=il
     have ei:i=kvM.length:=by omega
     subst ei
     rw[List.getElem?_append_right (Nat.le_refl _),Nat.sub_self]at hi
     cases hi
     refine⟨by rw[vs.len],?_,nk'⟩
     rw[vs.len,List.take_append_of_le_length (Nat.le_refl _),List.take_length]
     exact hp
   ·rw[t5,hp]
    exact hg
 ·obtain⟨v,hv⟩ : ∃ v,aB kvM k'=some v:=by
   cases c:aB kvM k' with
   | some v=>exact⟨v,rfl⟩
   | none=>exact absurd (show (!(aB kvM k').isSome)=true by rw[c]; rfl) z
  obtain⟨e,he,e1,e2⟩:=fN hv
  obtain⟨i,hi⟩:=List.getElem?_of_mem he
  obtain⟨v1,v2,v3⟩:=vs.at_ i e hi
  rw[e2]at v1
  subst v1
  rw[e1]at v2
  have il:i < r.length:=by have:=(List.getElem?_eq_some_iff.mp hi).1; have:=vs.len; omega
  refine⟨pm,q',kvM,k',.int (i:Int),rfl,rfl,dm,kq',hv,?_⟩
  refine⟨_,rfl,_,.of hl,λl5 H5 g5=>?_⟩
  refine⟨sz rfl,λp6 H6 g6=>?_⟩
  have s6:=s3.trans (g5.sm.trans g6.sm)
  refine kk p6 q' l5 k' (r.drop i) H6 s6 g6.at_ ?_ (kq'.same (g5.sm.trans g6.sm)) nk' ?_ ?_ (by rw[List.length_drop]; have:=vs.len; omega) ?_
  ·cases c:H l5 with
   | none=>rfl
   | some u=>have:=s3 _ _ c; rw[g5.nw]at this; cases this
  ·have:=g6.sm _ _ g5.at_
   rw[wv]at this
   exact this
  ·intro c
   have:=congrArg List.length c
   rw[List.length_drop]at this
   simp at this
   omega
  ·have:=nV F k (r.take i) (r.drop i)
   rw[List.take_append_drop,hp,v2]at this
   exact this.symm
def yG:Sp:=λvs H Q _=>∃ (q l:Addr) (k:ab),vs=[.ref q,.ref l]/\aM H k q /\
 ∀ p l1 l2 H',ag H H'->H' p=some (.tup [.ref l1,.ref l2,.ref l])->H l1=none->H l2=none->l1≠l2->H' l1=some (.lst (k.1.map V.int))->H' l2=some (.lst (k.2.map V.int))->Q (.ref p) H'
theorem vB (T:Txt K mg t):bj P w K mg base "witness" 1 t.qF t.o5 ["pair", "row"] yG:=by
 refine⟨T.El,T.xh.kp,T.GD,T.xh.okQ zl (λvs H Q E h=>by obtain⟨q,l,k,rfl,_⟩:=h; rfl) λcdv A outer s H vs Q E hr h=>?_⟩
 obtain⟨q,l,k,rfl,⟨c,b,h1,h2,h3⟩,kk⟩:=h
 have hu:=hr.units
 refine⟨_,(au (aJ (bW (af (c9 (jp (K:=K) rfl) T.n_list PyProof.Rows.boot_list (af (aK (aL (K:=K) rfl) (aa 0) av (λ_ _=>rfl)) ai)) (af (c9 (jp (K:=K) rfl) T.n_list PyProof.Rows.boot_list (af (aK (aL (K:=K) rfl) (aa 0) av (λ_ _=>rfl)) ai)) (af (aa 1) ai)))))),?_⟩
 refine⟨_,.ref c,.inr (.of h1),rfl,?_⟩
 refine⟨_,.inr (.of h2),λl1 H1 g1=>?_⟩
 refine⟨_,.ref b,.inr (.of (g1.sm _ _ h1)),rfl,?_⟩
 refine⟨_,.inr (.of (g1.sm _ _ h3)),λl2 H2 g2=>?_⟩
 refine⟨sz rfl,λp H3 g3=>?_⟩
 have n2:H l2=none:=by
  cases c:H l2 with
  | none=>rfl
  | some u=>have:=g1.sm _ _ c; rw[g2.nw]at this; cases this
 exact kk p l1 l2 H3 (g1.sm.trans (g2.sm.trans g3.sm)) g3.at_ g1.nw n2 (λz=>by have:=g2.nw; rw[<- z,g1.at_]at this; cases this) (g3.sm _ _ (g2.sm _ _ g1.at_)) (g3.sm _ _ g2.at_)
def gu(H:Hp)(F:Int->Option ab)(y:ao × V)(e:Int × ab):Prop:=y.1=.inl e.1/\F e.1=some e.2/\∃ q,y.2=.ref q/\aM H e.2 q
theorem Fj{H:Hp}{F:Int->Option ab}{n:Nat}{ks:List (ao × V)}(h:cJ H F (λ_=>True) n ks) : ∃ es:List (Int × ab),az (gu H F) ks es:=by
 have all : ∀ y∈ks,∃ e,gu H F y e:=λy hy=>by
  obtain⟨i,hi⟩:=List.getElem?_of_mem hy
  obtain⟨x,hx⟩:=h.int y hy
  have hv:=jD (k:=y.1) (v:=y.2) h.nd hi
  rw[hx]at hv
  cases c:F x with
  | none=>rw[h.no x λ_=>c]at hv; cases hv
  | some g =>
   obtain⟨q,y1,y2⟩:=h.yes x g trivial c
   rw[hv]at y1
   exact⟨(x,g),hx,c,q,Option.some.inj y1,y2⟩
 clear h
 induction ks with
 | nil=>exact⟨[],az.nil⟩
 | cons y ks ih =>
  obtain⟨e,he⟩:=all y (List.mem_cons_self ..)
  obtain⟨es,h⟩:=ih λz hz=>all z (List.mem_cons_of_mem _ hz)
  exact⟨e :: es,az.cons he h⟩
structure kB (H:Hp) (a:Addr) (kvs:List (ab × Addr × V)) (F:ab->Int->Option ab) (N:ab->Prop) (E:ab->List (Int × ab)):Prop where
 dp:DP H a kvs
 key : ∀ k,k∈kvs.map (λe=>e.1) ↔ N k
 val : ∀ e∈kvs,∃ d ks,e.2.2=.ref d/\H d=some (.dK ks)/\cJ H (F e.1) (λ_=>True) 390 ks/\az (gu H (F e.1)) ks (E e.1)
theorem gu.mono{H H':Hp}{F:Int->Option ab}{ks:List (ao × V)}{es:List (Int × ab)}(h:az (gu H F) ks es)(s : ∀ q xs,H q=some (.tup xs)->H' q=some (.tup xs)):az (gu H' F) ks es :=
 h.imp λy e ⟨a,b,q,c,x,y,z1,z2,z3⟩=>⟨a,b,q,c,x,y,s _ _ z1,s _ _ z2,s _ _ z3⟩
theorem kB.same{H H':Hp}{a:Addr}{kvs:List (ab × Addr × V)}{F:ab->Int->Option ab}{N:ab->Prop}{E:ab->List (Int × ab)}(h:kB H a kvs F N E)(s:ag H H'):kB H' a kvs F N E :=
 ⟨h.dp.same s,h.key,λe he=>let ⟨d,ks,a,b,c,f⟩:=h.val e he; ⟨d,ks,a,s _ _ b,c.mono λq xs z=>s _ _ z,gu.mono f λq xs z=>s _ _ z⟩⟩
theorem uA{kvs:List (ab × Addr × V)}(nd:(kvs.map λe=>e.1).Nodup){e e':ab × Addr × V}(h:e∈kvs)(h':e'∈kvs)(k:e.1=e'.1):e=e':=by
 obtain⟨i,hi⟩:=List.getElem?_of_mem h
 obtain⟨j,hj⟩:=List.getElem?_of_mem h'
 have l1:=(List.getElem?_eq_some_iff.mp hi).1
 have q1:(kvs.map λe=>e.1)[i]? = some e'.1:=by rw[List.getElem?_map,hi]; exact congrArg some k
 have q2:(kvs.map λe=>e.1)[j]? = some e'.1:=by rw[List.getElem?_map,hj]; rfl
 have:=(List.getElem?_inj (by rw[List.length_map]; exact l1) nd).mp (q1.trans q2.symm)
 subst this
 rw[hi]at hj; cases hj; rfl
theorem D8{H:Hp}{a:Addr}{kvs:List (ab × Addr × V)}{F:ab->Int->Option ab}{N:ab->Prop}(h:Gr H a kvs F N) : ∃ E,kB H a kvs F N E:=by
 have all : ∀ k,∃ es,∀ e∈kvs,e.1=k->∃ d ks,e.2.2=.ref d/\H d=some (.dK ks)/\cJ H (F e.1) (λ_=>True) 390 ks/\az (gu H (F e.1)) ks es:=λk=>by
  by_cases c:k∈kvs.map λe=>e.1
  ·obtain⟨e,he,rfl⟩:=List.mem_map.mp c
   obtain⟨d,ks,a1,a2,a3⟩:=h.val e he
   obtain⟨es,a4⟩:=Fj a3
   refine⟨es,λe' he' ek=>?_⟩
   cases uA h.dp.nd he' he ek
   exact⟨d,ks,a1,a2,a3,a4⟩
  ·exact⟨[],λe he ek=>absurd (List.mem_map.mpr ⟨e,he,ek⟩) c⟩
 exact⟨λk=>Classical.choose (all k),h.dp,h.key,λe he=>Classical.choose_spec (all e.1) e he rfl⟩
structure bo (H:Hp) (a:Addr) (kvs:List (ab × Addr × V)) (N:ab->Prop) (ed:List (ab × ab)):Prop where
 dp:DP H a kvs
 key : ∀ k,k∈kvs.map (λe=>e.1) ↔ N k
 val : ∀ e∈kvs,∃ l qs,e.2.2=.ref l/\H l=some (.lst (qs.map V.ref))/\az (λq p=>aM H p q) qs ((ed.filter λpg=>decide (pg.2=e.1)).map λpg=>pg.1)
 inj : ∀ e∈kvs,∀ e'∈kvs,e.2.2=e'.2.2->e.1=e'.1
theorem bo.nE{H:Hp}{a:Addr}{kvs:List (ab × Addr × V)}{N N':ab->Prop}{ed:List (ab × ab)}(h:bo H a kvs N ed)(e : ∀ k,N k ↔ N' k):bo H a kvs N' ed:=⟨h.dp,λk=>(h.key k).trans (e k),h.val,h.inj⟩
theorem bo.same{H H':Hp}{a:Addr}{kvs:List (ab × Addr × V)}{N:ab->Prop}{ed:List (ab × ab)}(h:bo H a kvs N ed)(s:ag H H'):bo H' a kvs N ed :=
 ⟨h.dp.same s,h.key,λe he=>let ⟨l,qs,a,b,c⟩:=h.val e he; ⟨l,qs,a,s _ _ b,c.imp λq p z=>z.same s⟩,h.inj⟩
theorem bC{H H':Hp}{k:ab}{q:Addr}(h:aM H k q)(s : ∀ q xs,H q=some (.tup xs)->H' q=some (.tup xs)):aM H' k q:=by
 obtain⟨c,b,h1,h2,h3⟩:=h
 exact⟨c,b,s _ _ h1,s _ _ h2,s _ _ h3⟩
theorem bo.but{H H':Hp}{a d:Addr}{kvs:List (ab × Addr × V)}{N:ab->Prop}{ed:List (ab × ab)}{u:HO}(h:bo H a kvs N ed)(hd:H d=some u)(n1 : ∀ xs,u ≠ .tup xs)(n2 : ∀ xs,u ≠ .lst xs)(n3 : ∀ f,u ≠ .ext f)(s : ∀ c,c≠d->H' c=H c):bo H' a kvs N ed:=by
 have tu : ∀ q xs,H q=some (.tup xs)->H' q=some (.tup xs):=λq xs z=>by rw[s q (aw z hd (n1 xs).symm)]; exact z
 obtain⟨⟨⟨xs,ep,h1,h2⟩,k,n,l⟩,hk,hv,hj⟩:=h
 refine⟨⟨⟨xs,ep,by rw[s a (aw h1 hd (n3 _).symm)]; exact h1,h2⟩,λx hx=>bC (k x hx) tu,n,l⟩,hk,λe he=>?_,hj⟩
 obtain⟨l,qs,a1,a2,a3⟩:=hv e he
 exact⟨l,qs,a1,by rw[s l (aw a2 hd (n2 _).symm)]; exact a2,a3.imp λq p z=>bC z tu⟩
theorem bo.put{H H':Hp}{a l q:Addr}{kvs:List (ab × Addr × V)}{N:ab->Prop}{ed:List (ab × ab)}{p g:ab}{ys:List V}(h:bo H a kvs N ed)(hv:aB kvs g=some (.ref l))(hl:H l=some (.lst ys))(hq:aM H p q)
 (e':H'=upd H l (.lst (ys++[.ref q]))):bo H' a kvs N (ed++[(p,g)]):=by
 have so : ∀ c,c≠l->H' c=H c:=λc n=>by rw[e',ak n]
 have tu : ∀ q xs,H q=some (.tup xs)->H' q=some (.tup xs):=λq xs z=>by rw[so q (aw z hl (by intro z; cases z))]; exact z
 obtain⟨e0,he0,e01,e02⟩:=fN hv
 refine⟨jm h.dp hl so,h.key,λe he=>?_,h.inj⟩
 obtain⟨l1,qs,a1,a2,a3⟩:=h.val e he
 by_cases c:l1=l
 ·subst c
  have eg:e.1=g:=by rw[<- e01]; exact h.inj e he e0 he0 (a1.trans e02.symm)
  rw[hl]at a2; cases a2
  refine⟨l1,qs++[q],a1,by rw[e',aN,List.map_append]; rfl,?_⟩
  rw[List.filter_append,List.map_append]
  refine az.app (a3.imp λq p z=>bC z tu) ?_
  rw[List.filter_cons_of_pos (by exact decide_eq_true eg.symm)]
  exact az.cons (bC hq tu) az.nil
 ·refine⟨l1,qs,a1,by rw[so l1 c]; exact a2,?_⟩
  have ng : ¬ g=e.1:=λz=>by
   cases uA h.dp.nd he he0 (z.symm.trans e01.symm)
   rw[a1]at e02; cases e02
   exact c rfl
  rw[List.filter_append,List.filter_cons_of_neg (by simpa using ng),List.filter_nil,List.append_nil]
  exact a3.imp λq p z=>bC z tu
theorem bo.new{H H':Hp}{a l q:Addr}{kvs:List (ab × Addr × V)}{N:ab->Prop}{k:ab}(h:bo H a kvs N [])(nk : ¬ N k)(hl:H l=some (.lst []))(nn : ∀ e∈kvs,e.2.2 ≠ .ref l)
 (dp:DP H' a (cg kvs k q (.ref l))) (so : ∀ c,c≠a->H' c=H c):bo H' a (kvs++[(k,q,.ref l)]) (λx=>N x\/x=k) []:=by
 obtain⟨xs,ep,h1,_⟩:=h.dp.ex
 have nv:aB kvs k=none:=jF λz=>nk ((h.key k).mp z)
 rw[jR nv]at dp
 refine⟨dp,λx=>?_,λe he=>?_,λe he e' he' z=>?_⟩
 ·rw[List.map_append,List.mem_append,h.key]
  simp
 ·rcases List.mem_append.mp he with he | he
  ·obtain⟨l1,qs,a1,a2,a3⟩:=h.val e he
   have:qs=[]:=List.eq_nil_of_length_eq_zero a3.1
   subst this
   exact⟨l1,[],a1,by rw[so l1 (aw a2 h1 (by intro z; cases z))]; exact a2,az.nil⟩
  ·cases List.mem_singleton.mp he
   exact⟨l,[],rfl,by rw[so l (aw hl h1 (by intro z; cases z))]; exact hl,az.nil⟩
 ·rcases List.mem_append.mp he with he | he <;> rcases List.mem_append.mp he' with he' | he'
  ·exact h.inj e he e' he' z
  ·cases List.mem_singleton.mp he'
   exact absurd z (nn e he)
  ·cases List.mem_singleton.mp he
   exact absurd z.symm (nn e' he')
  ·cases List.mem_singleton.mp he
   cases List.mem_singleton.mp he'
   rfl
def cn(E:ab->List (Int × ab))(ks:List ab):List (ab × ab):=ks.flatMap λk=>(E k).map λxg=>(k,xg.2)
theorem Fh(E:ab->List (Int × ab))(ks:List ab)(k:ab):cn E (ks++[k])=cn E ks++(E k).map λxg=>(k,xg.2):=by
 unfold cn
 rw[List.flatMap_append]
 simp
theorem Fi{E:ab->List (Int × ab)}{ks:List ab}(h : ∀ k∈ks,(E k).length<=390):(cn E ks).length<=390*ks.length:=by
 induction ks with
 | nil=>exact Nat.zero_le _
 | cons k ks ih =>
  have h1:=h k (List.mem_cons_self ..)
  have h2:=ih λx hx=>h x (List.mem_cons_of_mem _ hx)
  show (((E k).map λxg=>(k,xg.2))++cn E ks).length<=_
  rw[List.length_append,List.length_map,List.length_cons]
  omega
def wW(H:Hp)(kvs:List (ab × Addr × V)):Prop:=∀ e∈kvs,∀ l,e.2.2=.ref l->H l=none
def y7:Sp:=λvs H Q _=>∃ (a:Addr) (kvA:List (ab × Addr × V)) (F:ab->Int->Option ab) (N:ab->Prop) (E:ab->List (Int × ab)),vs=[.ref a]/\kB H a kvA F N E/\(∀ k x g,N k->F k x=some g->N g)/\kvA.length<=40000 /\
 ∀ fd kvH H',ag H H'->H fd=none->bo H' fd kvH N (cn E (kvA.map λe=>e.1))->wW H kvH->Q (.ref fd) H'
theorem DZ (T:Txt K mg t):bj P w K mg base "ahead_of" 1 t.rg t.pO ["apart"] y7:=by
 refine⟨T.EW,T.xG.kp,T.G3,T.xG.okQ iE (λvs H Q E h=>by obtain⟨a,kvA,F,N,E,rfl,_⟩:=h; rfl) λcdv A outer s H vs Q E hr h=>?_⟩
 obtain⟨a,kvA,F,N,E,rfl,gr,cl,lA,kk⟩:=h
 have hu:=hr.units
 refine⟨_,(ap (aE (i:=1) iE.nd rfl (.inl rfl) jM)
  (ap (bN PassesOwn.never rfl (tR (aa 0)) (aD (i:=2) iE.nd rfl (.inl rfl)) (au (jO hu (aa 1) (aa 2) (cf ai))))
  (ap (bN PassesOwn.never rfl (nO (aa 0)) (cZ (K:=K) rfl rfl (bq (aD (i:=2) iE.nd rfl (.inl rfl)) (bq (aD (i:=3) iE.nd rfl (.inl rfl)) cY))) (au (nH (bN PassesOwn.never rfl (Ac (aa 3)) (aD (i:=4) iE.nd rfl (.inl rfl)) (au (dQ (fu (K:=K) rfl PySem.F.plainAttrs_list PySem.F.slot_list_append PySem.F.type_list_append fV (dA hu (aa 1) (aa 4)) (af (aa 2) ai))))))))
  (au (aJ (aa 1)))))),?_⟩
 refine λfd H1 g1=>?_
 obtain⟨ns,ens⟩ : ∃ ns,ns=kvA.map λe=>e.1:=⟨_,rfl⟩
 have nsN:ns.Nodup:=by rw[ens]; exact gr.dp.nd
 have lns:ns.length=kvA.length:=by rw[ens,List.length_map]
 have lE : ∀ k∈ns,(E k).length<=390:=λk hk=>by
  rw[ens]at hk
  obtain⟨e,he,rfl⟩:=List.mem_map.mp hk
  obtain⟨d,ks,_,_,a3,a4⟩:=gr.val e he
  have:=a3.len
  have:=a4.1
  omega
 obtain⟨xs0,ep0,dh,_⟩:=gr.dp.ex
 refine⟨a,kvA,rfl,gr.dp.same g1.sm,λo ho=>?_⟩
 rw[g1.sm _ _ dh]at ho
 cases ho
 have A0:bo H1 fd [] (λk=>k∈ns.take 0) []:=by
  refine⟨DP.new g1,λk=>⟨λz=>?_,λz=>?_⟩,λe he=>?_,λe he=>?_⟩
  ·cases z
  ·cases z
  ·cases he
  ·cases he
 refine Fa (λi σ H'=>ag H H'/\(∃ kvH,bo H' fd kvH (λk=>k∈ns.take i) []/\wW H kvH/\kvH.length<=i)/\∃ v2 v3 v4,σ=[some (.ref a),some (.ref fd),v2,v3,v4]) ⟨g1.sm,⟨[],A0,(λe he=>by cases he),Nat.zero_le _⟩,_,_,_,rfl⟩ (λi σ H' _ z=>z.1 _ _ dh) ?_ ?_
 ·rintro i k qb v σ H2 hi ⟨s2,⟨kvH,ah,nw,lH⟩,v2,v3,v4,rfl⟩
  have hki:ns[i]? = some k:=by rw[ens,List.getElem?_map,hi]; rfl
  have il:i < kvA.length:=(List.getElem?_eq_some_iff.mp hi).1
  have kb0:aM H k qb:=gr.dp.key _ (List.mem_of_getElem? hi)
  refine⟨sz rfl,λl H3 g3=>?_⟩
  have s3:=s2.trans g3.sm
  have ah3:=ah.same g3.sm
  refine⟨fd,qb,kvH,k,rfl,rfl,ah3.dp,kb0.same s3,by rw[sizeLine_eq]; omega,λH4 d4 so=>?_⟩
  have nl:H l=none:=by
   cases c:H l with
   | none=>rfl
   | some u=>have:=s2 _ _ c; rw[g3.nw]at this; cases this
  have ah4:=ah3.new (k:=k) (q:=qb) (lD nsN hki) g3.at_ (λe he z=>by
   obtain⟨l1,qs,a1,a2,_⟩:=ah.val e he
   rw[z]at a1; cases a1
   rw[g3.nw]at a2; cases a2) d4 so
  refine⟨λc u e=>by rw[so c (λz=>by rw[z,g1.nw]at e; cases e)]; exact s3 _ _ e,⟨_,ah4.nE λx=>(eO hki).symm,λe he l1 hl1=>?_,by rw[List.length_append]; simp; omega⟩,_,_,_,rfl⟩
  rcases List.mem_append.mp he with h | h
  ·exact nw e h l1 hl1
  ·cases List.mem_singleton.mp h
   cases hl1
   exact nl
 ·rintro σ H2 ⟨s2,⟨kvH,ah,nw,lH⟩,v2,v3,v4,rfl⟩
  have ah2:bo H2 fd kvH N (cn E (ns.take 0)):=ah.nE λx=>by
   rw[<- lns,List.take_length,ens]
   exact gr.key x
  clear ah
  refine⟨a,kvA,rfl,gr.dp.same s2,λo ho=>?_⟩
  rw[s2 _ _ dh]at ho
  cases ho
  refine vU (λi σ H'=>ag H H'/\bo H' fd kvH N (cn E (ns.take i))/\∃ v2 v3 v4,σ=[some (.ref a),some (.ref fd),v2,v3,v4]) ⟨s2,ah2,_,_,_,rfl⟩ (λi σ H' _ z=>z.1 _ _ dh) ?_ ?_
  ·rintro i k qb v pt σ H3 H4 hi ⟨s3,ah3,v2,v3,v4,rfl⟩ g4
   have hki:ns[i]? = some k:=by rw[ens,List.getElem?_map,hi]; rfl
   have il:i < kvA.length:=(List.getElem?_eq_some_iff.mp hi).1
   have em:=List.mem_of_getElem? hi
   have kb0:aM H k qb:=gr.dp.key _ em
   have nk:N k:=(gr.key k).mp (List.mem_map.mpr ⟨_,em,rfl⟩)
   obtain⟨d,ks,a1,a2,a3,a4⟩:=gr.val _ em
   have a1:v=.ref d:=a1
   subst a1
   have s4:=s3.trans g4.sm
   have d4:=s4 _ _ a2
   have lk:=a3.len
   refine⟨pt,_,rfl,.of g4.at_,rfl,?_⟩
   refine⟨_,_,rfl,_,_,rfl,rfl,?_⟩
   refine⟨d,.dK ks,(λo v z=>by rw[d4]at z; cases z),?_⟩
   refine⟨d,ks,rfl,d4,λob=>?_⟩
   obtain⟨H5,e5⟩ : ∃ H5,H5=upd H4 d (.frz ob (.dK ks)):=⟨_,rfl⟩
   have f5:H5 d=some (.frz ob (.dK ks)):=by rw[e5,aN]
   have b5 : ∀ c u,c≠d->H c=some u->H5 c=some u:=λc u n e=>by rw[e5,ak n]; exact s4 _ _ e
   have ah5:bo H5 fd kvH N (cn E (ns.take i)):=(ah3.same g4.sm).but d4 (λ_ z=>nomatch z) (λ_ z=>nomatch z) (λ_ z=>nomatch z) λc n=>by rw[e5,ak n]
   rw[<- e5]
   clear e5
   have el:(cn E (ns.take i)).length<=390*40000:=by
    have:=Fi (E:=E) (ks:=ns.take i) λk hk=>lE k (List.mem_of_mem_take hk)
    rw[List.length_take]at this
    omega
   refine E7 (λj σ H'=>(∀ c u,c≠d->H c=some u->H' c=some u)/\H' d=some (.frz ob (.dK ks))/\bo H' fd kvH N (cn E (ns.take i)++((E k).take j).map λxg=>(k,xg.2))/\∃ v4,σ=[some (.ref a),some (.ref fd),some (.ref qb),some (.ref d),v4]) ⟨b5,f5,by simpa using ah5,_,rfl⟩ (λi σ H' _ z=>z.2.1) ?_ ?_
   ·rintro j ky vv σ H6 hj ⟨b6,f6,ah6,v4,rfl⟩
    obtain⟨xg,hx,r1,r2,qg,r3,r4⟩:=a4.right hj
    have r3:vv=.ref qg:=r3
    subst r3
    have r2:F k xg.1=some xg.2:=r2
    have tu6 : ∀ q xs,H q=some (.tup xs)->H6 q=some (.tup xs):=λq xs z=>b6 _ _ (aw z a2 (by intro z; cases z)) z
    have ng:N xg.2:=cl k xg.1 xg.2 nk r2
    obtain⟨vl,hvl⟩:=ff ((ah6.key xg.2).mpr ng)
    obtain⟨e0,he0,e01,e02⟩:=fN hvl
    obtain⟨l,qs,c1,c2,c3⟩:=ah6.val e0 he0
    rw[e02]at c1
    subst c1
    have jl:j < ks.length:=(List.getElem?_eq_some_iff.mp hj).1
    have lq:qs.length<=390*40000+390:=by
     rw[c3.1,List.length_map]
     refine Nat.le_trans (List.length_filter_le _ _) ?_
     rw[List.length_append,List.length_map,List.length_take]
     omega
    refine⟨fd,qg,kvH,xg.2,.ref l,rfl,rfl,ah6.dp,bC r4 tu6,hvl,?_⟩
    refine⟨.inl ⟨rfl,_,.of c2⟩,_,c2,by rw[List.length_map,sizeLine_eq]; omega,?_⟩
    have nl:=nw e0 he0 l e02
    have ndl:d≠l:=λz=>by rw[z,nl]at a2; cases a2
    refine⟨λc u n e=>by rw[ak (λz=>by rw[z,nl]at e; cases e)]; exact b6 c u n e,by rw[ak ndl]; exact f6,?_,_,rfl⟩
    have:=ah6.put (p:=k) hvl c2 (bC kb0 tu6) rfl
    rw[List.take_add_one,hx,List.map_append,<- List.append_assoc]
    exact this
   ·rintro σ H6 ⟨b6,f6,ah6,v4,rfl⟩
    refine⟨⟨ob,f6⟩,λc u e=>?_,?_,_,_,_,rfl⟩
    ·by_cases n:c=d
     ·subst n
      rw[a2]at e; cases e
      rw[aN]
     ·rw[ak n]
      exact b6 c u n e
    ·have et:cn E (ns.take (i+1))=cn E (ns.take i)++(E k).map λxg=>(k,xg.2):=by
      rw[List.take_add_one,hki]
      exact Fh E _ k
     rw[show (E k).take ks.length=E k from List.take_of_length_le (Nat.le_of_eq a4.1.symm),<- et]at ah6
     exact ah6.but f6 (λ_ z=>nomatch z) (λ_ z=>nomatch z) (λ_ z=>nomatch z) λc n=>by rw[ak n]
  ·rintro σ H3 ⟨s3,ah3,v2,v3,v4,rfl⟩
   rw[<- lns,List.take_length,ens]at ah3
   exact kk fd kvH H3 s3 g1.nw ah3 nw
theorem fg(e:ab × Addr × V)(kvs:List (ab × Addr × V))(x:ab):aB (e :: kvs) x=if e.1=x then some e.2.2 else aB kvs x:=by
 unfold aB
 rw[List.find?_cons]
 by_cases c:e.1=x
 ·rw[if_pos c,decide_eq_true c]; rfl
 ·rw[if_neg c,decide_eq_false c]
theorem mS(kvs:List (ab × Addr × V))(k:ab)(b:Addr)(v:V)(x:ab):aB (cg kvs k b v) x=if x=k then some v else aB kvs x:=by
 have snoc : ∀ kvs:List (ab × Addr × V),aB kvs k=none->aB (kvs++[(k,b,v)]) x=if x=k then some v else aB kvs x:=by
  intro kvs
  induction kvs with
  | nil =>
   intro _
   show aB [(k,b,v)] x=_
   rw[fg]
   by_cases c:x=k
   ·rw[if_pos c,if_pos c.symm]
   ·rw[if_neg c,if_neg (Ne.symm c)]
  | cons e kvs ih =>
   intro h
   rw[fg]at h
   have ne : ¬ e.1=k:=λz=>by rw[if_pos z]at h; cases h
   rw[if_neg ne]at h
   rw[List.cons_append,fg,fg,ih h]
   by_cases c:e.1=x
   ·rw[if_pos c,if_pos c,if_neg (λz=>ne (c.trans z))]
   ·rw[if_neg c,if_neg c]
 have mp : ∀ kvs:List (ab × Addr × V),(aB kvs k).isSome=true->aB (kvs.map λy=>if y.1=k then (y.1,y.2.1,v) else y) x=if x=k then some v else aB kvs x:=by
  intro kvs
  induction kvs with
  | nil=>intro h; cases h
  | cons e kvs ih =>
   intro h
   rw[List.map_cons,fg,fg]
   rw[fg]at h
   by_cases ek:e.1=k
   ·rw[if_pos ek]
    by_cases c:e.1=x
    ·rw[if_pos (show (e.1,e.2.1,v).1=x from c),if_pos (c.symm.trans ek)]
    ·rw[if_neg (show ¬ (e.1,e.2.1,v).1=x from c),if_neg (λz=>c (ek.trans z.symm)),if_neg c]
     have nx : ¬ x=k:=λz=>c (ek.trans z.symm)
     clear ih h
     induction kvs with
     | nil=>rfl
     | cons y kvs ih2 =>
      rw[List.map_cons,fg,fg,ih2]
      by_cases yk:y.1=k
      ·rw[if_pos yk,if_neg (show ¬ (y.1,y.2.1,v).1=x from λz=>nx (z.symm.trans yk)),if_neg (λz=>nx (z.symm.trans yk))]
      ·rw[if_neg yk]
   ·rw[if_neg ek]at h ⊢
    rw[ih h]
    by_cases c:e.1=x
    ·rw[if_pos c,if_pos c,if_neg (λz=>ek (c.trans z))]
    ·rw[if_neg c,if_neg c]
 unfold cg
 by_cases h:(aB kvs k).isSome=true
 ·rw[if_pos h]
  exact mp kvs h
 ·rw[if_neg h]
  exact snoc kvs (Option.not_isSome_iff_eq_none.mp h)
structure cq (H:Hp) (a:Addr) (kvs:List (ab × Addr × V)) (N:ab->Prop) (c:ab->Nat):Prop where
 dp:DP H a kvs
 val : ∀ k,N k->aB kvs k=some (.int (c k:Int))
 sub : ∀ k,(aB kvs k).isSome=true->N k
theorem cq.same{H H':Hp}{a:Addr}{kvs:List (ab × Addr × V)}{N:ab->Prop}{c:ab->Nat}(h:cq H a kvs N c)(s:ag H H'):cq H' a kvs N c:=⟨h.dp.same s,h.val,h.sub⟩
theorem cq.put{H H':Hp}{a b:Addr}{kvs:List (ab × Addr × V)}{N N':ab->Prop}{c c':ab->Nat}{k:ab}{m:Nat}(h:cq H a kvs N c)(dp:DP H' a (cg kvs k b (.int (m:Int))))(hN : ∀ x,N' x ↔ N x\/x=k)(ck:c' k=m)(cx : ∀ x,x≠k->c' x=c x):cq H' a (cg kvs k b (.int (m:Int))) N' c':=by
 refine⟨dp,λx hx=>?_,λx hx=>?_⟩
 ·rw[mS]
  by_cases e:x=k
  ·rw[if_pos e,e,ck]
  ·rw[if_neg e,cx x e]
   exact h.val x (((hN x).mp hx).resolve_right e)
 ·rw[mS]at hx
  by_cases e:x=k
  ·exact (hN x).mpr (.inr e)
  ·rw[if_neg e]at hx
   exact (hN x).mpr (.inl (h.sub x hx))
def bz(E:ab->List (Int × ab))(S:List ab)(p:ab):Nat:=((E p).filter λxg=>decide (xg.2∉S)).length
theorem BS(E:ab->List (Int × ab))(S:List ab)(g p:ab)(hg:g∉S):bz E S p=bz E (S++[g]) p+((E p).filter λxg=>decide (xg.2=g)).length:=by
 unfold bz
 induction E p with
 | nil=>rfl
 | cons y ys ih =>
  rw[List.filter_cons,List.filter_cons,List.filter_cons]
  by_cases c:y.2=g
  ·rw[if_pos (decide_eq_true (by rw[c]; exact hg)),if_neg (by rw[decide_eq_true_iff,c]; simp),if_pos (decide_eq_true c),List.length_cons,List.length_cons,ih]
   omega
  ·have h3 : ¬ decide (y.2=g)=true:=by rw[decide_eq_true_iff]; exact c
   by_cases d:y.2∈S
   ·have h1 : ¬ decide (y.2∉S)=true:=by rw[decide_eq_true_iff]; exact λz=>z d
    have h2 : ¬ decide (y.2∉S++[g])=true:=by rw[decide_eq_true_iff]; exact λz=>z (List.mem_append_left _ d)
    rw[if_neg h1,if_neg h2,if_neg h3,ih]
   ·have h1:decide (y.2∉S)=true:=decide_eq_true d
    have h2:decide (y.2∉S++[g])=true:=decide_eq_true (by
     rw[List.mem_append]
     rintro (z | z)
     ·exact d z
     ·exact c (List.mem_singleton.mp z))
    rw[if_pos h1,if_pos h2,if_neg h3,List.length_cons,List.length_cons,ih]
    omega
theorem uv{E:ab->List (Int × ab)}{S:List ab}{p:ab}:bz E S p=0 ↔ ∀ xg∈E p,xg.2∈S:=by
 unfold bz
 rw[List.length_eq_zero_iff,List.filter_eq_nil_iff]
 constructor
 ·intro h xg hx
  have:=h xg hx
  rw[decide_eq_true_iff]at this
  exact Classical.byContradiction this
 ·intro h xg hx
  rw[decide_eq_true_iff]
  exact λz=>z (h xg hx)
theorem FF(E:ab->List (Int × ab))(ks:List ab)(nd:ks.Nodup)(g p:ab):(((cn E ks).filter λpg=>decide (pg.2=g)).map λpg=>pg.1).count p=if p∈ks then ((E p).filter λxg=>decide (xg.2=g)).length else 0:=by
 induction ks with
 | nil=>rfl
 | cons k ks ih =>
  obtain⟨n1,n2⟩:=List.nodup_cons.mp nd
  show (((((E k).map λxg=>(k,xg.2))++cn E ks).filter λpg=>decide (pg.2=g)).map λpg=>pg.1).count p=_
  rw[List.filter_append,List.map_append,List.count_append,ih n2]
  have one : ∀ l:List (Int × ab),(((l.map λxg=>(k,xg.2)).filter λpg=>decide (pg.2=g)).map λpg=>pg.1)=List.replicate (l.filter λxg=>decide (xg.2=g)).length k:=by
   intro l
   induction l with
   | nil=>rfl
   | cons y l ih =>
    rw[List.map_cons,List.filter_cons,List.filter_cons]
    by_cases c:y.2=g
    ·rw[if_pos (decide_eq_true c),if_pos (decide_eq_true c),List.map_cons,ih,List.length_cons,List.replicate_succ]
    ·rw[if_neg (by rw[decide_eq_true_iff]; exact c),if_neg (by rw[decide_eq_true_iff]; exact c),ih]
  rw[one,List.count_replicate]
  by_cases c:p=k
  ·subst c
   rw[if_pos (by simp),if_neg n1,if_pos (List.mem_cons_self ..)]
   omega
  ·rw[if_neg (by simpa using Ne.symm c)]
   by_cases d:p∈ks
   ·rw[if_pos d,if_pos (List.mem_cons_of_mem _ d)]; omega
   ·rw[if_neg d,if_neg (λz=>(List.mem_cons.mp z).elim c d)]
structure ca (H:Hp) (a:Addr) (kvs:List (ab × Addr × V)) (F:ab->Int->Option ab) (N:ab->Prop):Prop where
 dp:DP H a kvs
 sub : ∀ k,k∈kvs.map (λe=>e.1)->N k
 val : ∀ k,k∈kvs.map (λe=>e.1)->∃ q n bv,bH H kvs k q n bv/\(n<=kvs.length/\w6 F k n)/\(n=0\/∃ x g q' bv',bv=.int x/\F k x=some g/\bH H kvs g q' (n - 1) bv')
theorem ca.far{H:Hp}{a:Addr}{kvs:List (ab × Addr × V)}{F:ab->Int->Option ab}{N:ab->Prop}(h:ca H a kvs F N)(l:kvs.length<=160000):gq H a kvs F N :=
 ⟨h.dp,h.sub,λk hk=>let ⟨q,n,bv,a,b,c⟩:=h.val k hk; ⟨q,n,bv,a,⟨Nat.le_trans b.1 l,b.2⟩,c⟩⟩
theorem ca.same{H H':Hp}{a:Addr}{kvs:List (ab × Addr × V)}{F:ab->Int->Option ab}{N:ab->Prop}(h:ca H a kvs F N)(s:ag H H'):ca H' a kvs F N :=
 ⟨h.dp.same s,h.sub,λk hk=>by
  obtain⟨q,n,bv,a,l,b⟩:=h.val k hk
  refine⟨q,n,bv,a.same λq xs z=>s _ _ z,l,b.imp id ?_⟩
  rintro⟨x,g,q',bv',b1,b2,b3⟩
  exact⟨x,g,q',bv',b1,b2,b3.same λq xs z=>s _ _ z⟩⟩
theorem ca.nil{H:Hp}{a:Addr}{F:ab->Int->Option ab}{N:ab->Prop}(h:DP H a []):ca H a [] F N:=by
 refine⟨h,λk hk=>?_,λk hk=>?_⟩
 ·cases hk
 ·cases hk
theorem ca.put{H H':Hp}{a b q:Addr}{kvs:List (ab × Addr × V)}{F:ab->Int->Option ab}{N:ab->Prop}{k:ab}{n:Nat}{bv:V}(h:ca H a kvs F N)(nk:k∉kvs.map λe=>e.1)(Nk:N k)(hq:H q=some (.tup [.int (n:Int),bv]))
 (hn:n=0\/∃ x g q' bv',bv=.int x/\F k x=some g/\0 < n/\bH H kvs g q' (n - 1) bv') (hm : ∀ x g,F k x=some g->∃ q' m bv',bH H kvs g q' m bv'/\m+1<=n) (dp:DP H' a (cg kvs k b (.ref q))) (so : ∀ c,c≠a->H' c=H c):ca H' a (kvs++[(k,b,.ref q)]) F N:=by
 obtain⟨xs,ep,h1,_⟩:=h.dp.ex
 have tu : ∀ q xs,H q=some (.tup xs)->H' q=some (.tup xs):=λq xs z=>by rw[so q (aw z h1 (by intro z; cases z))]; exact z
 have nv:aB kvs k=none:=jF nk
 have vp : ∀ x,aB (kvs++[(k,b,V.ref q)]) x=if x=k then some (.ref q) else aB kvs x:=λx=>by rw[<- jR nv]; exact mS ..
 have fv : ∀ {g q' m bv'},bH H kvs g q' m bv'->bH H' (kvs++[(k,b,V.ref q)]) g q' m bv':=λ{g q' m bv'} z=>⟨by rw[vp,if_neg (λe=>by have:=z.key; rw[e]at this; exact nk this)]; exact z.1,tu _ _ z.2⟩
 rw[jR nv]at dp
 have ll:(kvs++[(k,b,V.ref q)]).length=kvs.length+1:=by rw[List.length_append]; rfl
 refine⟨dp,λx hx=>?_,λx hx=>?_⟩
 ·rw[List.map_append]at hx
  rcases List.mem_append.mp hx with z | z
  ·exact h.sub x z
  ·rw[List.mem_singleton.mp z]; exact Nk
 ·rw[List.map_append]at hx
  rcases List.mem_append.mp hx with z | z
  ·obtain⟨q1,n1,bv1,a1,a2,a3⟩:=h.val x z
   refine⟨q1,n1,bv1,fv a1,⟨by rw[ll]; have:=a2.1; omega,a2.2⟩,a3.imp id ?_⟩
   rintro⟨y,g,q',bv',b1,b2,b3⟩
   exact⟨y,g,q',bv',b1,b2,fv b3⟩
  ·rw[List.mem_singleton.mp z]
   refine⟨q,n,bv,⟨by rw[vp,if_pos rfl],tu _ _ hq⟩,⟨?_,?_⟩,hn.imp id ?_⟩
   ·rw[ll]
    rcases hn with z | ⟨y,g,q',bv',b1,b2,b3,b4⟩
    ·omega
    ·obtain⟨q1,n1,bv1,a1,a2,_⟩:=h.val g b4.key
     obtain⟨_,e,_⟩:=a1.one b4
     have:=a2.1
     omega
   ·intro r g hp
    cases r with
    | nil=>exact Nat.zero_le _
    | cons y r =>
     have hp:(F k y).bind (λg=>ba F g r)=some g:=hp
     cases c:F k y with
     | none=>rw[c]at hp; cases hp
     | some g1 =>
      rw[c]at hp
      obtain⟨q',m,bv',b1,b2⟩:=hm y g1 c
      obtain⟨q1,n1,bv1,a1,a2,_⟩:=h.val g1 b1.key
      obtain⟨_,e,_⟩:=a1.one b1
      have:=a2.2 r g hp
      rw[List.length_cons]
      omega
   ·rintro⟨y,g,q',bv',b1,b2,_,b4⟩
    exact⟨y,g,q',bv',b1,b2,fv b4⟩
def yW:Sp:=λvs H Q _=>∃ (a:Addr) (kvA:List (ab × Addr × V)) (F:ab->Int->Option ab) (N:ab->Prop),vs=[.ref a]/\Gr H a kvA F N/\(∀ k x g,N k->F k x=some g->N g)/\kvA.length<=40000 /\
 ∀ fa kvF H',ag H H'->H fa=none->gq H' fa kvF F N->(∀ k,N k->k∉kvF.map (λe=>e.1)->∃ x g,F k x=some g/\g∉kvF.map λe=>e.1)->Q (.ref fa) H'
structure Lp (H0 H:Hp) (a fa fd un kl:Addr) (kvA kvH:List (ab × Addr × V)) (F:ab->Int->Option ab) (N:ab->Prop) (E:ab->List (Int × ab)) (kvF kvU:List (ab × Addr × V)) (qs:List Addr) (kn:List ab):Prop where
 sm:ag H0 H
 far:ca H fa kvF F N
 unk:cq H un kvU N (bz E (kvF.map λe=>e.1))
 ah:bo H fd kvH N (cn E (kvA.map λe=>e.1))
 ls:H kl=some (.lst (qs.map V.ref))
 kq:az (λq p=>aM H p q) qs kn
 nd:kn.Nodup
 out : ∀ p∈kn,p∉kvF.map (λe=>e.1)/\N p
 zero : ∀ p,N p->(bz E (kvF.map λe=>e.1) p=0 ↔ p∈kn\/p∈kvF.map λe=>e.1)
theorem ca.butL{H H':Hp}{a d:Addr}{kvs:List (ab × Addr × V)}{F:ab->Int->Option ab}{N:ab->Prop}{ys:List V}(h:ca H a kvs F N)(hd:H d=some (.lst ys))(s : ∀ c,c≠d->H' c=H c):ca H' a kvs F N:=by
 have tu : ∀ q xs,H q=some (.tup xs)->H' q=some (.tup xs):=λq xs z=>by rw[s q (aw z hd (by intro z; cases z))]; exact z
 refine⟨jm h.dp hd s,h.sub,λk hk=>?_⟩
 obtain⟨q,n,bv,a1,a2,a3⟩:=h.val k hk
 refine⟨q,n,bv,a1.same tu,a2,a3.imp id ?_⟩
 rintro⟨x,g,q',bv',b1,b2,b3⟩
 exact⟨x,g,q',bv',b1,b2,b3.same tu⟩
theorem bo.butL{H H':Hp}{a d:Addr}{kvs:List (ab × Addr × V)}{N:ab->Prop}{ed:List (ab × ab)}{ys:List V}(h:bo H a kvs N ed)(hd:H d=some (.lst ys))(nn : ∀ e∈kvs,e.2.2 ≠ .ref d)(s : ∀ c,c≠d->H' c=H c):bo H' a kvs N ed:=by
 have tu : ∀ q xs,H q=some (.tup xs)->H' q=some (.tup xs):=λq xs z=>by rw[s q (aw z hd (by intro z; cases z))]; exact z
 refine⟨jm h.dp hd s,h.key,λe he=>?_,h.inj⟩
 obtain⟨l,qs,a1,a2,a3⟩:=h.val e he
 exact⟨l,qs,a1,by rw[s l (λz=>nn e he (by rw[a1,z]))]; exact a2,a3.imp λq p z=>bC z tu⟩
theorem pW{H H':Hp}{a d:Addr}{kvs:List (ab × Addr × V)}{f:Heap->Prop}(h:DP H a kvs)(hd:H d=some (.ext f))(ne:a≠d)(s : ∀ c,c≠d->H' c=H c):DP H' a kvs:=by
 obtain⟨⟨xs,ep,h1,h2⟩,k,n,l⟩:=h
 have tu : ∀ q xs,H q=some (.tup xs)->H' q=some (.tup xs):=λq xs z=>by rw[s q (aw z hd (by intro z; cases z))]; exact z
 exact⟨⟨xs,ep,by rw[s a ne]; exact h1,h2⟩,λx hx=>bC (k x hx) tu,n,l⟩
theorem bo.butD{H H':Hp}{a d:Addr}{kvs:List (ab × Addr × V)}{N:ab->Prop}{ed:List (ab × ab)}{f:Heap->Prop}(h:bo H a kvs N ed)(hd:H d=some (.ext f))(ne:a≠d)(s : ∀ c,c≠d->H' c=H c):bo H' a kvs N ed:=by
 have tu : ∀ q xs,H q=some (.tup xs)->H' q=some (.tup xs):=λq xs z=>by rw[s q (aw z hd (by intro z; cases z))]; exact z
 refine⟨pW h.dp hd ne s,h.key,λe he=>?_,h.inj⟩
 obtain⟨l,qs,a1,a2,a3⟩:=h.val e he
 exact⟨l,qs,a1,by rw[s l (aw a2 hd (by intro z; cases z))]; exact a2,a3.imp λq p z=>bC z tu⟩
theorem ca.butD{H H':Hp}{a d:Addr}{kvs:List (ab × Addr × V)}{F:ab->Int->Option ab}{N:ab->Prop}{f:Heap->Prop}(h:ca H a kvs F N)(hd:H d=some (.ext f))(ne:a≠d)(s : ∀ c,c≠d->H' c=H c):ca H' a kvs F N:=by
 have tu : ∀ q xs,H q=some (.tup xs)->H' q=some (.tup xs):=λq xs z=>by rw[s q (aw z hd (by intro z; cases z))]; exact z
 refine⟨pW h.dp hd ne s,h.sub,λk hk=>?_⟩
 obtain⟨q,n,bv,a1,a2,a3⟩:=h.val k hk
 refine⟨q,n,bv,a1.same tu,a2,a3.imp id ?_⟩
 rintro⟨x,g,q',bv',b1,b2,b3⟩
 exact⟨x,g,q',bv',b1,b2,b3.same tu⟩
theorem cq.cE{H:Hp}{a:Addr}{kvs:List (ab × Addr × V)}{N:ab->Prop}{c c':ab->Nat}(h:cq H a kvs N c)(e : ∀ k,N k->c k=c' k):cq H a kvs N c':=⟨h.dp,λk hk=>by rw[<- e k hk]; exact h.val k hk,h.sub⟩
theorem cq.len{H:Hp}{a:Addr}{kvs kvA:List (ab × Addr × V)}{N:ab->Prop}{c:ab->Nat}(h:cq H a kvs N c)(k : ∀ k,N k->k∈kvA.map λe=>e.1):kvs.length<=kvA.length:=by
 have:=List.Nodup.length_le_of_subset h.dp.nd (l₂:=kvA.map λe=>e.1) λx hx=>k x (h.sub x (by obtain⟨v,hv⟩:=ff hx; rw[hv]; rfl))
 rwa [List.length_map,List.length_map]at this
theorem DU (T:Txt K mg t):bj P w K mg base "farthest" 2 t.qY t.pH ["apart"] yW:=by
 refine⟨T.EN,T.xA.kp,T.GW,T.xA.okQ fk (λvs H Q E h=>by obtain⟨a,kvA,F,N,rfl,_⟩:=h; rfl) λcdv A outer s H vs Q E hr h=>?_⟩
 obtain⟨a,kvA,F,N,rfl,gr,cl,lA,kk⟩:=h
 obtain⟨E,ge⟩:=D8 gr
 have hu:=hr.units
 refine⟨_,(ap (aE (i:=1) fk.nd rfl (.inr rfl) jM)
  (ap (aE (i:=2) fk.nd rfl (.inl rfl) (aX (DZ T) hr (af (aa 0) ai)))
  (ap (aE (i:=3) fk.nd rfl (.inl rfl) jM)
  (ap (bN PassesOwn.never rfl (nO (aa 0)) (cZ (K:=K) rfl rfl (bq (aD (i:=4) fk.nd rfl (.inl rfl)) (bq (aD (i:=5) fk.nd rfl (.inl rfl)) cY))) (au (jO hu (aa 3) (aa 4) (be Ge T.n_len PySem.boot_len (af (aa 5) ai)))))
  (ap (nK (i:=6) fk.nd rfl (.inl rfl) rfl (bZ.of (fns:=(am fS).names) (N:=["apart", "far", "ahead", "unknown", "pair", "behind", "known", "earlier"]) (Nc:=["pair", "behind"]) (nv:=2) (caps:=[]) rfl rfl (by decide +kernel)) (nO (aa 0)) (λ_ _ _ _=>(cZ (K:=K) rfl (n:=2) rfl (bq (aD (i:=0) (show List.Nodup (["pair", "behind"]:List Str) by decide +kernel) rfl (Or.inl rfl) (Or.inr rfl)) (bq (aD (i:=1) (show List.Nodup (["pair", "behind"]:List Str) by decide +kernel) rfl (Or.inl rfl) (Or.inr rfl)) cY)))) (λ_ _ _ _=>(kX (ft (tN (aa 1))))) (λ_ _ _ _=>(aa 0)))
  (ap (nJ PassesOwn.never (k9 (K:=K) rfl (aa 6)) (ap (aE (i:=4) fk.nd rfl (.inl rfl) (Ak (K:=K) rfl PySem.F.plainAttrs_list PySem.F.slot_list_pop PySem.F.type_list_pop Ce (aa 6)))
  (ap (jO hu (aa 1) (aa 4) (At hr (nI (eJ rfl (bZ.of (fns:=(am fS).names) (N:=["apart", "far", "ahead", "unknown", "pair", "behind", "known", "earlier"]) (Nc:=["byte", "goal", "far"]) (nv:=2) (caps:=[1]) rfl rfl (by decide +kernel)) (kY (dA hu (aa 0) (aa 4))) (λ_ _ _ _=>(cZ (K:=K) rfl (n:=2) rfl (bq (aD (i:=0) (show List.Nodup (["byte", "goal", "far"]:List Str) by decide +kernel) rfl (Or.inl rfl) (Or.inr rfl)) (bq (aD (i:=1) (show List.Nodup (["byte", "goal", "far"]:List Str) by decide +kernel) rfl (Or.inl rfl) (Or.inr rfl)) cY)))) (λ_ _ _ _=>fq) (λ_ _ _ _=>(bW (af (bO (cL (K:=K) rfl) (aK (aL (K:=K) rfl) (dA hu (aa 2) (aa 1)) av (λ_ _=>rfl)) av) (af (aa 0) ai)))))) (bW (af av (af cR ai))) T.n_max rfl))
  (au (bN PassesOwn.never rfl (dz (K:=K) rfl (dA hu (aa 2) (aa 4))) (aD (i:=7) fk.nd rfl (.inl rfl)) (ap (Ay hu (aa 3) (aa 7) av vi)
  (au (bM (bw (eT (K:=K) rfl hu) (dA hu (aa 3) (aa 7)) av (bc _)) (au (dQ (fu (K:=K) rfl PySem.F.plainAttrs_list PySem.F.slot_list_append PySem.F.type_list_append fV (aa 6) (af (aa 7) ai)))) bL))))))))
  (au (aJ (aa 1))))))))),?_⟩
 refine λfa H1 g1=>?_
 refine⟨a,kvA,F,N,E,rfl,ge.same g1.sm,cl,lA,λfd kvH H2 s2 n2 ah nw=>?_⟩
 refine λun H3 g3=>?_
 obtain⟨ns,ens⟩ : ∃ ns,ns=kvA.map λe=>e.1:=⟨_,rfl⟩
 have nsN:ns.Nodup:=by rw[ens]; exact gr.dp.nd
 have lns:ns.length=kvA.length:=by rw[ens,List.length_map]
 obtain⟨xs0,ep0,dh,_⟩:=gr.dp.ex
 have s3:ag H H3:=g1.sm.trans (s2.trans g3.sm)
 have fdfa:fd≠fa:=λz=>by rw[z,g1.at_]at n2; cases n2
 obtain⟨xsh,eph,dhh,_⟩:=ah.dp.ex
 have unfa:un≠fa:=λz=>by have:=g3.nw; rw[z,s2 _ _ g1.at_]at this; cases this
 have unfd:un≠fd:=λz=>by have:=g3.nw; rw[z,dhh]at this; cases this
 have nun:H un=none:=by
  cases c:H un with
  | none=>rfl
  | some u=>have:=s2 _ _ (g1.sm _ _ c); rw[g3.nw]at this; cases this
 refine⟨a,kvA,rfl,gr.dp.same s3,λo ho=>?_⟩
 rw[s3 _ _ dh]at ho
 cases ho
 have U0:cq H3 un [] (λk=>k∈ns.take 0) (bz E []):=⟨DP.new g3,(λk hk=>by cases hk),λk hk=>by cases hk⟩
 refine vU (λi σ H'=>(∀ c u,c≠un->H3 c=some u->H' c=some u)/\(∃ kvU,cq H' un kvU (λk=>k∈ns.take i) (bz E [])/\kvU.length<=i)/\∃ v4 v5 v6 v7,σ=[some (.ref a),some (.ref fa),some (.ref fd),some (.ref un),v4,v5,v6,v7]) ⟨λc u _ e=>e,⟨[],U0,Nat.zero_le _⟩,_,_,_,_,rfl⟩ (λi σ H' _ z=>z.1 _ _ (λe=>by rw[<- e,dh]at nun; cases nun) (s3 _ _ dh)) ?_ ?_
 ·rintro i k qb v pt σ H4 H5 hi ⟨b4,⟨kvU,uk,lU⟩,v4,v5,v6,v7,rfl⟩ g5
  have hki:ns[i]? = some k:=by rw[ens,List.getElem?_map,hi]; rfl
  have il:i < kvA.length:=(List.getElem?_eq_some_iff.mp hi).1
  have em:=List.mem_of_getElem? hi
  have kb0:aM H k qb:=gr.dp.key _ em
  obtain⟨d,ks,a1,a2,a3,a4⟩:=ge.val _ em
  have a1:v=.ref d:=a1
  subst a1
  have b5 : ∀ c u,c≠un->H3 c=some u->H5 c=some u:=λc u n e=>g5.sm _ _ (b4 c u n e)
  have s5:ag H H5:=λc u e=>b5 c u (λz=>by rw[z,nun]at e; cases e) (s3 _ _ e)
  refine⟨pt,_,rfl,.of g5.at_,rfl,?_⟩
  refine⟨_,_,rfl,_,_,rfl,rfl,?_⟩
  refine⟨d,ks.length,rfl,.inl ⟨ks,s5 _ _ a2,rfl⟩,?_⟩
  refine⟨un,qb,kvU,k,rfl,rfl,uk.dp.same g5.sm,kb0.same s5,by rw[sizeLine_eq]; omega,λH6 d6 so=>?_⟩
  refine⟨λc u n e=>by rw[so c n]; exact b5 c u n e,⟨_,(uk.same g5.sm).put (m:=ks.length) d6 (λx=>eO hki) ?_ (λ_ _=>rfl),by have:=tZ kvU k qb (.int (ks.length:Int)); omega⟩,_,_,_,_,rfl⟩
  unfold bz
  rw[List.filter_eq_self.mpr (λy _=>by simp)]
  exact a4.1.symm
 ·rintro σ H4 ⟨b4,⟨kvU,uk,lU⟩,v4,v5,v6,v7,rfl⟩
  have uk4:cq H4 un kvU N (bz E []):=by
   refine⟨uk.dp,λk hk=>uk.val k ?_,λk hk=>?_⟩
   ·rw[<- lns,List.take_length,ens]; exact (gr.key k).mpr hk
   ·have:=uk.sub k hk
    rw[<- lns,List.take_length,ens]at this
    exact (gr.key k).mp this
  have s4:ag H H4:=λc u e=>b4 c u (λz=>by rw[z,nun]at e; cases e) (s3 _ _ e)
  have op0 : ∀ p,bz E [] p=(E p).length:=λp=>by unfold bz; rw[List.filter_eq_self.mpr (λy _=>by simp)]
  clear uk
  refine⟨a,kvA,rfl,gr.dp.same s4,λo ho=>?_⟩
  rw[s4 _ _ dh]at ho
  cases ho
  refine FJ (K:=K) (λi ys H'=>ag H4 H'/\∃ qs kn,ys=qs.map V.ref/\az (λq p=>aM H' p q) qs kn/\kn.Nodup/\(∀ p∈kn,p∈ns.take i)/\(∀ p∈ns.take i,bz E [] p=0 ↔ p∈kn)/\qs.length<=i) ⟨ag.refl _,[],[],rfl,az.nil,.nil,(λp h=>by cases h),(λp h=>by cases h),Nat.zero_le _⟩ (λi ys H' hi z=>⟨z.1 _ _ (s4 _ _ dh),?_⟩) (ce (by omega)) (λi k qb v ys H5 H6 NN hkv z s56 hN=>?_) λys H5 kl H6 z g6=>?_
  ·obtain⟨_,qs,kn,rfl,_,_,_,_,l⟩:=z
   rw[List.length_map]; exact l
  ·obtain⟨s5,qs,kn,rfl,al,nd,sub,iff,lq⟩:=z
   have hki:ns[i]? = some k:=by rw[ens,List.getElem?_map,hkv]; rfl
   have em:=List.mem_of_getElem? hkv
   have kb0:aM H k qb:=gr.dp.key _ em
   obtain⟨d,ks,a1,a2,a3,a4⟩:=ge.val _ em
   have a1:v=.ref d:=a1
   subst a1
   have s46:=s5.trans s56
   have s6:ag H H6:=s4.trans s46
   have le:bz E [] k=ks.length:=by rw[op0]; exact a4.1.symm
   have nk:=lD nsN hki
   refine⟨d,ks.length,rfl,.inl ⟨ks,s6 _ _ a2,rfl⟩,?_⟩
   refine aF (λz=>?_) (λz=>?_)
   ·have l0:ks.length=0:=by
     have z:(!(ks.length != 0))=true:=z
     simpa using z
    refine hN _ _ ⟨s46,qs++[qb],kn++[k],by rw[List.map_append]; rfl,az.app (al.imp λq p z=>z.same s56) (az.cons (kb0.same s6) az.nil),?_,λp hp=>?_,λp hp=>?_,by rw[List.length_append]; simp; omega⟩
    ·refine List.nodup_append.mpr ⟨nd,by simp,λu hu v hv e=>?_⟩
     rw[List.mem_singleton.mp hv]at e
     exact nk (e ▸ sub u hu)
    ·rw[eO hki]
     rcases List.mem_append.mp hp with h | h
     ·exact .inl (sub p h)
     ·exact .inr (List.mem_singleton.mp h)
    ·rw[eO hki]at hp
     rw[List.mem_append]
     by_cases c:p=k
     ·exact⟨λ_=>.inr (by rw[c]; exact List.mem_singleton.mpr rfl),λ_=>by rw[c,le,l0]⟩
     ·rw[iff p (hp.resolve_right c)]
      exact⟨.inl,λh=>h.elim id λh=>absurd (List.mem_singleton.mp h) c⟩
   ·have l0:ks.length≠0:=λc=>z (by show (!(ks.length != 0))=true; rw[c]; rfl)
    refine hN _ _ ⟨s46,qs,kn,rfl,al.imp λq p z=>z.same s56,nd,λp hp=>(eO hki).mpr (.inl (sub p hp)),λp hp=>?_,by omega⟩
    rw[eO hki]at hp
    by_cases c:p=k
    ·exact⟨λh=>absurd (by rw[<- le,<- c]; exact h) l0,λh=>absurd (by rw[<- c]; exact sub p h) nk⟩
    ·exact iff p (hp.resolve_right c)
  ·obtain⟨s5,qs0,kn0,rfl,al,nd,sub,iff,lq⟩:=z
   have s46:=s5.trans g6.sm
   have s6:ag H H6:=s4.trans s46
   have b36 : ∀ c u,c≠un->H3 c=some u->H6 c=some u:=λc u n e=>s46 _ _ (b4 c u n e)
   rw[<- lns,List.take_length]at sub iff
   have nkl:H kl=none:=by
    cases c:H kl with
    | none=>rfl
    | some u=>have:=s5 _ _ (s4 _ _ c); rw[g6.nw]at this; cases this
   have L0:Lp H H6 a fa fd un kl kvA kvH F N E [] kvU qs0 kn0:=by
    refine⟨s6,ca.nil ((DP.new g1).same λc u e=>?_),uk4.same s46,ah.same λc u e=>?_,g6.at_,al.imp λq p z=>z.same g6.sm,nd,λp hp=>⟨(λz=>by cases z),(gr.key p).mp (by rw[<- ens]; exact sub p hp)⟩,λp hp=>?_⟩
    ·exact b36 _ _ (λz=>by have:=g3.nw; rw[<- z,s2 _ _ e]at this; cases this) (g3.sm _ _ (s2 _ _ e))
    ·exact b36 _ _ (λz=>by have:=g3.nw; rw[<- z,e]at this; cases this) (g3.sm _ _ e)
    ·rw[show ([]:List (ab × Addr × V)).map (λe=>e.1)=[] from rfl,iff p (by rw[ens]; exact (gr.key p).mpr hp)]
     exact⟨.inl,λh=>h.elim id λh=>by cases h⟩
   have nlk : ∀ e∈kvH,e.2.2 ≠ .ref kl:=λe he z=>by
    obtain⟨l,qs,c1,c2,_⟩:=ah.val e he
    rw[z]at c1; cases c1
    have:=s5 _ _ (b4 _ _ (λz=>by have:=g3.nw; rw[<- z,c2]at this; cases this) (g3.sm _ _ c2))
    rw[g6.nw]at this; cases this
   refine⟨λm σ H'=>∃ kvF kvU qs kn v4 v5 v7,σ=[some (.ref a),some (.ref fa),some (.ref fd),some (.ref un),v4,v5,some (.ref kl),v7]/\Lp H H' a fa fd un kl kvA kvH F N E kvF kvU qs kn/\kvU.length<=kvA.length/\m=kvA.length - kvF.length,⟨_,[],kvU,qs0,kn0,_,_,_,rfl,L0,lU,rfl⟩,?_⟩
   rintro m σ H7 ⟨kvF,kvU,qs,kn,v4,v5,v7,rfl,L,lU,rfl⟩
   have lF:kvF.length<=kvA.length:=by
    have:=List.Nodup.length_le_of_subset L.far.dp.nd (l₂:=kvA.map λe=>e.1) λx hx=>(gr.key x).mpr (L.far.sub x hx)
    rwa [List.length_map,List.length_map]at this
   refine⟨_,.inl (.of L.ls),?_⟩
   refine aF (λz=>?_) (λz=>?_)
   ·obtain⟨qs1,q,rfl⟩ : ∃ qs1 q,qs=qs1++[q]:=by
     rcases List.eq_nil_or_concat qs with h | ⟨qs1,q,h⟩
     ·rw[h]at z; cases z
     ·exact⟨qs1,q,by rw[h,List.concat_eq_append]⟩
    obtain⟨kn1,k,rfl⟩ : ∃ kn1 k,kn=kn1++[k]:=by
     rcases List.eq_nil_or_concat kn with h | ⟨kn1,k,h⟩
     ·have:=L.kq.1; rw[h]at this; simp at this
     ·exact⟨kn1,k,by rw[h,List.concat_eq_append]⟩
    have ln:qs1.length=kn1.length:=by have:=L.kq.1; simpa using this
    have kq7:aM H7 k q:=L.kq.2 qs1.length q k (by simp) (by rw[ln]; simp)
    have al1:az (λq p=>aM H7 p q) qs1 kn1:=⟨ln,λi x y hx hy=>L.kq.2 i x y (by rw[List.getElem?_append_left (List.getElem?_eq_some_iff.mp hx).1]; exact hx) (by rw[List.getElem?_append_left (List.getElem?_eq_some_iff.mp hy).1]; exact hy)⟩
    have km:k∈kn1++[k]:=List.mem_append_right _ (List.mem_singleton.mpr rfl)
    obtain⟨kS,Nk⟩:=L.out k km
    have all0:=uv.mp ((L.zero k Nk).mpr (.inl km))
    have kA:k∈kvA.map λe=>e.1:=(gr.key k).mpr Nk
    have ltF:kvF.length+1<=kvA.length:=by
     have:=List.Nodup.length_le_of_subset (List.nodup_cons.mpr ⟨kS,L.far.dp.nd⟩) (l₂:=kvA.map λe=>e.1) λx hx=>by
      rcases List.mem_cons.mp hx with h | h
      ·rw[h]; exact kA
      ·exact (gr.key x).mpr (L.far.sub x h)
     rwa [List.length_cons,List.length_map,List.length_map]at this
    refine⟨_,λσ' H' h=>⟨kvA.length - (kvF.length+1),by omega,h⟩,?_⟩
    refine⟨.inl ⟨rfl,_,.of L.ls⟩,kl,_,.ref q,rfl,rfl,L.ls,by simp,?_⟩
    obtain⟨H8,e8⟩ : ∃ H8,H8=upd H7 kl (.lst (((qs1++[q]).map V.ref).dropLast)):=⟨_,rfl⟩
    have so8 : ∀ c,c≠kl->H8 c=H7 c:=λc n=>by rw[e8,ak n]
    have l8:H8 kl=some (.lst (qs1.map V.ref)):=by rw[e8,aN,List.map_append]; simp
    rw[<- e8]
    clear e8
    have tu8 : ∀ q xs,H7 q=some (.tup xs)->H8 q=some (.tup xs):=λq xs z=>by rw[so8 q (aw z L.ls (by intro z; cases z))]; exact z
    have far8:=L.far.butL L.ls so8
    have unk8:cq H8 un kvU N (bz E (kvF.map λe=>e.1)):=⟨jm L.unk.dp L.ls so8,L.unk.val,L.unk.sub⟩
    have ah8:=L.ah.butL L.ls nlk so8
    have s8:ag H H8:=λc u e=>by rw[so8 c (λz=>by rw[z,nkl]at e; cases e)]; exact L.sm _ _ e
    have ge8:=ge.same s8
    have ky8:=bC kq7 tu8
    have al8:az (λq p=>aM H8 p q) qs1 kn1:=al1.imp λq p z=>bC z tu8
    dsimp only [bF]
    refine kN (λσ' H'=>σ'=[some (.ref a),some (.ref fa),some (.ref fd),some (.ref un),some (.ref q),v5,some (.ref kl),v7]/\ag H H'/\(∃ kvF',kvF'.map (λe=>e.1)=kvF.map (λe=>e.1)++[k]/\ca H' fa kvF' F N)/\cq H' un kvU N (bz E (kvF.map λe=>e.1))/\bo H' fd kvH N (cn E (kvA.map λe=>e.1))/\H' kl=some (.lst (qs1.map V.ref))/\az (λq p=>aM H' p q) qs1 kn1/\aM H' k q) (λnx hnx=>?_) λσ' H' z=>?_
    ·obtain⟨v,hv⟩:=ff kA
     obtain⟨e0,he0,e01,e02⟩:=fN hv
     obtain⟨d,ks,a1,a2,a3,a4⟩:=ge8.val e0 he0
     rw[e02]at a1
     subst a1
     rw[e01]at a3 a4
     refine⟨d,.dK ks,(λo v z=>by rw[a2]at z; cases z),?_⟩
     refine⟨a,q,kvA,k,.ref d,rfl,rfl,ge8.dp,ky8,hv,?_⟩
     refine⟨d,ks,rfl,a2,λob=>?_⟩
     obtain⟨H9,e9⟩ : ∃ H9,H9=upd H8 d (.frz ob (.dK ks)):=⟨_,rfl⟩
     have f9:H9 d=some (.frz ob (.dK ks)):=by rw[e9,aN]
     have b9 : ∀ c u,c≠d->H8 c=some u->H9 c=some u:=λc u n e=>by rw[e9,ak n]; exact e
     have df9:DP H9 fa kvF:=wg far8.dp a2 λc n=>by rw[e9,ak n]
     have tu9 : ∀ q xs,H8 q=some (.tup xs)->H9 q=some (.tup xs):=λq xs z=>b9 _ _ (aw z a2 (by intro z; cases z)) z
     rw[<- e9]
     clear e9
     refine qh (K:=K) (λi ys H'=>ag H9 H'/\∃ ts:List (Addr × Int × Int),ys=ts.map (λx=>V.ref x.1)/\ts.length=i/\(∀ x∈ts,H' x.1=some (.tup [.int x.2.1,.int x.2.2])/\∃ (g:ab) (q':Addr) (n:Nat) (bv':V),F k x.2.2=some g/\bH H8 kvF g q' n bv'/\x.2.1=(n:Int)+1)/\∀ (j:Nat) xg,j < i->(E k)[j]? = some xg->∃ x∈ts,∃ q' n bv',bH H8 kvF xg.2 q' n bv'/\x.2.1=((n:Nat):Int)+1) ⟨ag.refl _,[],rfl,rfl,(λx h=>by cases h),λj xg h=>absurd h (Nat.not_lt_zero _)⟩ (λi ys H' hi z=>⟨z.1 _ _ f9,?_⟩) (ce (by have:=a3.len; omega)) (λi ky v ys H10 H11 NN hkv z s10 hN=>?_) λys H10 p H11 z g11=>?_
     ·obtain⟨_,ts,rfl,lt,_⟩:=z
      rw[List.length_map]; omega
     ·obtain⟨s9,ts,rfl,lt,al,cov⟩:=z
      obtain⟨xg,hx,r1,r2,qg,r3,r4⟩:=a4.right hkv
      have r1:ky=.inl xg.1:=r1
      have r3:v=.ref qg:=r3
      subst r1 r3
      obtain⟨q',n,bv',fv,_,_⟩:=far8.val xg.2 (all0 xg (List.mem_of_getElem? hx))
      have s911:=s9.trans s10
      simp only [fi,if_true]
      refine⟨fa,qg,kvF,xg.2,.ref q',rfl,rfl,df9.same s911,bC r4 λq xs z=>s911 _ _ (tu9 _ _ z),fv.1,?_⟩
      refine⟨_,.int (n:Int),.inr (.of (s911 _ _ (tu9 _ _ fv.2))),rfl,?_⟩
      refine⟨sz rfl,λp H12 g12=>hN _ _ ⟨s911.trans g12.sm,ts++[(p,(n:Int)+1,xg.1)],by rw[List.map_append]; rfl,by rw[List.length_append,lt]; rfl,λx hx=>?_,λj xg' hj hx'=>?_⟩⟩
      ·rcases List.mem_append.mp hx with h | h
       ·obtain⟨c1,c2⟩:=al x h
        exact⟨g12.sm _ _ (s10 _ _ c1),c2⟩
       ·rw[List.mem_singleton.mp h]
        exact⟨g12.at_,xg.2,q',n,bv',r2,fv,rfl⟩
      ·by_cases c:j < i
       ·obtain⟨x,xm,z⟩:=cov j xg' c hx'
        exact⟨x,List.mem_append_left _ xm,z⟩
       ·obtain rfl:j=i:=by omega
        rw[hx]at hx'
        cases hx'
        exact⟨_,List.mem_append_right _ (List.mem_singleton.mpr rfl),q',n,bv',fv,rfl⟩
     ·obtain⟨s9,ts,rfl,lt,al,cov⟩:=z
      have s911:=s9.trans g11.sm
      refine⟨⟨ob,s911 _ _ f9⟩,?_⟩
      obtain⟨H12,e12⟩ : ∃ H12,H12=upd H11 d (.dK ks):=⟨_,rfl⟩
      have s812:ag H8 H12:=λc u e=>by
       by_cases n:c=d
       ·subst n
        rw[a2]at e; cases e
        rw[e12,aN]
       ·rw[e12,ak n]
        exact s911 _ _ (b9 _ _ n e)
      have o12 : ∀ c u,H11 c=some u->u ≠ .frz ob (.dK ks)->H12 c=some u:=λc u e ne=>by
       rw[e12,ak (λz=>by rw[z,s911 _ _ f9]at e; exact ne (Option.some.inj e).symm)]
       exact e
      rw[<- e12]
      clear e12
      refine⟨sz rfl,λpd H13 g13=>?_⟩
      have s813:=s812.trans g13.sm
      have far13:=far8.same s813
      obtain⟨xsf,epf,dhf,_⟩:=far13.dp.ex
      have fin : ∀ (qv:Addr) (n:Nat) (bv:V),H13 qv=some (.tup [.int (n:Int),bv])->(n=0\/∃ x g q' bv',bv=.int x/\F k x=some g/\0 < n/\bH H13 kvF g q' (n - 1) bv')->(∀ x g,F k x=some g->∃ q' m bv',bH H13 kvF g q' m bv'/\m+1<=n)->∀ H14,DP H14 fa (cg kvF k q (.ref qv))->(∀ c,c≠fa->H14 c=H13 c)->nx [some (.ref a),some (.ref fa),some (.ref fd),some (.ref un),some (.ref q),v5,some (.ref kl),v7] H14:=λqv n bv h1 h2 hm H14 d14 so=>by
       have tu14 : ∀ q xs,H13 q=some (.tup xs)->H14 q=some (.tup xs):=λq xs z=>by rw[so q (aw z dhf (by intro z; cases z))]; exact z
       refine hnx _ _ ⟨rfl,λc u e=>by rw[so c (λz=>by rw[z,g1.nw]at e; cases e)]; exact s813 _ _ (s8 _ _ e),⟨_,by rw[List.map_append]; rfl,far13.put kS Nk h1 h2 hm d14 so⟩,?_,(ah8.same s813).butD dhf fdfa so,?_,al8.imp λq p z=>bC (z.same s813) tu14,bC (ky8.same s813) tu14⟩
       ·have u13:=unk8.same s813
        exact⟨pW u13.dp dhf unfa so,u13.val,u13.sub⟩
       ·rw[so kl (aw (s813 _ _ l8) dhf (by intro z; cases z))]
        exact s813 _ _ l8
      have lz:kvF.length < sizeLine:=by rw[sizeLine_eq]; omega
      have edg : ∀ x g,F k x=some g->∃ y∈ts,∃ q' m bv',bH H13 kvF g q' m bv'/\y.2.1=((m:Nat):Int)+1:=λx g hF=>by
       obtain⟨q1,w1,w2⟩:=a3.yes x g trivial hF
       unfold aR at w1
       obtain⟨y,hy,_⟩:=Option.map_eq_some_iff.mp w1
       have ey:y.1=.inl x:=by have z:=List.find?_some hy; exact of_decide_eq_true z
       obtain⟨j,hj⟩:=List.getElem?_of_mem (List.mem_of_find?_eq_some hy)
       obtain⟨xg,hx,r1,r2,_⟩:=a4.right hj
       rw[ey]at r1
       cases r1
       rw[hF]at r2
       cases r2
       obtain⟨u,um,q',m,bv',b1,b2⟩:=cov j xg (List.getElem?_eq_some_iff.mp hj).1 hx
       exact⟨u,um,q',m,bv',b1.same λq xs z=>s813 _ _ z,b2⟩
      refine⟨p,ts,rfl,g13.sm _ _ (o12 _ _ g11.at_ (by intro z; cases z)),λx hx=>g13.sm _ _ (o12 _ _ (g11.sm _ _ (al x hx).1) (by intro z; cases z)),λt0=>?_,λx hx mx=>?_⟩
      ·exact⟨fa,q,kvF,k,rfl,rfl,far13.dp,ky8.same s813,lz,λH14 d14 so=>fin pd 0 .non g13.at_ (.inl rfl) (λx g hF=>by obtain⟨y,ym,_⟩:=edg x g hF; rw[t0]at ym; cases ym) H14 d14 so⟩
      ·obtain⟨c1,g,q',n,bv',c2,c3,c4⟩:=al x hx
       refine⟨fa,q,kvF,k,rfl,rfl,far13.dp,ky8.same s813,lz,λH14 d14 so=>fin x.1 (n+1) (.int x.2.2) ?_ (.inr ⟨x.2.2,g,q',bv',rfl,c2,by omega,c3.same λq xs z=>s813 _ _ z⟩) (λx1 g1 hF=>?_) H14 d14 so⟩
       ·have:=g13.sm _ _ (o12 _ _ (g11.sm _ _ c1) (by intro z; cases z))
        rw[c4]at this
        exact this
       ·obtain⟨y,ym,q',m,bv',b1,b2⟩:=edg x1 g1 hF
        refine⟨q',m,bv',b1,?_⟩
        have:=mx y ym
        unfold dC at this
        split at this
        ·omega
        ·have:=of_decide_eq_false this
         omega
    ·obtain⟨rfl,s9,⟨kvF',eF,far9⟩,unk9,ah9,lk9,al9,ky9⟩:=z
     have lF':kvF'.length=kvF.length+1:=by
      have:=congrArg List.length eF
      rw[List.length_append,List.length_map,List.length_map]at this
      exact this
     obtain⟨v,hv⟩:=ff ((ah9.key k).mpr Nk)
     obtain⟨e0,he0,e01,e02⟩:=fN hv
     obtain⟨l,qa,c1,c2,c3⟩:=ah9.val e0 he0
     rw[e02]at c1
     subst c1
     rw[e01]at c3
     obtain⟨pa,epa⟩ : ∃ pa,pa=((cn E (kvA.map λe=>e.1)).filter λpg=>decide (pg.2=k)).map λpg=>pg.1:=⟨_,rfl⟩
     rw[<- epa]at c3
     have cnt : ∀ p,pa.count p=if p∈kvA.map (λe=>e.1) then ((E p).filter λxg=>decide (xg.2=k)).length else 0:=λp=>by rw[epa]; exact FF E _ gr.dp.nd k p
     have paN : ∀ p∈pa,N p:=λp hp=>by
      have:=List.count_pos_iff.mpr hp
      rw[cnt]at this
      by_cases c:p∈kvA.map λe=>e.1
      ·exact (gr.key p).mp c
      ·rw[if_neg c]at this; omega
     have nlk':l≠kl:=λz=>nlk e0 he0 (by rw[e02,z])
     have opS : ∀ p,N p->bz E (kvF.map λe=>e.1) p=bz E (kvF.map (λe=>e.1)++[k]) p+(pa.drop 0).count p:=λp hp=>by
      rw[BS E _ k p kS,List.drop_zero,cnt,if_pos ((gr.key p).mpr hp)]
     have ndk:=List.nodup_append.mp L.nd
     refine⟨fd,q,kvH,k,.ref l,rfl,rfl,ah9.dp,ky9,hv,?_⟩
     refine⟨l,rfl,⟨_,.of c2⟩,gb (K:=K) (a:=l) (xs:=qa.map V.ref) (λj σ H'=>ag H H'/\ca H' fa kvF' F N/\bo H' fd kvH N (cn E (kvA.map λe=>e.1))/\(∃ kvU,cq H' un kvU N (λp=>bz E (kvF.map (λe=>e.1)++[k]) p+(pa.drop j).count p))/\(∃ qs kn,H' kl=some (.lst (qs.map V.ref))/\az (λq p=>aM H' p q) qs kn/\kn.Nodup/\(∀ p∈kn,p∉kvF.map (λe=>e.1)++[k]/\N p)/\∀ p,N p->(bz E (kvF.map (λe=>e.1)++[k]) p+(pa.drop j).count p=0 ↔ p∈kn\/p∈kvF.map (λe=>e.1)++[k]))/\H' l=some (.lst (qa.map V.ref))/\az (λq p=>aM H' p q) qa pa/\∃ v7,σ=[some (.ref a),some (.ref fa),some (.ref fd),some (.ref un),some (.ref q),v5,some (.ref kl),v7]) ⟨s9,far9,ah9,⟨kvU,unk9.cE opS⟩,⟨qs1,kn1,lk9,al9,ndk.1,λp hp=>⟨λz=>?_,(L.out p (List.mem_append_left _ hp)).2⟩,λp hp=>?_⟩,c2,c3,_,rfl⟩ (λi σ H' _ z=>.of z.2.2.2.2.2.1) ?_ ?_⟩
     ·rcases List.mem_append.mp z with h | h
      ·exact (L.out p (List.mem_append_left _ hp)).1 h
      ·exact ndk.2.2 p hp k (List.mem_singleton.mpr rfl) (List.mem_singleton.mp h)
     ·rw[<- opS p hp,L.zero p hp,List.mem_append,List.mem_append]
      constructor
      ·rintro ((h | h) | h)
       ·exact .inl h
       ·exact .inr (.inr h)
       ·exact .inr (.inl h)
      ·rintro (h | h | h)
       ·exact .inl (.inl h)
       ·exact .inr h
       ·exact .inl (.inr h)
     ·rintro j x σ H10 hx ⟨s10,far10,ah10,⟨kvU',uk⟩,⟨qs,kn,lk10,al10,nd10,out10,zero10⟩,hl10,ap10,v7',rfl⟩
      rw[List.getElem?_map]at hx
      obtain⟨qj,hq,rfl⟩:=Option.map_eq_some_iff.mp hx
      obtain⟨pj,hp,kyj⟩:=ap10.right hq
      have Np:N pj:=paN pj (List.mem_of_getElem? hp)
      have dr:pa.drop j=pj :: pa.drop (j+1):=by
       have jl:=(List.getElem?_eq_some_iff.mp hp).1
       rw[List.drop_eq_getElem_cons jl,(List.getElem?_eq_some_iff.mp hp).2]
      have cj:(pa.drop j).count pj=(pa.drop (j+1)).count pj+1:=by rw[dr,List.count_cons_self]
      have co : ∀ p,p≠pj->(pa.drop j).count p=(pa.drop (j+1)).count p:=λp n=>by rw[dr,List.count_cons_of_ne (Ne.symm n)]
      obtain⟨xsu,epu,dhu,_⟩:=uk.dp.ex
      have lU':=uk.len (kvA:=kvA) λk hk=>(gr.key k).mpr hk
      dsimp only [bF]
      refine⟨un,qj,kvU',pj,_,rfl,rfl,uk.dp,kyj,by rw[sizeLine_eq]; omega,uk.val pj Np,?_⟩
      refine⟨_,_,rfl,rfl,rfl,λH11 d11 so=>?_⟩
      have tu11 : ∀ q xs,H10 q=some (.tup xs)->H11 q=some (.tup xs):=λq xs z=>by rw[so q (aw z dhu (by intro z; cases z))]; exact z
      have li11 : ∀ q xs,H10 q=some (.lst xs)->H11 q=some (.lst xs):=λq xs z=>by rw[so q (aw z dhu (by intro z; cases z))]; exact z
      have s11:ag H H11:=λc u e=>by rw[so c (λz=>by rw[z,nun]at e; cases e)]; exact s10 _ _ e
      have far11:=far10.butD dhu unfa.symm so
      have ah11:=ah10.butD dhu unfd.symm so
      have lk11:=li11 _ _ lk10
      have al11:az (λq p=>aM H11 p q) qs kn:=al10.imp λq p z=>bC z tu11
      have ap11:az (λq p=>aM H11 p q) qa pa:=ap10.imp λq p z=>bC z tu11
      have ec:(((bz E (kvF.map (λe=>e.1)++[k]) pj+(pa.drop j).count pj:Nat):Int) - 1)=((bz E (kvF.map (λe=>e.1)++[k]) pj+(pa.drop (j+1)).count pj:Nat):Int):=by omega
      dsimp only at d11
      rw[ec]at d11
      have uk11:cq H11 un _ N (λp=>bz E (kvF.map (λe=>e.1)++[k]) p+(pa.drop (j+1)).count p):=uk.put (N':=N) d11 (λx=>⟨.inl,λh=>h.elim id λe=>e ▸ Np⟩) rfl λx n=>by rw[co x n]
      have z1:=zero10 pj Np
      have npk:pj∉kn/\pj∉kvF.map (λe=>e.1)++[k]:=by
       have : ¬ (pj∈kn\/pj∈kvF.map (λe=>e.1)++[k]):=λh=>by have:=z1.mpr h; omega
       exact⟨λh=>this (.inl h),λh=>this (.inr h)⟩
      refine⟨un,qj,_,pj,_,rfl,rfl,uk11.dp,bC kyj tu11,uk11.val pj Np,?_⟩
      refine aF (λz=>?_) (λz=>?_)
      ·have c0:bz E (kvF.map (λe=>e.1)++[k]) pj+(pa.drop (j+1)).count pj=0:=by have:=of_decide_eq_true z; omega
       have lkn:qs.length<=40000:=by
        have:=List.Nodup.length_le_of_subset nd10 (l₂:=kvA.map λe=>e.1) λx hx=>(gr.key x).mpr (out10 x hx).2
        rw[List.length_map]at this
        have:=al10.1
        omega
       refine⟨.inl ⟨rfl,_,.of lk11⟩,_,lk11,by rw[List.length_map,sizeLine_eq]; omega,?_⟩
       obtain⟨H12,e12⟩ : ∃ H12,H12=upd H11 kl (.lst (qs.map V.ref++[.ref qj])):=⟨_,rfl⟩
       have so12 : ∀ c,c≠kl->H12 c=H11 c:=λc n=>by rw[e12,ak n]
       have l12:H12 kl=some (.lst ((qs++[qj]).map V.ref)):=by rw[e12,aN,List.map_append]; rfl
       have tu12 : ∀ q xs,H11 q=some (.tup xs)->H12 q=some (.tup xs):=λq xs z=>by rw[so12 q (aw z lk11 (by intro z; cases z))]; exact z
       rw[<- e12]
       clear e12
       refine⟨λc u e=>by rw[so12 c (λz=>by rw[z,nkl]at e; cases e)]; exact s11 _ _ e,far11.butL lk11 so12,ah11.butL lk11 nlk so12,⟨_,⟨jm uk11.dp lk11 so12,uk11.val,uk11.sub⟩⟩,⟨qs++[qj],kn++[pj],l12,az.app (al11.imp λq p z=>bC z tu12) (az.cons (bC (bC kyj tu11) tu12) az.nil),?_,λp hp=>?_,λp hp=>?_⟩,by rw[so12 l nlk']; exact li11 _ _ hl10,ap11.imp λq p z=>bC z tu12,_,rfl⟩
       ·refine List.nodup_append.mpr ⟨nd10,by simp,λu hu v hv e=>?_⟩
        rw[List.mem_singleton.mp hv]at e
        exact npk.1 (e ▸ hu)
       ·rcases List.mem_append.mp hp with h | h
        ·exact out10 p h
        ·rw[List.mem_singleton.mp h]; exact⟨npk.2,Np⟩
       ·rw[List.mem_append]
        by_cases c:p=pj
        ·rw[c]; exact⟨λ_=>.inl (.inr (List.mem_singleton.mpr rfl)),λ_=>c0⟩
        ·rw[<- co p c,zero10 p hp]
         exact⟨λh=>h.imp .inl id,λh=>h.imp (λh=>h.elim id λh=>absurd (List.mem_singleton.mp h) c) id⟩
      ·have c0 : ¬ bz E (kvF.map (λe=>e.1)++[k]) pj+(pa.drop (j+1)).count pj=0:=λc=>z (decide_eq_true (by omega))
       refine⟨s11,far11,ah11,⟨_,uk11⟩,⟨qs,kn,lk11,al11,nd10,out10,λp hp=>?_⟩,li11 _ _ hl10,ap11,_,rfl⟩
       by_cases c:p=pj
       ·rw[c]; exact⟨λh=>absurd h c0,λh=>absurd h (not_or.mpr npk)⟩
       ·rw[<- co p c]; exact zero10 p hp
     ·rintro σ H10 ⟨s10,far10,ah10,⟨kvU',uk⟩,⟨qs,kn,lk10,al10,nd10,out10,zero10⟩,hl10,ap10,v7',rfl⟩
      have d0:pa.drop (qa.map V.ref).length=[]:=List.drop_of_length_le (by rw[List.length_map,c3.1]; exact Nat.le_refl _)
      rw[d0]at uk zero10
      refine⟨kvF',kvU',qs,kn,_,_,_,rfl,⟨s10,far10,?_,ah10,lk10,al10,nd10,?_,?_⟩,uk.len λk hk=>(gr.key k).mpr hk,by rw[lF']⟩
      ·rw[eF]; exact uk.cE λp _=>by simp
      ·rw[eF]; exact out10
      ·rw[eF]; intro p hp; have:=zero10 p hp; simpa using this
   ·have q0:qs=[]:=by
     cases qs with
     | nil=>rfl
     | cons q qs=>exact absurd rfl z
    have k0:kn=[]:=List.eq_nil_of_length_eq_zero (by have:=L.kq.1; rw[q0]at this; exact this.symm)
    refine kk fa kvF H7 L.sm g1.nw (L.far.far (by omega)) λk hk nk=>?_
    have no : ¬ bz E (kvF.map λe=>e.1) k=0:=λc=>by
     rcases (L.zero k hk).mp c with h | h
     ·rw[k0]at h; cases h
     ·exact nk h
    obtain⟨e,he,ek⟩:=List.mem_map.mp ((gr.key k).mpr hk)
    obtain⟨d,ks,a1,a2,a3,a4⟩:=ge.val e he
    rw[ek]at a4
    apply Classical.byContradiction
    intro hno
    refine no (uv.mpr λxg hx=>Classical.byContradiction λc=>hno ?_)
    obtain⟨j,hj⟩:=List.getElem?_of_mem hx
    obtain⟨y,_,_,r2,_⟩:=a4.left hj
    exact⟨xg.1,xg.2,r2,c⟩
abbrev qS:Str:=(("slack" : Str) ++ ".<locals>.") ++ "<lambda>"
abbrev pS:Pos:=⟨116,26,116,51⟩
structure Hi (H H':Hp) (v:V) (k:ab) (r:List Int):Prop where
 ex : ∃ wt l1 l2 l,v=.ref wt/\H' wt=some (.tup [.ref l1,.ref l2,.ref l])/\H' l1=some (.lst (k.1.map V.int))/\H' l2=some (.lst (k.2.map V.int))/\H' l=some (.lst (r.map V.int))/\H l1=none/\H l2=none/\H l=none/\l1≠l2/\l1≠l/\l2≠l
def Hl(H H':Hp)(rows:List (List Int))(s:Str)(n:Int)(v:V):Prop :=
 ((∀ k,¬ db (aH rows) k)/\s = "within"/\n=0/\v=.non) \/
 ∃ k r,db (aH rows) k/\r.length<=160000/\Hi H H' v k r/\((s = "never"/\n=0/\r≠[]/\ba (λk=>cM rows (aH rows) k.1 k.2) k r=some k)\/(s = "within"/\(r.length:Int)=n/\(∃ g,ba (λk=>cM rows (aH rows) k.1 k.2) k r=some g)/\∀ k' r' g',db (aH rows) k'->ba (λk=>cM rows (aH rows) k.1 k.2) k' r'=some g'->(r'.length:Int)<=n))
def yM(t:Adr):Sp:=λvs H Q _=>∃ (a:Addr) (f:Ft) (es:List (Int × List Int)) (n:Nat),vs=[.ref a]/\Tt t H a f es n/\n<=1000/\Es es/\(aH (es.map λe=>e.2)).length<=200/\di H 108 qS pS /\
 ∀ p s m v H',d5 108 H H'->di H' 108 qS pS->H' p=some (.tup [.str s,.int m,v])->Hl H H' (es.map λe=>e.2) s m v->Q (.ref p) H'
theorem Hd{rows:List (List Int)}(pf : ∀ x∈rows,∀ y∈rows,x <+: y->x=y)(ne : ∀ r∈rows,r≠[]) : ∀ k x g,db (aH rows) k->cM rows (aH rows) k.1 k.2 x=some g->db (aH rows) g:=by
 intro k x g hk hg
 unfold cM at hg
 split at hg
 ·rename_i z
  cases hg
  have one : ∀ b,b++[x]∈aH rows->cD (aH rows) (bh rows (b++[x])):=λb hb=>by
   obtain⟨h1,r,hr,hp⟩:=eQ.mp hb
   unfold bh
   split
   ·obtain⟨y,ys,e⟩ : ∃ y ys,r=y :: ys:=by
     cases r with
     | nil=>exact absurd rfl (ne _ hr)
     | cons y ys=>exact⟨y,ys,rfl⟩
    exact⟨y,eQ.mpr ⟨by simp,r,hr,by rw[e]; exact⟨ys,rfl⟩⟩⟩
   ·rename_i nr
    obtain⟨s,e⟩:=hp
    cases s with
    | nil=>rw[List.append_nil]at e; rw[e]at nr; exact absurd hr nr
    | cons y ys=>exact⟨y,eQ.mpr ⟨by simp,r,hr,by rw[<- e]; exact⟨ys,by simp⟩⟩⟩
  exact⟨one _ z.1,one _ z.2.1,λe=>z.2.2 e.symm⟩
 ·cases hg
theorem jH{H H':Hp}{q:Str}{pos:Pos}(h:di H 108 q pos)(s:ag H H'):di H' 108 q pos:=by
 rcases h with h | ⟨c,h,oc,vs,t,h1,h2,h3⟩
 ·exact .inl (s _ _ h)
 ·exact .inr ⟨c,s _ _ h,oc,vs,t,s _ _ h1,h2,h3⟩
def cA(H H':Hp):Prop:=∀ c u,H c=some u->(∀ ps,u ≠ .tbl ps)->H' c=some u
theorem nq{H H':Hp}{q:Str}{pos:Pos}(h:di H 108 q pos)(s:d5 108 H H'):cA H H':=λc u e n=>by
 obtain⟨ps,ht⟩:=di.tbl h
 exact s c u (λz=>by rw[z,ht]at e; exact n ps (Option.some.inj e).symm) e
theorem pX{H H':Hp}{a:Addr}{kvs:List (ab × Addr × V)}(h:DP H a kvs)(s:cA H H'):DP H' a kvs:=by
 obtain⟨⟨xs,ep,h1,h2⟩,k,n,l⟩:=h
 exact⟨⟨xs,ep,s _ _ h1 (by intro ps z; cases z),h2⟩,λx hx=>bC (k x hx) λq xs z=>s _ _ z (by intro ps z; cases z),n,l⟩
theorem D9{H H':Hp}{a:Addr}{kvs:List (ab × Addr × V)}{F:ab->Int->Option ab}{N:ab->Prop}(h:Gr H a kvs F N)(s:cA H H'):Gr H' a kvs F N :=
 ⟨pX h.dp s,h.key,λe he=>let ⟨d,ks,a,b,c⟩:=h.val e he; ⟨d,ks,a,s _ _ b (by intro ps z; cases z),c.mono λq xs z=>s _ _ z (by intro ps z; cases z)⟩⟩
theorem Fd{H H':Hp}{a:Addr}{kvs:List (ab × Addr × V)}{F:ab->Int->Option ab}{N:ab->Prop}(h:gq H a kvs F N)(s:cA H H'):gq H' a kvs F N:=by
 have tu : ∀ q xs,H q=some (.tup xs)->H' q=some (.tup xs):=λq xs z=>s _ _ z (by intro ps z; cases z)
 refine⟨pX h.dp s,h.sub,λk hk=>?_⟩
 obtain⟨q,n,bv,a,l,b⟩:=h.val k hk
 refine⟨q,n,bv,a.same tu,l,b.imp id ?_⟩
 rintro⟨x,g,q',bv',b1,b2,b3⟩
 exact⟨x,g,q',bv',b1,b2,b3.same tu⟩
theorem DG (T:Txt K mg t) (hBI:base.BuiltinsAt mg 108):bj P w K mg base "slack" 6 t.mC t.ma ["tongue"] (yM t):=by
 refine⟨T.Et,T.Ht.kp,T.GJ,T.wZ.okQ iD (λvs H Q E h=>by obtain⟨a,f,es,n,rfl,_⟩:=h; rfl) λA outer s H vs Q E hr h=>?_⟩
 obtain⟨a,f,es,n,rfl,tt,hn,ok,lp,tab,kk⟩:=h
 have hu:=hr.units
 refine⟨_,(ap (aE (i:=1) iD.nd rfl (.inl rfl) (aX (DX T) hr (af (aX (DC T) hr (af (aa 0) ai)) ai)))
  (ap (bM (ft (tN (aa 1))) (au (aJ (bW (tS rfl)))) bL)
  (ap (aE (i:=2) iD.nd rfl (.inr rfl) (aX (DU T) hr (af (aa 1) ai)))
  (ap (nK (i:=3) iD.nd rfl (.inl rfl) rfl (bZ.of (fns:=(am fm).names) (N:=["tongue", "apart", "far", "endless", "trip", "pair"]) (Nc:=["pair", "far"]) (nv:=1) (caps:=[2]) rfl rfl (by decide +kernel)) (tR (aa 1)) (λ_ _ _ _=>(aD (i:=0) (show List.Nodup (["pair", "far"]:List Str) by decide +kernel) rfl (Or.inl rfl) (Or.inr rfl))) (λ_ _ _ _=>(kX (bw (oH hu) (aa 0) (aa 1) (by with_unfolding_all rfl)))) (λ_ _ _ _=>(aa 0)))
  (ap (bM (k9 (K:=K) rfl (aa 3)) (ap (aE (i:=4) iD.nd rfl (.inl rfl) (aX (DB T) hr (af (aa 1) (af (aa 2) (af (aK (aL (K:=K) rfl) (aa 3) av (λ_ _=>rfl)) ai)))))
  (au (aJ (bW (af fT (af av (af (aX (vB T) hr (af (aK (aL (K:=K) rfl) (aa 4) av (λ_ _=>rfl)) (af (aK (aL (K:=K) rfl) (aa 4) av (λ_ _=>rfl)) ai))) ai))))))) bL)
  (ap (aE (i:=5) iD.nd rfl (.inl rfl) (As (x := "each") (y := "far") (iy:=2) hr rfl T.wZ.hd hBI rfl rfl (by decide) rfl rfl rfl rfl rfl (λ_ _ _ _ _ _=>rfl) (λ_ _ _ _ _ _ _ hr=>have hu:=(hr.deeper _).units; (aK (aL (K:=K) rfl) (dA hu (aa 1) (aa 0)) av (λ_ _=>rfl))) (aa 1) T.n_max rfl))
  (au (aJ (bW (af fT (af (aK (aL (K:=K) rfl) (dA hu (aa 2) (aa 5)) av (λ_ _=>rfl)) (af (aX (vB T) hr (af (aa 5) (af (aX (DH T) hr (af (aa 1) (af (aa 2) (af (aa 5) ai)))) ai))) ai)))))))))))),?_⟩
 obtain⟨rows,er⟩ : ∃ rows,rows=es.map λe=>e.2:=⟨_,rfl⟩
 refine⟨a,f,es,n,rfl,tt,hn,ok,λp1 kvs H1 s1 n1 st l1=>?_⟩
 rw[<- er]at st l1 lp kk
 have pf : ∀ x∈rows,∀ y∈rows,x <+: y->x=y:=by
  intro x hx y hy hp
  rw[er]at hx hy
  obtain⟨e1,h1,rfl⟩:=List.mem_map.mp hx
  obtain⟨e2,h2,rfl⟩:=List.mem_map.mp hy
  rcases ok.two h1 h2 with z | z
  ·rw[z]
  ·have:bd e1.2 e2.2=true:=decide_eq_true (List.prefix_iff_eq_take.mp hp).symm
   unfold de at z
   rw[this]at z
   simp at z
 have ner : ∀ r∈rows,r≠[]:=λr hr z=>by
  rw[er]at hr
  obtain⟨e1,h1,rfl⟩:=List.mem_map.mp hr
  have:=(ok.sg e1 h1).2.1
  rw[z]at this
  simp at this
 refine⟨p1,rows,aH rows,kvs,rfl,st,by omega,by omega,λa2 kvA H2 s2 n2 gr lA=>?_⟩
 have lA':kvA.length<=40000:=Nat.le_trans lA (Nat.mul_le_mul (show kvs.length<=200 by omega) (show kvs.length<=200 by omega))
 have s02:=s1.trans s2
 have cl:=Hd pf ner
 refine⟨a2,kvA.length,rfl,.inr (.inr ⟨kvA,gr.dp,rfl⟩),?_⟩
 refine aF (λz=>?_) (λz=>?_)
 ·have l0:kvA=[]:=by
   have z:(!(kvA.length != 0))=true:=z
   have:kvA.length=0:=by simpa using z
   exact List.eq_nil_of_length_eq_zero this
  refine⟨sz rfl,λp H3 g3=>?_⟩
  refine kk p _ _ _ H3 (s02.trans g3.sm).one (jH tab (s02.trans g3.sm)) g3.at_ (.inl ⟨λk hk=>?_,rfl,rfl,rfl⟩)
  have:=(gr.key k).mpr hk
  rw[l0]at this; cases this
 ·refine⟨a2,kvA,_,_,rfl,gr,cl,lA',λfa kvF H3 s3 n3 far out=>?_⟩
  have s03:=s02.trans s3
  have gr3:=gr.same s3
  obtain⟨ns,ens⟩ : ∃ ns,ns=kvA.map λe=>e.1:=⟨_,rfl⟩
  obtain⟨xs0,ep0,dh,_⟩:=gr3.dp.ex
  refine⟨a2,kvA,rfl,gr3.dp,λo ho=>?_⟩
  rw[dh]at ho
  cases ho
  refine FL (λi ys H'=>ag H3 H'/\∃ qs kn,ys=qs.map V.ref/\az (λq p=>aM H' p q) qs kn/\(∀ p∈kn,db (aH rows) p/\p∉kvF.map λe=>e.1)/\(∀ p∈ns.take i,p∉kvF.map (λe=>e.1)->kn≠[])/\qs.length<=i) ⟨ag.refl _,[],[],rfl,az.nil,(λp h=>by cases h),(λp h=>by cases h),Nat.zero_le _⟩ (λi ys H' hi z=>⟨z.1 _ _ dh,?_⟩) (ce (by omega)) (λi k qb v ys H4 NN hkv z hN=>?_) λys H4 pe H5 z g5=>?_
  ·obtain⟨_,qs,kn,rfl,_,_,_,l⟩:=z
   rw[List.length_map]; exact l
  ·obtain⟨s4,qs,kn,rfl,al,oo,ne,l⟩:=z
   have hki:ns[i]? = some k:=by rw[ens,List.getElem?_map,hkv]; rfl
   have em:=List.mem_of_getElem? hkv
   have kb:aM H3 k qb:=gr3.dp.key _ em
   have nk:db (aH rows) k:=(gr.key k).mp (List.mem_map.mpr ⟨_,em,rfl⟩)
   refine⟨qb,fa,kvF,k,rfl,rfl,far.dp.same s4,kb.same s4,?_⟩
   refine aF (λz=>?_) (λz=>?_)
   ·have nF:k∉kvF.map λe=>e.1:=λh=>by
     obtain⟨v,hv⟩:=ff h
     have z:(!(aB kvF k).isSome)=true:=z
     rw[hv]at z; cases z
    refine hN _ _ ⟨s4,qs++[qb],kn++[k],by rw[List.map_append]; rfl,az.app al (az.cons (kb.same s4) az.nil),λp hp=>?_,λ_ _ _=>by simp,by rw[List.length_append]; simp; omega⟩
    rcases List.mem_append.mp hp with h | h
    ·exact oo p h
    ·rw[List.mem_singleton.mp h]; exact⟨nk,nF⟩
   ·have iF:k∈kvF.map λe=>e.1:=Classical.byContradiction λh=>z (by show (!(aB kvF k).isSome)=true; rw[jF h]; rfl)
    refine hN _ _ ⟨s4,qs,kn,rfl,al,oo,λp hp np=>?_,by omega⟩
    rcases (eO hki).mp hp with h | h
    ·exact ne p h np
    ·rw[h]at np; exact absurd iF np
  ·obtain⟨s4,qs,kn,rfl,al,oo,ne,l⟩:=z
   have s35:=s4.trans g5.sm
   have s05:=s03.trans s35
   have gr5:=gr3.same s35
   have lns:ns.length=kvA.length:=by rw[ens,List.length_map]
   rw[<- lns,List.take_length]at ne
   refine⟨_,.inl (.of g5.at_),?_⟩
   refine aF (λz=>?_) (λz=>?_)
   ·obtain⟨q0,qt,rfl⟩ : ∃ q0 qt,qs=q0 :: qt:=by
     cases qs with
     | nil=>cases z
     | cons q0 qt=>exact⟨q0,qt,rfl⟩
    obtain⟨k0,hk0,ky0⟩:=al.right (i:=0) (x:=q0) rfl
    obtain⟨nk0,nF0⟩:=oo k0 (List.mem_of_getElem? hk0)
    refine⟨_,.ref q0,.inl (.of g5.at_),aZ (j:=0) rfl,?_⟩
    refine⟨a2,fa,q0,kvA,kvF,_,_,k0,rfl,gr5,by omega,far.dp.same s35,cl,out,ky0.same g5.sm,nk0,nF0,λp q' l k' r H6 s6 hp nl ky nk' hl rne lr hpth=>?_⟩
    refine⟨_,.ref q',.inr (.of hp),rfl,?_⟩
    refine⟨_,.ref l,.inr (.of hp),rfl,?_⟩
    refine⟨q',l,k',rfl,ky,λp7 l1 l2 H7 s7 h7 m1 m2 m12 h71 h72=>?_⟩
    refine⟨sz rfl,λp8 H8 g8=>?_⟩
    have s06:=s05.trans s6
    have nn : ∀ {c:Addr},H6 c=none->H c=none:=λ{c} h=>by
     cases e:H c with
     | none=>rfl
     | some u=>have:=s06 _ _ e; rw[h]at this; cases this
    have nn5:H l=none:=by
     cases e:H l with
     | none=>rfl
     | some u=>have:=s05 _ _ e; rw[nl]at this; cases this
    have s08:=s06.trans (s7.trans g8.sm)
    exact kk p8 _ _ _ H8 s08.one (jH tab s08) g8.at_ (.inr ⟨k',r,nk',by omega,⟨p7,l1,l2,l,rfl,g8.sm _ _ h7,g8.sm _ _ h71,g8.sm _ _ h72,g8.sm _ _ (s7 _ _ hl),nn m1,nn m2,nn5,m12,(λe=>by rw[e,hl]at m1; cases m1),λe=>by rw[e,hl]at m2; cases m2⟩,.inl ⟨rfl,rfl,rne,hpth⟩⟩)
   ·have k0:kn=[]:=by
     cases qs with
     | nil=>exact List.eq_nil_of_length_eq_zero al.1.symm
     | cons q0 qt=>exact absurd rfl z
    have allF : ∀ p∈ns,p∈kvF.map λe=>e.1:=λp hp=>Classical.byContradiction λh=>ne p hp h k0
    have tab5:=jH tab s05
    have far5:=far.same s35
    have kne:kvA≠[]:=λh=>by rename_i z0 _; exact z0 (by show (!(kvA.length != 0))=true; rw[h]; rfl)
    have all : ∀ i:Nat,∃ n:Int,∀ k b v,kvA[i]? = some (k,b,v)->∃ q m bv,bH H5 kvF k q m bv/\n=(m:Int):=λi=>by
     cases c:kvA[i]? with
     | none=>exact⟨0,λk b v h=>by cases h⟩
     | some e =>
      obtain⟨q,m,bv,fv,_⟩:=far5.val e.1 (allF e.1 (by rw[ens]; exact List.mem_map.mpr ⟨e,List.mem_of_getElem? c,rfl⟩))
      exact⟨m,λk b v h=>by cases h; exact⟨q,m,bv,fv,rfl⟩⟩
    unfold kI
    dsimp only
    refine⟨a2,kvA,.ref fa,rfl,gr5.dp,kne,rfl,tab5,λi=>Classical.choose (all i),λH6 s6 i k b v hi=>?_,λH6 s6 tab6 i k b v hi hmax=>?_⟩
    ·have sT:=nq tab5 s6
     have tu : ∀ q xs,H5 q=some (.tup xs)->H6 q=some (.tup xs):=λq xs z=>sT _ _ z (by intro ps z; cases z)
     obtain⟨q,m,bv,fv,em⟩:=Classical.choose_spec (all i) k b v hi
     refine⟨fa,b,kvF,k,.ref q,rfl,rfl,pX far5.dp sT,bC (gr5.dp.key _ (List.mem_of_getElem? hi)) tu,fv.1,?_⟩
     exact⟨_,.int (m:Int),.inr (.of (tu _ _ fv.2)),rfl,congrArg V.int em.symm,rfl⟩
    ·have sT:=nq tab5 s6
     have tu : ∀ q xs,H5 q=some (.tup xs)->H6 q=some (.tup xs):=λq xs z=>sT _ _ z (by intro ps z; cases z)
     obtain⟨q,m,bv,fv,em⟩:=Classical.choose_spec (all i) k b v hi
     have kb6:=bC (gr5.dp.key _ (List.mem_of_getElem? hi)) tu
     have far6:=Fd far5 sT
     have nk:db (aH rows) k:=(gr.key k).mp (List.mem_map.mpr ⟨_,List.mem_of_getElem? hi,rfl⟩)
     refine⟨fa,b,kvF,k,.ref q,rfl,rfl,far6.dp,kb6,fv.1,?_⟩
     refine⟨_,.int (m:Int),.inr (.of (tu _ _ fv.2)),rfl,?_⟩
     refine⟨a2,fa,b,kvA,kvF,_,_,k,q,m,bv,rfl,D9 gr5 sT,far6,kb6,fv.same tu,λl r H7 s7 nl hl lr hp=>?_⟩
     refine⟨b,l,k,rfl,kb6.same s7,λp8 l1 l2 H8 s8 h8 m1 m2 m12 h81 h82=>?_⟩
     refine⟨sz rfl,λp9 H9 g9=>?_⟩
     have s06:d5 108 H H6:=s05.one.trans s6
     have s09:d5 108 H H9:=s06.trans (s7.trans (s8.trans g9.sm)).one
     have n75 : ∀ {c:Addr},H6 c=none->c≠108:=λ{c} h z=>by
      obtain⟨ps,ht⟩:=di.tbl tab6
      rw[z,ht]at h; cases h
     have nn6 : ∀ {c:Addr},H6 c=none->H c=none:=λ{c} h=>by
      cases e:H c with
      | none=>rfl
      | some u=>have:=s06 _ _ (n75 h) e; rw[h]at this; cases this
     have nn7 : ∀ {c:Addr},H7 c=none->H6 c=none:=λ{c} h=>by
      cases e:H6 c with
      | none=>rfl
      | some u=>have:=s7 _ _ e; rw[h]at this; cases this
     have l160:r.length<=160000:=by
      obtain⟨q3,m3,bv3,fv3,⟨l3,_⟩,_⟩:=far5.val k fv.key
      obtain⟨_,e3,_⟩:=fv3.one fv
      omega
     refine kk p9 _ _ _ H9 s09 (jH tab6 (s7.trans (s8.trans g9.sm))) g9.at_ (.inr ⟨k,r,nk,l160,⟨p8,l1,l2,l,rfl,g9.sm _ _ h8,g9.sm _ _ h81,g9.sm _ _ h82,g9.sm _ _ (s8 _ _ hl),nn6 (nn7 m1),nn6 (nn7 m2),nn6 nl,m12,(λe=>by rw[e,hl]at m1; cases m1),λe=>by rw[e,hl]at m2; cases m2⟩,.inr ⟨rfl,by rw[lr],hp,λk1 r1 g1 nk1 hp1=>?_⟩⟩)
     obtain⟨e1,he1,ek1⟩:=List.mem_map.mp ((gr.key k1).mpr nk1)
     obtain⟨j,hj⟩:=List.getElem?_of_mem he1
     obtain⟨q2,m2,bv2,fv2,em2⟩:=Classical.choose_spec (all j) e1.1 e1.2.1 e1.2.2 hj
     obtain⟨q3,m3,bv3,fv3,⟨_,gst⟩,_⟩:=far5.val e1.1 fv2.key
     obtain⟨_,e3,_⟩:=fv3.one fv2
     rw[ek1]at gst
     have l1:=gst r1 g1 hp1
     have l2:Classical.choose (all i)>=Classical.choose (all j):=(hmax j (List.getElem?_eq_some_iff.mp hj).1).1
     rw[em,em2]at l2
     omega
theorem bK{i:Nat}{v:V}{σ:St}{H:Hp}{Q:St->Hp->Prop}(h:Q (σ.set i (some v)) H):bF i v σ H Q:=h
theorem vA (T:Txt K mg t):bj P w K mg base "_law_plain" 1 t.qD t.oZ ["_law_found"] (λvs H Q _=>∃ i,vs=[.int i]/\Q (.bl true) H):=by
 refine⟨T.Ej,T.xc.kp,T.GB,T.xc.okQ zj (λvs H Q E h=>by obtain⟨i,rfl,_⟩:=h; rfl) λcdv A outer s H vs Q E hr h=>?_⟩
 obtain⟨i,rfl,k⟩:=h
 refine⟨_,(au (aJ (c8 (be (jq (K:=K) rfl) T.n_isinstance PyProof.Rows.boot_isinstance (af (aa 0) (af (jb rfl T.n_int PyProof.Rows.boot_int) ai))) (c8 (dR lY (aa 0) gW (bc _)) (dY (dR lY (aa 0) gW (bc _))))))),?_⟩
 obtain⟨ty,hty,e0⟩:=(dH.int (K:=K) (H:=H) i).isInt
 refine⟨ty,_,hty,e0,?_⟩
 refine fX ?_
 refine⟨(λf z=>nomatch z),?_⟩
 refine fX ?_
 exact⟨(λf z=>nomatch z),k⟩
structure jt (rs:List (List Int)):Prop where
 sg : ∀ r∈rs,1<=r.length/\r.length<=6/\∀ b∈r,0<=b/\b<=255
 pw:rs.Pairwise λa b=>bd a b=false/\bd b a=false
 tot:(rs.map λr=>r.length).sum<=60
abbrev AL:=Addr × List Int
theorem yz(ps:List AL):(ps.map λx=>(x.2.length:Int)).sum=(((ps.map λx=>x.2).map λr=>r.length).sum:Nat):=by
 induction ps with
 | nil=>rfl
 | cons p ps ih =>
  simp only [List.map_cons,List.sum_cons]at *
  rw[ih]
  omega
def yR(K:PySem.W.Frag):Sp:=λvs H Q _=>∃ (a:Addr) (cs:List Int),vs=[.ref a]/\ax K H a (cs.map V.int)/\cs.length<=12/\∀ (p:Addr) (ps:List AL) H',ag H H'->H' p=some (.lst (ps.map λx=>V.ref x.1))->(∀ x∈ps,H' x.1=some (.lst (x.2.map V.int)))->jt (ps.map λx=>x.2)->ps.length<=12->Q (.ref p) H'
theorem Dz (T:Txt K mg t):bj P w K mg base "_law_rows" 1 t.qC t.oY ["_law_cells"] (yR K):=by
 refine⟨T.Ei,T.xb.kp,T.GA,T.xb.okQ gA (λvs H Q E h=>by obtain⟨a,cs,rfl,_⟩:=h; rfl) λcdv A outer s H vs Q E hr h=>?_⟩
 obtain⟨a,cs,rfl,ha,lc,k⟩:=h
 have hu:=hr.units
 refine⟨_,(ap (aE (i:=1) gA.nd rfl (.inl rfl) (cf ai))
  (ap (bN PassesOwn.never rfl (dz (K:=K) rfl (aa 0)) (aD (i:=2) gA.nd rfl (.inl rfl)) (ap (aE (i:=3) gA.nd rfl (.inl rfl) (tU (aa 2)))
  (ap (aE (i:=4) gA.nd rfl (.inr rfl) (cf ai))
  (ap (bN PassesOwn.never rfl (nN rfl T.n_range (af (aK (aL (K:=K) rfl) (cf (af av (af av (af av (af av (af av (af (bO (cL (K:=K) rfl) av (nS (aa 3))) ai))))))) (nS (aa 2)) (λ_ _=>rfl)) ai)) (aD (i:=5) gA.nd rfl (.inl rfl)) (ap (dQ (fu (K:=K) rfl PySem.F.plainAttrs_list PySem.F.slot_list_append PySem.F.type_list_append fV (aa 4) (af (aK (aL (K:=K) rfl) (cf (tS rfl)) (nS (aa 3)) (λ_ _=>rfl)) ai)))
  (au (aE (i:=3) gA.nd rfl (.inl rfl) (tU (aa 3))))))
  (au (bM (bw dD (bO (cL (K:=K) rfl) (be (FY (K:=K) rfl rfl) T.n_sum PyProof.Rows.boot_sum (af (eJ rfl (bZ.of (fns:=(am fQ).names) (N:=["_law_cells", "_law_found", "_law_cell", "_law_number", "_law_row", "_law_k"]) (Nc:=["_law_one"]) (nv:=1) (caps:=[]) rfl rfl (by decide +kernel)) (dz (K:=K) rfl (aa 1)) (λ_ _ _ _=>(aD (i:=0) (show List.Nodup (["_law_one"]:List Str) by decide +kernel) rfl (Or.inl rfl) (Or.inr rfl))) (λ_ _ _ _=>fq) (λ_ _ _ _=>(be (bR (K:=K) rfl) T.n_len PySem.boot_len (af (aa 0) ai)))) ai)) (be (bR (K:=K) rfl) T.n_len PySem.boot_len (af (aa 4) ai))) av (bc _)) (au (bM (gX (be (wG (K:=K) rfl rfl) T.n_all PyProof.Rows.boot_all (af (eJ rfl (bZ.of (fns:=(am fQ).names) (N:=["_law_cells", "_law_found", "_law_cell", "_law_number", "_law_row", "_law_k"]) (Nc:=["_law_one", "_law_row"]) (nv:=1) (caps:=[4]) rfl rfl (by decide +kernel)) (dz (K:=K) rfl (aa 1)) (λ_ _ _ _=>(aD (i:=0) (show List.Nodup (["_law_one", "_law_row"]:List Str) by decide +kernel) rfl (Or.inl rfl) (Or.inr rfl))) (λ_ _ _ _=>fq) (λ_ _ _ _=>(c8 (dR (jh (K:=K) rfl hu) (c7 (dS (K:=K) rfl) (aa 1) eI (cr (be (bR (K:=K) rfl) T.n_len PySem.boot_len (af (aa 0) ai)))) (aa 0) (bc _)) (dY (dR (jh (K:=K) rfl hu) (c7 (dS (K:=K) rfl) (aa 0) eI (cr (be (bR (K:=K) rfl) T.n_len PySem.boot_len (af (aa 1) ai)))) (aa 1) (bc _)))))) ai))) (au (dQ (fu (K:=K) rfl PySem.F.plainAttrs_list PySem.F.slot_list_append PySem.F.type_list_append fV (aa 1) (af (aa 4) ai)))) bL)) bL))))))
  (au (aJ (aa 1))))),?_⟩
 refine⟨sz rfl,λp H1 g1=>?_⟩
 refine⟨a,rfl,⟨_,g1.sm.seq ha⟩,gb (K:=K) (a:=a) (xs:=cs.map V.int) (λi σ H'=>ag H H'/\(∃ ps:List AL,H' p=some (.lst (ps.map λx=>V.ref x.1))/\(∀ x∈ps,x.1≠p/\H' x.1=some (.lst (x.2.map V.int)))/\jt (ps.map λx=>x.2)/\ps.length<=i)/\∃ v2 v3 v4 v5,σ=[some (.ref a),some (.ref p),v2,v3,v4,v5]) ⟨g1.sm,⟨[],g1.at_,(λx h=>nomatch h),⟨(λr h=>nomatch h),.nil,Nat.zero_le _⟩,Nat.zero_le _⟩,_,_,_,_,rfl⟩ (λi σ H' _ z=>z.1.seq ha) ?_ ?_⟩
 ·rintro i x σ H2 hx ⟨s2,⟨ps,p2,hp2,rw2,l2⟩,v2,v3,v4,v5,rfl⟩
  obtain⟨c,hc,rfl⟩:=oz hx
  have hi:i < cs.length:=(List.getElem?_eq_some_iff.mp hc).1
  refine⟨sz rfl,λr H3 g3=>?_⟩
  refine⟨sz rfl,λl H4 g4=>?_⟩
  obtain⟨m,hm,m1,m6⟩ : ∃ m:Nat,eX [V.int 1,.int 2,.int 3,.int 2,.int 3,.int (4+c / 6%3)] (c%6)=some (.int (m:Int))/\1<=m/\m<=6:=by
   have h0:=Int.emod_nonneg c (b:=6) (by decide)
   have h6:=Int.emod_lt_of_pos c (b:=6) (by decide)
   obtain⟨j,hj⟩ : ∃ j:Nat,c%6=(j:Int):=⟨(c%6).toNat,by omega⟩
   have:j < 6:=by omega
   rw[hj]
   match j,this with
   | 0,_=>exact⟨1,rfl,by decide,by decide⟩
   | 1,_=>exact⟨2,rfl,by decide,by decide⟩
   | 2,_=>exact⟨3,rfl,by decide,by decide⟩
   | 3,_=>exact⟨2,rfl,by decide,by decide⟩
   | 4,_=>exact⟨3,rfl,by decide,by decide⟩
   | 5,_=>exact⟨(4+c / 6%3).toNat,by rw[aZ (j:=5) rfl]; congr 2; omega,by omega,by omega⟩
  refine⟨_,.int (m:Int),.inl g4.lst,hm,?_⟩
  refine⟨(m:Int),rfl,by omega,by omega,?_⟩
  rw[Int.toNat_natCast]
  have r2:H2 r=none:=g3.nw
  have r4:H4 r=some (.lst []):=g4.sm _ _ g3.at_
  refine oV (lo:=0) (n:=m) (λj σ H'=>ag H2 H'/\(∃ xs:List Int,H' r=some (.lst (xs.map V.int))/\xs.length=j/\∀ b∈xs,0<=b/\b<=255)/\∃ (n:Int) (v5:Option V),σ=[some (.ref a),some (.ref p),some (.int c),some (.int n),some (.ref r),v5]) ⟨g3.sm.trans g4.sm,⟨[],r4,rfl,λb h=>nomatch h⟩,_,_,rfl⟩ ?_ ?_
  ·rintro j σ H5 hj ⟨s5,⟨xs,r5,lx,bx⟩,n,v5,rfl⟩
   refine⟨.inl ⟨rfl,_,.of r5⟩,?_⟩
   refine⟨sz rfl,λl6 H6 g6=>?_⟩
   obtain⟨b,hb,b0,b1⟩ : ∃ b:Int,eX [V.int 0,.int 7,.int 255,.int 0,.int 7,.int 255,.int 1] (n%7)=some (.int b)/\0<=b/\b<=255:=by
    have h0:=Int.emod_nonneg n (b:=7) (by decide)
    have h6:=Int.emod_lt_of_pos n (b:=7) (by decide)
    obtain⟨j,hj⟩ : ∃ j:Nat,n%7=(j:Int):=⟨(n%7).toNat,by omega⟩
    have:j < 7:=by omega
    rw[hj]
    match j,this with
    | 0,_=>exact⟨0,rfl,by decide,by decide⟩
    | 1,_=>exact⟨7,rfl,by decide,by decide⟩
    | 2,_=>exact⟨255,rfl,by decide,by decide⟩
    | 3,_=>exact⟨0,rfl,by decide,by decide⟩
    | 4,_=>exact⟨7,rfl,by decide,by decide⟩
    | 5,_=>exact⟨255,rfl,by decide,by decide⟩
    | 6,_=>exact⟨1,rfl,by decide,by decide⟩
   refine⟨_,.int b,.inl g6.lst,hb,?_⟩
   refine⟨_,g6.sm _ _ r5,dP (by rw[List.length_map]; omega),?_⟩
   refine⟨(s5.trans g6.sm).put r2,⟨xs++[b],by rw[aN,List.map_append]; rfl,by rw[List.length_append,lx]; rfl,λx hx=>?_⟩,_,_,rfl⟩
   rcases List.mem_append.mp hx with h | h
   ·exact bx x h
   ·rw[List.mem_singleton.mp h]; exact⟨b0,b1⟩
  rintro σ H5 ⟨s5,⟨xs,r5,lx,bx⟩,n,v5,rfl⟩
  have p5:=s5 _ _ p2
  have hp5 : ∀ x∈ps,H5 x.1=some (.lst (x.2.map V.int)):=λx hx=>s5 _ _ (hp2 x hx).2
  have stay : ∀ H',ag H5 H'->((ag H H'/\(∃ ps:List AL,H' p=some (.lst (ps.map λx=>V.ref x.1))/\(∀ x∈ps,x.1≠p/\H' x.1=some (.lst (x.2.map V.int)))/\jt (ps.map λx=>x.2)/\ps.length<=i+1))):=λH' s'=>⟨s2.trans (s5.trans s'),ps,s' _ _ p5,λx hx=>⟨(hp2 x hx).1,s' _ _ (hp5 x hx)⟩,rw2,by omega⟩
  have lps:ps.length<=12:=by omega
  have atp : ∀ {j:Nat} {x:V},(ps.map λx=>V.ref x.1)[j]? = some x->∃ q∈ps,ps[j]? = some q/\x=.ref q.1:=λ{j x} h=>by
   rw[List.getElem?_map]at h
   obtain⟨q,hq,e⟩:=Option.map_eq_some_iff.mp h
   exact⟨q,List.mem_of_getElem? hq,hq,e.symm⟩
  refine⟨p,rfl,⟨_,.of p5⟩,mv ((ps.map λx=>(x.2.length:Int)).map V.int) (by simp) (.of p5) (ce (by rw[List.length_map]; omega)) (λj x y H6 N hx hy s6 hN=>?_) λp6 H6 g6=>?_⟩
  ·obtain⟨q,hq,hqj,rfl⟩:=atp hx
   rw[List.getElem?_map,List.getElem?_map,hqj]at hy
   cases hy
   refine⟨_,.inl (.of (s6 _ _ (hp5 q hq))),?_⟩
   rw[List.length_map]
   exact hN _ (ag.refl _)
  refine⟨_,g6.lst,?_⟩
  refine⟨_,.inl (.of (g6.sm _ _ r5)),?_⟩
  refine aF (λe60=>?_) (λ_=>?_)
  ·have e60:=of_decide_eq_true e60
   rw[yz,List.length_map]at e60
   refine⟨p,rfl,⟨_,.of (g6.sm _ _ p5)⟩,mv ((ps.map λx=>(!bd x.2 xs && !bd xs x.2)).map V.bl) (by simp) (.of (g6.sm _ _ p5)) (ce (by rw[List.length_map]; omega)) (λj x y H7 N hx hy s7 hN=>?_) λp7 H7 g7=>?_⟩
   ·obtain⟨q,hq,hqj,rfl⟩:=atp hx
    rw[List.getElem?_map,List.getElem?_map,hqj]at hy
    cases hy
    have q7:=s7 _ _ (g6.sm _ _ (hp5 q hq))
    have r7:=s7 _ _ (g6.sm _ _ r5)
    refine⟨_,.inl (.of q7),_,rfl,_,.of r7,λp8 H8 g8=>?_⟩
    rw[List.length_map,jo]at g8
    have q8:=g8.sm _ _ q7
    have r8:=g8.sm _ _ r7
    refine jU (by rfl) (pU g8.lst (.of q8) ?_)
    have hN : ∀ H'',ag H7 H''->N (.bl (!bd q.2 xs && !bd xs q.2)) H'':=hN
    refine aF (λe=>?_) (λe=>?_)
    ·refine⟨_,.inl (.of r8),_,rfl,_,.of q8,λp9 H9 g9=>?_⟩
     rw[List.length_map,jo]at g9
     refine jU (by rfl) (pU g9.lst (.of (g9.sm _ _ r8)) ?_)
     have:=hN H9 (g8.sm.trans g9.sm)
     have e:(!bd q.2 xs)=true:=e
     rw[e,Bool.true_and]at this
     exact this
    ·have:=hN H8 g8.sm
     have e:(!bd q.2 xs)=false:=Bool.eq_false_iff.mpr e
     rw[e,Bool.false_and]at this
     exact this
   ·refine⟨_,g7.lst,?_⟩
    refine aF (λe=>?_) (λ_=>?_)
    ·have e:(ps.map λx=>(!bd x.2 xs && !bd xs x.2)).all id=true:=e
     have s57:=g6.sm.trans g7.sm
     have p7:=s57 _ _ p5
     have np:r≠p:=λz=>by rw[z,p2]at r2; cases r2
     refine⟨.inl ⟨rfl,_,.of p7⟩,?_⟩
     refine⟨_,p7,dP (by rw[List.length_map]; omega),?_⟩
     refine⟨((s2.trans s5).trans s57).put g1.nw,⟨ps++[(r,xs)],by rw[aN,List.map_append]; rfl,λx hx=>?_,⟨λy hy=>?_,?_,?_⟩,by rw[List.length_append]; exact Nat.succ_le_succ l2⟩,_,_,_,_,rfl⟩
     ·rcases List.mem_append.mp hx with h | h
      ·exact⟨(hp2 x h).1,by rw[ak (hp2 x h).1]; exact s57 _ _ (hp5 x h)⟩
      ·rw[List.mem_singleton.mp h]
       exact⟨np,by rw[ak np]; exact s57 _ _ r5⟩
     ·rw[List.map_append]at hy
      rcases List.mem_append.mp hy with h | h
      ·exact rw2.sg y h
      ·rw[List.mem_singleton.mp h]
       exact⟨by show 1<=xs.length; omega,by show xs.length<=6; omega,bx⟩
     ·rw[List.map_append]
      refine List.pairwise_append.mpr ⟨rw2.pw,List.pairwise_singleton ..,λy hy z hz=>?_⟩
      rw[List.mem_singleton.mp hz]
      obtain⟨x,hx,rfl⟩:=List.mem_map.mp hy
      have:=List.all_eq_true.mp e _ (List.mem_map.mpr ⟨x,hx,rfl⟩)
      simpa using this
     ·rw[List.map_append,List.map_append,List.sum_append]
      simp only [List.map_cons,List.map_nil,List.sum_cons,List.sum_nil]
      omega
    ·have st:=stay _ (g6.sm.trans g7.sm)
     exact⟨st.1,st.2,_,_,_,_,rfl⟩
  ·exact⟨(stay _ g6.sm).1,(stay _ g6.sm).2,_,_,_,_,rfl⟩
 ·rintro σ H2 ⟨s2,⟨ps,p2,hp2,rw2,l2⟩,v2,v3,v4,v5,rfl⟩
  exact k p ps H2 s2 p2 (λx hx=>(hp2 x hx).2) rw2 (by rw[List.length_map]at l2; omega)
abbrev rA:=Addr × Addr × Int × List Int
def Hn(H:Hp)(s:rA):Prop:=H s.1=some (.tup [.int s.2.2.1,.ref s.2.1])/\H s.2.1=some (.lst (s.2.2.2.map V.int))
def mO(rows:List (List Int))(b:List Int):Prop:=∃ r∈rows,∃ k,k < r.length/\b=r.take k
theorem qy{rows:List (List Int)}{b:List Int}:mO rows b ↔ cD (aH rows) b:=by
 constructor
 ·rintro⟨r,hr,k,hk,rfl⟩
  refine⟨r[k],eQ.mpr ⟨(λz=>by have:=congrArg List.length z; rw[List.length_append]at this; cases this),r,hr,?_⟩⟩
  rw[List.take_append_getElem hk]
  exact List.take_prefix _ _
 ·rintro⟨x,hx⟩
  obtain⟨_,r,hr,hp⟩:=eQ.mp hx
  have hl:=hp.length_le
  rw[List.length_append]at hl
  simp only [List.length_cons,List.length_nil]at hl
  refine⟨r,hr,b.length,by omega,?_⟩
  exact List.prefix_iff_eq_take.mp ((List.prefix_append b [x]).trans hp)
def Pf(rows:List (List Int)):Prop:=∀ x∈rows,∀ y∈rows,x <+: y->x=y
theorem mz{a b:List Int}:bd a b=true ↔ b.take a.length=a:=by unfold bd; exact decide_eq_true_iff
def sL(t:Adr):Sp:=λvs H Q _=>∃ (a:Addr) (f:Ft) (es:List (Int × List Int)) (q:Addr) (row:List Int) (g:Int),vs=[.ref a,.ref q,.int g]/\Tt t H a f es 1000/\Es es/\H q=some (.lst (row.map V.int)) /\
 ((∀ e∈es,e.2≠row)->∀ H',ag H H'->Q .non H')/\(∀ e∈es,e.2=row->∀ p H',ag H H'->H' p=some (.tup [.int e.1,.int g])->Q (.ref p) H')
theorem B5 (T:Txt K mg t):bt P w K mg base bI 2 t.mE t.j5 ["self", "row", "page"] (sL t):=by
 refine T.Hw.okQ sZ (λvs H Q E h=>by obtain⟨o,f,es,q,row,g,rfl,_⟩:=h; rfl) λcdv A outer s H vs Q E hr h=>?_
 obtain⟨a,f,es,q,row,g,rfl,tt,ok,hq,kn,ks⟩:=h
 have hu:=hr.units
 refine⟨_,(ap (aE (i:=3) sZ.nd rfl (.inl rfl) (tY hu (gY (K:=K) rfl (aa 0)) (c9 (ic (K:=K) rfl) T.n_tuple PyProof.Rows.boot_tuple (af (aa 1) ai))))
  (au (aJ (kZ (bw ji (aa 3) cR (bc _)) cR (bW (af (aa 3) (af (aa 2) ai))))))),?_⟩
 obtain⟨o,⟨k1,k2,k3,a1,a2,a3,_,_,_,kv⟩,ne⟩:=id tt
 refine⟨a,_,f.dx,_,_,rfl,o,T.cF,T.n6,rfl,?_⟩
 refine⟨f.d2,rfl,.inr ⟨_,.inl a2⟩,?_⟩
 refine⟨_,.of hq,λp1 H1 g1=>?_⟩
 have h1:=g1.at_
 rw[jY]at h1
 refine⟨_,cC.t (g1.sm _ _ a2) h1,?_⟩
 by_cases c : ∀ e∈es,e.2≠row
 ·rw[kv.b' row c]
  exact kn c H1 g1.sm
 ·obtain⟨e,he⟩:=Classical.not_forall.mp c
  obtain⟨hm,hrow⟩:=Classical.not_imp.mp he
  have hrow:e.2=row:=Classical.not_not.mp hrow
  have vb:=kv.b e hm
  rw[hrow]at vb
  rw[vb]
  exact⟨sz rfl,λp2 H2 g2=>ks e hm hrow p2 H2 (g1.sm.trans g2.sm) g2.at_⟩
theorem D1 (T:Txt K mg t):mL P w K mg base t.bf "whole" 2 t.mE t.j5 ["self", "row", "page"] [] (sL t) :=
 ⟨T.cF,T.Cj,⟨_,T.G6,.nil⟩,B5 T⟩
def sO(t:Adr):Sp:=λvs H Q _=>∃ (a:Addr) (f:Ft) (es:List (Int × List Int)) (q:Addr) (row:List Int) (g:Int),vs=[.ref a,.ref q,.int g]/\Tt t H a f es 1000/\H q=some (.lst (row.map V.int)) /\
 ((∀ x∈es,bd row x.2=false)->∀ H',ag H H'->Q .non H')/\(∀ p (r2:List Int) H',ag H H'->H p=none->H' p=some (.lst (r2.map V.int))->(∃ e∈es,e.2=row++r2)->Q (.ref p) H')
theorem B8 (T:Txt K mg t):bt P w K mg base bI 3 t.mG t.j6 ["self", "row", "page"] (sO t):=by
 refine T.HH.okQ tj (λvs H Q E h=>by obtain⟨o,f,es,q,row,g,rfl,_⟩:=h; rfl) λcdv A outer s H vs Q E hr h=>?_
 obtain⟨a,f,es,q,row,g,rfl,tt,hq,kn,ks⟩:=h
 have hu:=hr.units
 refine⟨_,(ap (aE (i:=3) tj.nd rfl (.inl rfl) (tY hu (gY (K:=K) rfl (aa 0)) (c9 (ic (K:=K) rfl) T.n_tuple PyProof.Rows.boot_tuple (af (aa 1) ai))))
  (au (aJ (kZ (bw ji (aa 3) cR (bc _)) cR (c9 (jp (K:=K) rfl) T.n_list PyProof.Rows.boot_list (af (aa 3) ai)))))),?_⟩
 obtain⟨o,⟨k1,k2,k3,a1,a2,a3,_,_,_,kv⟩,ne⟩:=id tt
 refine⟨a,_,f.dx,_,_,rfl,o,T.cF,T.lI,rfl,?_⟩
 refine⟨f.d3,rfl,.inr ⟨_,.inl a3⟩,?_⟩
 refine⟨_,.of hq,λp1 H1 g1=>?_⟩
 have h1:=g1.at_
 rw[jY]at h1
 refine⟨_,cC.t (g1.sm _ _ a3) h1,?_⟩
 by_cases c:bp row∈k3.map (λx=>x.1)
 ·obtain⟨rr,er,q',r2,x,y,z⟩:=kv.e _ c
  obtain rfl:=je er
  rw[x]
  refine⟨_,.inr (.of (g1.sm _ _ y)),λp2 H2 g2=>?_⟩
  obtain⟨e',he',z⟩:=z
  exact ks p2 r2 H2 (g1.sm.trans g2.sm) (g1.sm.free g2.nw) g2.at_ ⟨e',he',z⟩
 ·rw[mQ c]
  refine kn (λx hx=>Bool.eq_false_iff.mpr λz=>c ?_) H1 g1.sm
  have z:=mz.mp z
  have lr:row.length<=x.2.length:=by
   have:=congrArg List.length z
   rw[List.length_take]at this
   omega
  obtain⟨q',r2,v,_⟩:=kv.c x hx row.length lr
  rw[z]at v
  refine Classical.byContradiction λn=>?_
  rw[mQ n]at v
  cases v
theorem D6 (T:Txt K mg t):mL P w K mg base t.bf "fill" 3 t.mG t.j6 ["self", "row", "page"] [] (sO t) :=
 ⟨T.cF,T.Cm,⟨_,T.Ha,.nil⟩,B8 T⟩
def sM(t:Adr):Sp:=λvs H Q _=>∃ (a:Addr) (f:Ft) (es:List (Int × List Int)) (q:Addr) (row:List Int) (g:Int),vs=[.ref a,.ref q,.int g]/\Tt t H a f es 1000/\Es es/\H q=some (.lst (row.map V.int)) /\
 (∀ e∈es,e.2=row->∀ p H',ag H H'->H' p=some (.tup [.str "sign",.int e.1,.int g])->Q (.ref p) H')/\((∀ e∈es,bd row e.2=false)->∀ p H',ag H H'->H' p=some (.tup [.str "none",.non,.int g])->Q (.ref p) H')/\((∀ e∈es,e.2≠row)->(∃ e∈es,bd row e.2=true)->∀ p H',ag H H'->H' p=some (.tup [.str "more",.non,.int g])->Q (.ref p) H')
theorem B6 (T:Txt K mg t):bt P w K mg base bI 5 t.mD t.j4 ["self", "begun", "page"] (sM t):=by
 refine T.Hv.okQ sY (λvs H Q E h=>by obtain⟨o,f,es,q,row,g,rfl,_⟩:=h; rfl) λcdv A outer s H vs Q E hr h=>?_
 obtain⟨a,f,es,q,row,g,rfl,tt,ok,hq,ks,kn,km⟩:=h
 have hu:=hr.units
 refine⟨_,(ap (aE (i:=3) sY.nd rfl (.inl rfl) (nQ (D1 T) hr (aa 0) (af (aa 1) (af (aa 2) ai))))
  (ap (bM (bw lY (aa 3) cR (bc _)) (au (aJ (bW (af fT (af (aK (aL (K:=K) rfl) (aa 3) av (λ_ _=>rfl)) (af (aK (aL (K:=K) rfl) (aa 3) av (λ_ _=>rfl)) ai)))))) bL)
  (ap (bM (bw ji (nQ (D6 T) hr (aa 0) (af (aa 1) (af (aa 2) ai))) cR (bc _)) (au (aJ (bW (af fT (af cR (af (aa 2) ai)))))) bL)
  (au (aJ (bW (af fT (af cR (af (aa 2) ai))))))))),?_⟩
 refine⟨a,f.dx,_,rfl,tt.o,rfl,?_⟩
 refine⟨a,f,es,q,row,g,rfl,tt,ok,hq,λhn H1 s1=>?_,λe he hrow p H1 s1 hp=>?_⟩
 ·refine⟨a,f.dx,_,rfl,(tt.mono s1).o,rfl,?_⟩
  refine⟨a,f,es,q,row,g,rfl,tt.mono s1,s1 _ _ hq,λno H2 s2=>?_,λp2 r2 H2 s2 np hp2 ⟨e,he,ee⟩=>?_⟩
  ·exact⟨sz rfl,λp3 H3 g3=>kn no p3 H3 (s1.trans (s2.trans g3.sm)) g3.at_⟩
  ·exact⟨sz rfl,λp3 H3 g3=>km hn ⟨e,he,mz.mpr (by rw[ee]; simp)⟩ p3 H3 (s1.trans (s2.trans g3.sm)) g3.at_⟩
 ·refine⟨_,_,.inr (.of hp),aZ (j:=0) rfl,?_⟩
  refine⟨_,_,.inr (.of hp),aZ (j:=1) rfl,?_⟩
  exact⟨sz rfl,λp3 H3 g3=>ks e he hrow p3 H3 (s1.trans g3.sm) g3.at_⟩
theorem D5 (T:Txt K mg t):mL P w K mg base t.bf "look" 5 t.mD t.j4 ["self", "begun", "page"] [] (sM t) :=
 ⟨T.cF,T.mt_TableTongue_look,⟨_,T.G5,.nil⟩,B6 T⟩
theorem ye{α:Type}{l:List α}{i:Nat}{x:α}(h:l[i]? = some x):l.take (i+1)=l.take i++[x]:=by rw[List.take_add_one,h]; rfl
theorem rL : ∀ {kvs:List (List ao × V)} {i:Nat} {k:List ao} {v:V},(kvs.map λx=>x.1).Nodup->kvs[i]? = some (k,v)->aR kvs k=some v
 | [],_,_,_,_,h=>by simp at h
 | q :: r,0,k,v,_,h=>by
  simp at h
  subst h
  exact dw rfl
 | q :: r,i+1,k,v,nd,h=>by
  obtain⟨a,b⟩:=List.nodup_cons.mp nd
  have h:r[i]? = some (k,v):=by simpa using h
  have ne : ¬ q.1=k:=λz=>a (List.mem_map.mpr ⟨(k,v),List.mem_of_getElem? h,z.symm⟩)
  rw[dy ne]
  exact rL b h
def yL(t:Adr):Sp:=λvs H Q _=>∃ (a:Addr) (f:Ft) (es:List (Int × List Int)),vs=[.ref a]/\Tt t H a f es 1000/\Es es /\
 ∀ p (ss:List rA) H',ag H H'->H' p=some (.lst (ss.map λs=>V.ref s.1))->(∀ s∈ss,Hn H' s)->(ss.map λs=>s.2.2).Nodup->(∀ g b,(g,b)∈(ss.map λs=>s.2.2) ↔ g=0/\mO (es.map λe=>e.2) b)->Q (.ref p) H'
theorem D3 (T:Txt K mg t):jB P w K mg base t.bf "spots" 2 t.ri t.pQ ["self"] (yL t):=by
 refine⟨T.cF,T.Ck,T.G7,T.Hx.okQ zz (λvs H Q E h=>by obtain⟨o,f,es,rfl,_⟩:=h; rfl) λcdv A outer s H vs Q E hr h=>?_⟩
 obtain⟨a,f,es,rfl,tt,ok,k⟩:=h
 have hu:=hr.units
 obtain⟨o,⟨k1,k2,k3,a1,a2,a3,l1,l2,l3,kv⟩,ne⟩:=id tt
 refine⟨_,(au (aJ (nI (eJ rfl (bZ.of (fns:=(am gT).names) (N:=["self"]) (Nc:=["row", "rest"]) (nv:=2) (caps:=[]) rfl rfl (by decide +kernel)) (Ag (gY (K:=K) rfl (aa 0))) (λ_ _ _ _=>(cZ (K:=K) rfl (n:=2) rfl (bq (aD (i:=0) (show List.Nodup (["row", "rest"]:List Str) by decide +kernel) rfl (Or.inl rfl) (Or.inr rfl)) (bq (aD (i:=1) (show List.Nodup (["row", "rest"]:List Str) by decide +kernel) rfl (Or.inl rfl) (Or.inr rfl)) cY)))) (λ_ _ _ _=>(kX (k9 (K:=K) rfl (aa 1)))) (λ_ _ _ _=>(bW (af av (af (c9 (jp (K:=K) rfl) T.n_list PyProof.Rows.boot_list (af (aa 0) ai)) ai)))))))),?_⟩
 refine⟨f.d3,.dT k3,(λob v z=>by rw[a3]at z; cases z),?_⟩
 refine⟨a,_,f.dx,_,_,rfl,o,T.cF,T.lI,rfl,?_⟩
 refine⟨f.d3,k3,rfl,a3,λob=>?_⟩
 obtain⟨H1,e1⟩ : ∃ H1,H1=upd H f.d3 (.frz ob (.dT k3)):=⟨_,rfl⟩
 have d1:H1 f.d3=some (.frz ob (.dT k3)):=by rw[e1,aN]
 have b1 : ∀ c u,c≠f.d3->H c=some u->H1 c=some u:=λc u n e=>by rw[e1,ak n]; exact e
 have f1 : ∀ c,H1 c=none->H c=none:=λc e=>by
  by_cases n:c=f.d3
  ·rw[n,d1]at e; cases e
  ·rw[e1,ak n]at e; exact e
 rw[<- e1]
 clear e1
 have ent : ∀ {i:Nat} {ky:List ao} {v:V},k3[i]? = some (ky,v)->∃ rr q r2,ky=bp rr/\v=.ref q/\H q=some (.tup (r2.map V.int))/\∃ e'∈es,e'.2=rr++r2:=λ{i ky v} h=>by
  obtain⟨rr,er,q,r2,x,y,z⟩:=kv.e ky (List.mem_map.mpr ⟨_,List.mem_of_getElem? h,rfl⟩)
  have:=rL kv.nd h
  rw[er,x]at this
  exact⟨rr,q,r2,er,(Option.some.inj this).symm,y,z⟩
 refine FI (K:=K) (λi ys H'=>ag H1 H'/\i<=k3.length/\∃ us:List rA,ys=us.map (λs=>V.ref s.1)/\us.length<=i/\(∀ s∈us,s.2.2.1=0/\H' s.1=some (.tup [.int s.2.2.1,.ref s.2.1])/\H' s.2.1=some (.lst (s.2.2.2.map V.int))/\H1 s.2.1=none)/\(us.map λs=>bp s.2.2.2).Sublist ((k3.take i).map λx=>x.1)/\(∀ s∈us,∃ e∈es,∃ m,m < e.2.length/\s.2.2.2=e.2.take m)/\∀ (j:Nat) rr,j < i->(∃ v,k3[j]? = some (bp rr,v))->(∃ e∈es,∃ m,m < e.2.length/\rr=e.2.take m)->∃ s∈us,s.2.2.2=rr) ⟨ag.refl _,Nat.zero_le _,[],rfl,Nat.le_refl _,(λs h=>nomatch h),.slnil,(λs h=>nomatch h),λj rr h=>absurd h (Nat.not_lt_zero _)⟩ (λi ys H' hi z=>⟨z.1 _ _ d1,?_⟩) (ce (by omega)) (λi ky b v ys H2 H3 N hkv hb z s23 hN=>?_) λys H2 p H3 z g=>?_
 ·obtain⟨_,_,us,rfl,lu,_⟩:=z
  rw[List.length_map]
  exact lu
 ·obtain⟨s2,_,us,rfl,lu,it,sub,al,cov⟩:=z
  have hi:i < k3.length:=(List.getElem?_eq_some_iff.mp hkv).1
  obtain⟨rr,q,r2,rfl,rfl,hq,e',he',ee⟩:=ent hkv
  have q3:=s23 _ _ (s2 _ _ (b1 _ _ (aw hq a3 (by intro z; cases z)) hq))
  refine⟨_,.inr (.of q3),?_⟩
  have tk:(k3.take (i+1)).map (λx=>x.1)=(k3.take i).map (λx=>x.1)++[bp rr]:=by rw[ye hkv,List.map_append]; rfl
  refine aF (λz=>?_) (λz=>?_)
  ·have r0:r2≠[]:=λe=>by rw[e]at z; cases z
   have b3:H3 b=some (.tup (rr.map V.int)):=by rw[jY]; exact s23 _ _ hb
   refine⟨_,.inr (.of b3),λl4 H4 g4=>?_⟩
   refine⟨sz rfl,λp5 H5 g5=>hN _ _ ⟨s2.trans (s23.trans (g4.sm.trans g5.sm)),hi,us++[(p5,l4,0,rr)],by rw[List.map_append]; rfl,by rw[List.length_append]; exact Nat.succ_le_succ lu,λs hs=>?_,?_,λs hs=>?_,λj rr' hj hv hp=>?_⟩⟩
   ·rcases List.mem_append.mp hs with hs | hs
    ·obtain⟨c0,c1,c2,c3⟩:=it s hs
     have sm:=s23.trans (g4.sm.trans g5.sm)
     exact⟨c0,sm _ _ c1,sm _ _ c2,c3⟩
    ·rw[List.mem_singleton.mp hs]
     exact⟨rfl,g5.at_,g5.sm _ _ g4.at_,(s2.trans s23).free g4.nw⟩
   ·rw[tk,List.map_append]
    exact sub.append (List.Sublist.refl _)
   ·rcases List.mem_append.mp hs with hs | hs
    ·exact al s hs
    ·rw[List.mem_singleton.mp hs]
     refine⟨e',he',rr.length,?_,?_⟩
     ·rw[ee,List.length_append]
      have:=List.length_pos_iff.mpr r0
      omega
     ·rw[ee]
      simp
   ·by_cases c:j < i
    ·obtain⟨s,hs,z⟩:=cov j rr' c hv hp
     exact⟨s,List.mem_append_left _ hs,z⟩
    ·obtain rfl:j=i:=by omega
     obtain⟨v,hv⟩:=hv
     rw[hkv]at hv
     injection hv with hv
     injection hv with hv _
     exact⟨_,List.mem_append_right _ (List.mem_singleton.mpr rfl),je hv⟩
  ·have r0:r2=[]:=by
    cases r2 with
    | nil=>rfl
    | cons _ _=>exact absurd rfl z
   refine hN _ _ ⟨s2.trans s23,hi,us,rfl,by omega,λs hs=>?_,by rw[tk]; exact sub.trans (List.sublist_append_left _ _),al,λj rr' hj hv hp=>?_⟩
   ·obtain⟨c0,c1,c2,c3⟩:=it s hs
    exact⟨c0,s23 _ _ c1,s23 _ _ c2,c3⟩
   ·by_cases c:j < i
    ·exact cov j rr' c hv hp
    ·obtain rfl:j=i:=by omega
     obtain⟨v,hv⟩:=hv
     rw[hkv]at hv
     injection hv with hv
     injection hv with hv _
     obtain rfl:=je hv
     obtain⟨e2,he2,m,hm,er⟩:=hp
     rw[r0,List.append_nil]at ee
     have lr:rr.length=m:=by rw[er,List.length_take]; omega
     have bg:bd e'.2 e2.2=true:=mz.mpr (by rw[ee,lr]; exact er.symm)
     by_cases c2:e'=e2
     ·rw[<- c2,ee]at hm
      omega
     ·have:=(ok.two he' he2).resolve_left c2
      unfold de at this
      rw[bg]at this
      simp at this
 ·obtain⟨s2,_,us,rfl,lu,it,sub,al,cov⟩:=z
  rw[List.take_length]at sub
  have np:p≠f.d3:=(br (s2 _ _ d1) g.nw).symm
  refine⟨⟨ob,g.sm _ _ (s2 _ _ d1)⟩,k p us _ (λc u e=>?_) (by rw[ak np]; exact g.at_) (λs hs=>?_) ?_ (λgg b=>?_)⟩
  ·by_cases n:c=f.d3
   ·subst n
    rw[aN,<- a3,e]
   ·rw[ak n]
    exact g.sm _ _ (s2 _ _ (b1 c u n e))
  ·obtain⟨c0,c1,c2,c3⟩:=it s hs
   refine⟨?_,?_⟩
   ·rw[ak (aw (g.sm _ _ c1) (g.sm _ _ (s2 _ _ d1)) (by intro z; cases z))]
    exact g.sm _ _ c1
   ·rw[ak (aw (g.sm _ _ c2) (g.sm _ _ (s2 _ _ d1)) (by intro z; cases z))]
    exact g.sm _ _ c2
  ·have nd:=sub.nodup kv.nd
   have nd:=List.pairwise_map.mp nd
   exact List.pairwise_map.mpr (nd.imp λh z=>h (by rw[z]))
  ·rw[List.mem_map]
   constructor
   ·rintro⟨s,hs,z⟩
    obtain⟨e,he,m,hm,es'⟩:=al s hs
    have z1:=congrArg Prod.fst z
    have z2:=congrArg Prod.snd z
    dsimp only at z1 z2
    exact⟨by rw[<- z1]; exact (it s hs).1,e.2,List.mem_map.mpr ⟨e,he,rfl⟩,m,hm,by rw[<- z2]; exact es'⟩
   ·rintro⟨pg,x,hx,m,hm,rfl⟩
    obtain⟨e,he,rfl⟩:=List.mem_map.mp hx
    obtain⟨q,r2,v,_⟩:=kv.c e he m (Nat.le_of_lt hm)
    obtain⟨j,hj⟩ : ∃ j:Nat,k3[j]? = some (bp (e.2.take m),V.ref q):=by
     unfold aR at v
     obtain⟨y,hy,ey⟩:=Option.map_eq_some_iff.mp v
     obtain⟨j,hj⟩:=List.getElem?_of_mem (List.mem_of_find?_eq_some hy)
     have:y.1=bp (e.2.take m):=by simpa using List.find?_some hy
     exact⟨j,by rw[hj,<- this,<- ey]⟩
    obtain⟨s,hs,z⟩:=cov j (e.2.take m) (List.getElem?_eq_some_iff.mp hj).1 ⟨_,hj⟩ ⟨e,he,m,hm,rfl⟩
    exact⟨s,hs,by rw[pg,<- (it s hs).1,<- z]⟩
end
end My
namespace My
open PySem L2
def wT(H:Hp)(k:ae)(v:V):Prop:=∃ a l,v=.ref a/\H a=some (.tup [.int k.1,.ref l])/\H l=some (.lst (k.2.map V.int))
class Tb where
 rws:List (List Int)
 l6 : ∀ r∈rws,r.length<=6
 l64:rws.length<=64
structure S0 [B:Tb] (sq:List ae):Prop where
 nd:sq.Nodup
 mem : ∀ k,k∈sq ↔ k.1=0/\mO B.rws k.2
theorem S0.len[B:Tb]{sq:List ae}(h:S0 sq):sq.length<=384:=by
 have all : ∀ rs:List (List Int),(∀ r∈rs,r.length<=6)->(rs.flatMap λr=>(List.range r.length).map λk=>((0:Int),r.take k)).length<=6*rs.length:=by
  intro rs
  induction rs with
  | nil=>intro _; exact Nat.le_refl _
  | cons r rs ih =>
   intro h
   rw[List.flatMap_cons,List.length_append,List.length_map,List.length_range,List.length_cons]
   have:=h r (List.mem_cons_self ..)
   have:=ih λx hx=>h x (List.mem_cons_of_mem _ hx)
   omega
 have l1:=List.Nodup.length_le_of_subset h.nd (l₂:=B.rws.flatMap λr=>(List.range r.length).map λk=>((0:Int),r.take k)) λk hk=>by
  obtain⟨h0,r,hr,m,hm,e⟩:=(h.mem k).mp hk
  exact List.mem_flatMap.mpr ⟨r,hr,List.mem_map.mpr ⟨m,List.mem_range.mpr hm,Prod.ext h0.symm e.symm⟩⟩
 have l2:=all B.rws B.l6
 have l3:=B.l64
 omega
section
variable {P:Program}{w:World}{K:PySem.W.Frag}{mg:Str->Option Value}{base:Heap}{t:Adr}
def yH(n:Int):Sp:=λvs H Q _=>∃ o,vs=[o]/\Q (.int n) H
theorem D2 (T:Txt K mg t):jB P w K mg base t.bf "unit" 1 t.rh t.pP ["self"] (yH 1):=by
 refine⟨T.cF,T.mt_TableTongue_unit,T.G4,T.Hu.okQ zy (λvs H Q E h=>by obtain⟨o,rfl,_⟩:=h; rfl) λcdv A outer s H vs Q E hr h=>?_⟩
 obtain⟨o,rfl,k⟩:=h
 exact⟨_,(au (aJ av)),k⟩
def TO[B:Tb](t:Adr)(H:Hp)(o:Addr):Prop:=∃ f es,Tt t H o f es 1000/\Es es/\(es.map λe=>e.2)=B.rws
theorem TO.same[B:Tb]{H H':Hp}{o:Addr}(s:ag H H')(h:TO t H o):TO t H' o:=by
 obtain⟨f,es,h1,h2,h3⟩:=h
 exact⟨f,es,h1.mono s,h2,h3⟩
def ie[B:Tb](r:List Int):Prop:=r∈B.rws
def jC[B:Tb](r:List Int):Prop:=∃ x∈B.rws,r <+: x
open Classical in
noncomputable def nx[B:Tb](k:ae)(u:List Int):Option ae:=if ie (k.2++u) then some (0,[]) else if jC (k.2++u) then some (0,k.2++u) else none
def Gd(k:ae):Prop:=k.1=0/\k.2.length<=10
theorem Ca[B:Tb]{k k':ae}{u:List Int}(h:nx k u=some k'):Gd k':=by
 unfold nx at h
 split at h
 ·cases h; exact⟨rfl,Nat.zero_le _⟩
 ·split at h
  ·rename_i c
   cases h
   obtain⟨x,hx,hp⟩:=c
   exact⟨rfl,Nat.le_trans hp.length_le (Nat.le_trans (B.l6 x hx) (by decide))⟩
  ·cases h
def yO(K:PySem.W.Frag)(t:Adr):Sp:=λvs H Q _=>∃ (B:Tb) (o p u:Addr) (k:ae) (us:List Int),vs=[.ref o,.ref p,.ref u]/\TO t H o/\bU H k p/\H u=some (.tup (us.map V.int))/\Gd k/\us.length<=100 /\
 (nx k us=none->∀ H',ag H H'->Q .non H')/\∀ k' q H',nx k us=some k'->ag H H'->bU H' k' q->Q (.ref q) H'
theorem DF (T:Txt K mg t):bj P w K mg base "spot_behind" 6 t.qK t.ph ["tongue", "spot", "unit"] (yO K t):=by
 refine⟨T.Er,T.xn.kp,T.GI,T.xn.okQ ni (λvs H Q E h=>by obtain⟨B,o,p,u,k,us,rfl,_⟩:=h; rfl) λcdv A outer s H vs Q E hr h=>?_⟩
 obtain⟨B,o,p,u,k,us,rfl,ho,⟨b,hp,hb⟩,hus,⟨gd1,gd2⟩,hl,kn,ks⟩:=h
 have hu:=hr.units
 obtain⟨kp,kb⟩:=k
 obtain rfl:kp=0:=gd1
 refine⟨_,(ap (aE (i:=3) ni.nd rfl (.inl rfl) (bO (ES (K:=K) rfl) (aK (aL (K:=K) rfl) (aa 1) av (λ_ _=>rfl)) (aa 2)))
  (ap (aE (i:=4) ni.nd rfl (.inl rfl) (nQ (D5 T) hr (aa 0) (af (c9 (jp (K:=K) rfl) T.n_list PyProof.Rows.boot_list (af (aa 3) ai)) (af (aK (aL (K:=K) rfl) (aa 1) av (λ_ _=>rfl)) ai))))
  (ap (bM (bw (eT (K:=K) rfl hu) (aK (aL (K:=K) rfl) (aa 4) av (λ_ _=>rfl)) fT (bc _)) (au (aJ cR)) bL)
  (au (aJ (bW (af (aK (aL (K:=K) rfl) (aa 4) av (λ_ _=>rfl)) (af (kZ (bw (eT (K:=K) rfl hu) (aK (aL (K:=K) rfl) (aa 4) av (λ_ _=>rfl)) fT (bc _)) (bW ai) (aa 3)) ai)))))))),?_⟩
 refine⟨_,.ref b,.inr (.of hp),aZ (j:=1) rfl,?_⟩
 refine⟨b,u,_,_,rfl,rfl,hb,hus,ce (by simp at gd2 ⊢; omega),λbg H1 s1 hbg=>?_⟩
 rw[<- List.map_append]at hbg
 have hbg:H1 bg=some (.tup ((kb++us).map V.int)):=hbg
 have gd2:kb.length<=10:=gd2
 obtain⟨f,es,tt,ok,er⟩:=ho
 refine bK ?_
 dsimp only
 refine kN (λσ' H'=>∃ (pf:Addr) (x:Str) (n:V),σ'=[some (.ref o),some (.ref p),some (.ref u),some (.ref bg),some (.ref pf)]/\ag H1 H'/\H' pf=some (.tup [.str x,n,.int 0])/\((x = "sign"/\ie (kb++us))\/(x = "none"/\¬ jC (kb++us))\/(x = "more"/\jC (kb++us)/\¬ ie (kb++us)))) (λnx hn=>?_) ?_
 ·refine⟨o,f.dx,_,rfl,(tt.mono s1).o,rfl,?_⟩
  refine⟨_,.inr (.of hbg),λlb H2 g2=>?_⟩
  refine⟨_,.int 0,.inr (.of (g2.sm _ _ (s1 _ _ hp))),aZ (j:=0) rfl,?_⟩
  have pre : ∀ e:Int × List Int,bd (kb++us) e.2=true ↔ kb++us <+: e.2:=λe=>mz.trans ⟨λz=>List.prefix_iff_eq_take.mpr z.symm,λz=>(List.prefix_iff_eq_take.mp z).symm⟩
  refine⟨o,f,es,lb,kb++us,0,rfl,(tt.mono s1).mono g2.sm,ok,g2.at_,λe he hrow pf HC sC hpf=>hn _ _ ⟨pf, "sign",_,rfl,g2.sm.trans sC,hpf,.inl ⟨rfl,?_⟩⟩,λno pf HC sC hpf=>hn _ _ ⟨pf, "none",_,rfl,g2.sm.trans sC,hpf,.inr (.inl ⟨rfl,?_⟩)⟩,λn1 n2 pf HC sC hpf=>hn _ _ ⟨pf, "more",_,rfl,g2.sm.trans sC,hpf,.inr (.inr ⟨rfl,?_,?_⟩)⟩⟩
  ·show _∈B.rws
   rw[<- er]
   exact List.mem_map.mpr ⟨e,he,hrow⟩
  ·rintro⟨x,hx,hpx⟩
   rw[<- er]at hx
   obtain⟨e,he,rfl⟩:=List.mem_map.mp hx
   have:=no e he
   rw[(pre e).mpr hpx]at this
   cases this
  ·obtain⟨e,he,z⟩:=n2
   exact⟨e.2,by rw[<- er]; exact List.mem_map.mpr ⟨e,he,rfl⟩,(pre e).mp z⟩
  ·intro z
   have z:kb++us∈B.rws:=z
   rw[<- er]at z
   obtain⟨e,he,z⟩:=List.mem_map.mp z
   exact n1 e he z
 rintro σ' H2 ⟨pf,x,n,rfl,s2,hpf,hx⟩
 have hok:PyData.strOk x=true:=by
  rcases hx with ⟨z,_⟩ | ⟨z,_⟩ | ⟨z,_⟩ <;> rw[z] <;> decide +kernel
 refine⟨_,.str x,.inr (.of hpf),aZ (j:=0) rfl,?_⟩
 refine⟨_,_,bu.str x,bu.str _,by simp[SeqAt.shaped,PyData.canLay0,PyData.depth,hok],by decide +kernel,?_⟩
 have nb:ie (kb++us)->jC (kb++us):=λz=>⟨_,z,List.prefix_rfl⟩
 refine aF (λe=>?_) (λe=>?_)
 ·have ex:x = "none":=by simpa [PyData.eqv] using e
  refine kn ?_ _ (s1.trans s2)
  rcases hx with ⟨z,_⟩ | ⟨_,y⟩ | ⟨z,_⟩
  ·exact absurd (z.symm.trans ex) (by decide)
  ·unfold nx
   rw[if_neg (λz=>y (nb z)),if_neg y]
  ·exact absurd (z.symm.trans ex) (by decide)
 ·refine⟨_,.int 0,.inr (.of hpf),aZ (j:=2) rfl,?_⟩
  refine⟨_,.str x,.inr (.of hpf),aZ (j:=0) rfl,?_⟩
  refine⟨_,_,bu.str x,bu.str _,by simp[SeqAt.shaped,PyData.canLay0,PyData.depth,hok],by decide +kernel,?_⟩
  refine aF (λe2=>?_) (λe2=>?_)
  ·have ex:x = "sign":=by simpa [PyData.eqv] using e2
   have y:ie (kb++us):=by
    rcases hx with ⟨_,y⟩ | ⟨z,_⟩ | ⟨z,_⟩
    ·exact y
    ·exact absurd (z.symm.trans ex) (by decide)
    ·exact absurd (z.symm.trans ex) (by decide)
   refine⟨sz rfl,λq0 H3 g3=>?_⟩
   refine⟨sz rfl,λq1 H4 g4=>ks (0,[]) q1 H4 (by unfold nx; rw[if_pos y]) (s1.trans (s2.trans (g3.sm.trans g4.sm))) ⟨q0,g4.at_,g4.sm _ _ g3.at_⟩⟩
  ·have ex:x ≠ "sign":=λz=>e2 (by rw[z]; decide +kernel)
   have ex2:x ≠ "none":=λz=>e (by rw[z]; decide +kernel)
   obtain⟨y1,y2⟩:jC (kb++us)/\¬ ie (kb++us):=by
    rcases hx with ⟨z,_⟩ | ⟨z,_⟩ | ⟨_,y⟩
    ·exact absurd z ex
    ·exact absurd z ex2
    ·exact y
   refine⟨sz rfl,λq1 H4 g4=>ks (0,kb++us) q1 H4 (by unfold nx; rw[if_neg y2,if_pos y1]) (s1.trans (s2.trans g4.sm)) ⟨bg,g4.at_,g4.sm _ _ (s2 _ _ hbg)⟩⟩
end
end My
namespace My
open PySem L2
def dG(H:Hp)(k:ae)(v:V):Prop:=∃ p,v=.ref p/\bU H k p
def cO(H:Hp)(v:V)(ks:List ae):Prop:=∃ l vs,v=.ref l/\H l=some (.lst vs)/\Paired (dG H) ks vs
def fb(H:Hp)(d:Addr)(ly:List (ae × List ae)):Prop:=∃ kvs,DN H d kvs/\Paired (λ(x:ae × Addr × V) (y:ae × List ae)=>x.1=y.1/\cO H x.2.2 y.2) kvs ly
theorem dG.same{H H':Hp}(s:ag H H')(k:ae)(v:V)(h:dG H k v):dG H' k v:=by
 obtain⟨p,rfl,h⟩:=h
 exact⟨p,rfl,h.same s⟩
theorem cO.same{H H':Hp}(s:ag H H'){v:V}{ks:List ae}(h:cO H v ks):cO H' v ks:=by
 obtain⟨l,vs,rfl,h1,h2⟩:=h
 exact⟨l,vs,rfl,s _ _ h1,Paired.mapP h2 λk v=>dG.same s k v⟩
theorem fb.same{H H':Hp}(s:ag H H'){d:Addr}{ly:List (ae × List ae)}(h:fb H d ly):fb H' d ly:=by
 obtain⟨kvs,h1,h2⟩:=h
 exact⟨kvs,h1.same s,Paired.mapP h2 λx y z=>⟨z.1,z.2.same s⟩⟩
theorem pZ{H:Hp}{d:Addr}{kvs:List (ae × Addr × V)}(h:DN H d kvs) : ∃ φ,H d=some (.ext φ):=by
 obtain⟨⟨xs,ep,h,_⟩,_⟩:=h
 exact⟨_,h⟩
theorem C3{H H':Hp}{d:Addr}(e : ∃ φ,H d=some (.ext φ))(s : ∀ c,c≠d->H' c=H c){k:ae}{p:Addr}(h:bU H k p):bU H' k p:=by
 obtain⟨φ,e⟩:=e
 obtain⟨b,h1,h2⟩:=h
 refine⟨b,by rw[s _ (jT h1 e (by intro z; cases z))]; exact h1,by rw[s _ (jT h2 e (by intro z; cases z))]; exact h2⟩
theorem oj{H H':Hp}{d:Addr}(e : ∃ φ,H d=some (.ext φ))(s : ∀ c,c≠d->H' c=H c){v:V}{ks:List ae}(h:cO H v ks):cO H' v ks:=by
 obtain⟨l,vs,rfl,h1,h2⟩:=h
 obtain⟨φ,e'⟩:=id e
 refine⟨l,vs,rfl,by rw[s _ (jT h1 e' (by intro z; cases z))]; exact h1,Paired.mapP h2 λk v z=>?_⟩
 obtain⟨p,rfl,z⟩:=z
 exact⟨p,rfl,C3 e s z⟩
theorem nj{H H1 H':Hp}{d:Addr}(s0:ag H H1)(hd:H d=none)(s : ∀ c,c≠d->H' c=H1 c):ag H H':=λb o h=>by
 rw[s b (br h hd)]
 exact s0 _ _ h
def bn(ly:List (ae × List ae))(k:ae):Option (List ae):=(ly.find? λx=>decide (x.1=k)).map (·.2)
def eN(ly:List (ae × List ae))(k:ae)(l:List ae):List (ae × List ae):=if (bn ly k).isSome then ly.map (λx=>if x.1=k then (x.1,l) else x) else ly++[(k,l)]
noncomputable def fP[B:Tb](u:List Int)(ly:List (ae × List ae))(k:ae):List (ae × List ae):=match nx k u with
 | none=>ly
 | some g=>eN ly g ((bn ly g).getD []++[k])
noncomputable def beh[B:Tb](ks:List ae)(u:List Int):List (ae × List ae):=ks.foldl (fP u) []
theorem om{H:Hp}{kvs:List (ae × Addr × V)}{ly:List (ae × List ae)}(r:Paired (λ(x:ae × Addr × V) (y:ae × List ae)=>x.1=y.1/\cO H x.2.2 y.2) kvs ly)(k:ae):(bV kvs k=none/\bn ly k=none)\/∃ v l,bV kvs k=some v/\bn ly k=some l/\cO H v l:=by
 induction r with
 | nil=>exact .inl ⟨rfl,rfl⟩
 | @cons p q ps qs h t ih =>
  by_cases e:p.1=k
  ·have e':q.1=k:=h.1.symm.trans e
   exact .inr ⟨p.2.2,q.2,by simp[bV,List.find?_cons,e],by simp[bn,List.find?_cons,e'],h.2⟩
  ·have e' : ¬ q.1=k:=λz=>e (h.1.trans z)
   have a:bV (p :: ps) k=bV ps k:=by simp[bV,List.find?_cons,e]
   have b:bn (q :: qs) k=bn qs k:=by simp[bn,List.find?_cons,e']
   rw[a,b]
   exact ih
theorem uP{H H':Hp}{kvs:List (ae × Addr × V)}{ly:List (ae × List ae)}(r:Paired (λ(x:ae × Addr × V) (y:ae × List ae)=>x.1=y.1/\cO H x.2.2 y.2) kvs ly)(k:ae)(b:Addr){v:V}{l:List ae}(up : ∀ {v ks},cO H v ks->cO H' v ks)(hv:cO H' v l) :
 Paired (λ(x:ae × Addr × V) (y:ae × List ae)=>x.1=y.1/\cO H' x.2.2 y.2) (eM kvs k b v) (eN ly k l):=by
 have e:(bV kvs k).isSome=(bn ly k).isSome:=by
  rcases om r k with ⟨a,b⟩ | ⟨v,l,a,b,_⟩ <;> rw[a,b] <;> rfl
 unfold eM eN
 rw[e]
 split
 ·rename_i c
  clear e c
  induction r with
  | nil=>exact .nil
  | @cons p q ps qs h t ih =>
   rw[List.map_cons,List.map_cons]
   refine .cons ?_ ih
   by_cases e:p.1=k
   ·rw[if_pos e,if_pos (h.1.symm.trans e)]; exact⟨h.1,hv⟩
   ·rw[if_neg e,if_neg (λz=>e (h.1.trans z))]; exact⟨h.1,up h.2⟩
 ·exact Paired.snoc (Paired.mapP r λx y z=>⟨z.1,up z.2⟩) ⟨rfl,hv⟩
structure eB [B:Tb] (u:List Int) (ks:List ae) (ly:List (ae × List ae)):Prop where
 nd:(ly.map (·.1)).Nodup
 mem : ∀ g l,(g,l)∈ly->l≠[]/\l.Nodup/\l.length<=ks.length/\∀ k,k∈l ↔ k∈ks/\nx k u=some g
 all : ∀ k g,k∈ks->nx k u=some g->∃ l,(g,l)∈ly
 len:ly.length<=ks.length
theorem jg{ly:List (ae × List ae)}{k:ae}{l:List ae}(h:bn ly k=some l):(k,l)∈ly:=by
 unfold bn at h
 obtain⟨x,h1,h2⟩:=Option.map_eq_some_iff.mp h
 have e:x.1=k:=by simpa using List.find?_some h1
 rw[<- e,<- h2]
 exact List.mem_of_find?_eq_some h1
theorem vD{ly:List (ae × List ae)}{k:ae}(h:bn ly k=none) : ∀ l,(k,l)∉ly:=by
 unfold bn at h
 rw[Option.map_eq_none_iff,List.find?_eq_none]at h
 intro l hl
 simpa using h _ hl
theorem eB.step[B:Tb]{u:List Int}{ks:List ae}{ly:List (ae × List ae)}(c:eB u ks ly){k:ae}(hk:k∉ks):eB u (ks++[k]) (fP u ly k):=by
 unfold fP
 cases hn:nx k u with
 | none =>
  refine⟨c.nd,λg l h=>?_,λk' g h1 h2=>?_,by have:=c.len; simp; omega⟩
  ·obtain⟨a1,a2,a3,a4⟩:=c.mem g l h
   refine⟨a1,a2,by simp; omega,λk'=>?_⟩
   rw[a4,List.mem_append,List.mem_singleton]
   constructor
   ·rintro⟨x,y⟩; exact⟨.inl x,y⟩
   ·rintro⟨x | x,y⟩
    ·exact⟨x,y⟩
    ·rw[x,hn]at y; cases y
  ·rcases List.mem_append.mp h1 with z | z
   ·exact c.all k' g z h2
   ·rw[List.mem_singleton.mp z,hn]at h2; cases h2
 | some g0 =>
  show eB u (ks++[k]) (eN ly g0 ((bn ly g0).getD []++[k]))
  cases hg:bn ly g0 with
  | none =>
   have no:=vD hg
   have e:eN ly g0 ((none:Option (List ae)).getD []++[k])=ly++[(g0,[k])]:=by unfold eN; rw[hg]; rfl
   rw[e]
   refine⟨?_,λg l h=>?_,λk' g h1 h2=>?_,by have:=c.len; simp; omega⟩
   ·rw[List.map_append]
    refine List.nodup_append.mpr ⟨c.nd,by simp,λa ha b hb=>?_⟩
    rintro rfl
    obtain⟨x,hx,rfl⟩:=List.mem_map.mp ha
    have:x.1=g0:=by simpa using hb
    exact no x.2 (by rw[<- this]; exact hx)
   ·rcases List.mem_append.mp h with z | z
    ·obtain⟨a1,a2,a3,a4⟩:=c.mem g l z
     refine⟨a1,a2,by simp; omega,λk'=>?_⟩
     rw[a4,List.mem_append,List.mem_singleton]
     constructor
     ·rintro⟨x,y⟩; exact⟨.inl x,y⟩
     ·rintro⟨x | x,y⟩
      ·exact⟨x,y⟩
      ·rw[x,hn]at y; cases y; exact absurd z (no l)
    ·have z':=List.mem_singleton.mp z
     injection z' with z1 z2
     subst z1 z2
     refine⟨by simp,by simp,by simp,λk'=>?_⟩
     rw[List.mem_append,List.mem_singleton]
     constructor
     ·rintro rfl; exact⟨.inr rfl,hn⟩
     ·rintro⟨x | x,y⟩
      ·obtain⟨l,hl⟩:=c.all k' _ x y
       exact absurd hl (no l)
      ·exact x
   ·rcases List.mem_append.mp h1 with z | z
    ·obtain⟨l,hl⟩:=c.all k' g z h2
     exact⟨l,List.mem_append_left _ hl⟩
    ·rw[List.mem_singleton.mp z,hn]at h2
     cases h2
     exact⟨[k],List.mem_append_right _ (List.mem_singleton.mpr rfl)⟩
  | some l0 =>
   have yes:=jg hg
   have e:eN ly g0 ((some l0).getD []++[k])=ly.map λx=>if x.1=g0 then (x.1,l0++[k]) else x:=by unfold eN; rw[hg]; rfl
   rw[e]
   obtain⟨b1,b2,b3,b4⟩:=c.mem g0 l0 yes
   refine⟨?_,λg l h=>?_,λk' g h1 h2=>?_,by have:=c.len; simp; omega⟩
   ·rw[List.map_map]
    have:((λx:ae × List ae=>x.1) ∘ λx:ae × List ae=>if x.1=g0 then (x.1,l0++[k]) else x)=λx=>x.1:=by
     funext x
     simp only [Function.comp]
     split <;> rfl
    rw[this]
    exact c.nd
   ·obtain⟨x,hx,ex⟩:=List.mem_map.mp h
    by_cases e1:x.1=g0
    ·rw[if_pos e1]at ex
     injection ex with z1 z2
     subst z1 z2
     rw[e1]at *
     refine⟨by simp,?_,by simp; omega,λk'=>?_⟩
     ·refine List.nodup_append.mpr ⟨b2,by simp,λa ha b hb=>?_⟩
      rintro rfl
      exact hk ((List.mem_singleton.mp hb) ▸ ((b4 a).mp ha).1)
     ·rw[List.mem_append,List.mem_singleton,List.mem_append,List.mem_singleton,b4]
      constructor
      ·rintro (⟨x,y⟩ | rfl)
       ·exact⟨.inl x,y⟩
       ·exact⟨.inr rfl,hn⟩
      ·rintro⟨x | x,y⟩
       ·exact .inl ⟨x,y⟩
       ·exact .inr x
    ·rw[if_neg e1]at ex
     subst ex
     obtain⟨a1,a2,a3,a4⟩:=c.mem g l hx
     refine⟨a1,a2,by simp; omega,λk'=>?_⟩
     rw[a4,List.mem_append,List.mem_singleton]
     constructor
     ·rintro⟨x,y⟩; exact⟨.inl x,y⟩
     ·rintro⟨x | x,y⟩
      ·exact⟨x,y⟩
      ·rw[x,hn]at y; cases y; exact absurd rfl e1
   ·rcases List.mem_append.mp h1 with z | z
    ·obtain⟨l,hl⟩:=c.all k' g z h2
     by_cases e1:g=g0
     ·exact⟨_,List.mem_map.mpr ⟨_,hl,by rw[if_pos e1]⟩⟩
     ·exact⟨l,List.mem_map.mpr ⟨_,hl,by rw[if_neg e1]⟩⟩
    ·rw[List.mem_singleton.mp z,hn]at h2
     cases h2
     exact⟨_,List.mem_map.mpr ⟨_,yes,by rw[if_pos rfl]⟩⟩
theorem eB.nil[B:Tb](u:List Int):eB u [] []:=⟨List.nodup_nil,λ_ _ h=>(nomatch h),λ_ _ h=>(nomatch h),Nat.le_refl _⟩
theorem wE[B:Tb]{u:List Int} : ∀ (ks ks1:List ae) (ly:List (ae × List ae)),eB u ks1 ly->(ks1++ks).Nodup->eB u (ks1++ks) (ks.foldl (fP u) ly)
 | [],ks1,ly,c,_=>by rw[List.append_nil]; exact c
 | k :: ks,ks1,ly,c,nd=>by
  have hk:k∉ks1:=λz=>(List.nodup_append.mp nd).2.2 k z k (List.mem_cons_self ..) rfl
  have:=wE ks (ks1++[k]) (fP u ly k) (c.step hk) (by rw[List.append_assoc]; exact nd)
  rw[List.append_assoc]at this
  exact this
theorem jr[B:Tb]{u:List Int}{ks:List ae}(nd:ks.Nodup):eB u ks (beh ks u):=wE ks [] [] (eB.nil u) nd
end My
namespace My
open PySem L2
section
variable {P:Program}{w:World}{K:PySem.W.Frag}{mg:Str->Option Value}{base:Heap}{t:Adr}
theorem uQ{H:Hp}{kvs:List (ae × Addr × V)}{ly:List (ae × List ae)}(r:Paired (λ(x:ae × Addr × V) (y:ae × List ae)=>x.1=y.1/\cO H x.2.2 y.2) kvs ly):kvs.map (·.1)=ly.map (·.1):=by
 induction r with
 | nil=>rfl
 | cons h t ih=>rw[List.map_cons,List.map_cons,ih,h.1]
theorem Gw[B:Tb]{ks:List ae}{u:List Int}(nd:ks.Nodup):(beh ks u).length<=ks.length:=(jr nd).len
theorem Gx[B:Tb]{ks:List ae}{u:List Int}(nd:ks.Nodup)(g:ae):((bn (beh ks u) g).getD []).length<=ks.length:=by
 cases h:bn (beh ks u) g with
 | none=>exact Nat.zero_le _
 | some l=>exact ((jr nd).mem g l (jg h)).2.2.1
def cv(H H':Hp):Hp:=λb=>match H b with
 | some (.lst _)=>none
 | _=>H' b
theorem lT(H H':Hp):ag (cv H H') H':=λb o h=>by
 unfold cv at h
 split at h
 ·cases h
 ·exact h
theorem j1{H H':Hp}{b:Addr}{o:HO}(h:H' b=some o)(n : ∀ xs,H b≠some (.lst xs)):cv H H' b=some o:=by
 unfold cv
 split
 ·rename_i xs e
  exact absurd e (n xs)
 ·exact h
theorem oF{H H1 H2:Hp}(s:ag H1 H2):ag (cv H H1) (cv H H2):=λb o h=>by
 refine j1 (s _ _ (lT _ _ _ _ h)) λxs e=>?_
 unfold cv at h
 rw[e]at h
 cases h
theorem vz{H H1 H2:Hp}{d:Addr}(s : ∀ c,c≠d->H2 c=H1 c) : ∀ c,c≠d->cv H H2 c=cv H H1 c:=λc hc=>by
 unfold cv
 rw[s c hc]
theorem ot{H H':Hp}(s:ag H H'){k:ae}{p:Addr}(h:bU H' k p):bU (cv H H') k p:=by
 obtain⟨b,h1,h2⟩:=h
 refine⟨b,j1 h1 λxs e=>?_,j1 h2 λxs e=>?_⟩
 ·rw[s _ _ e]at h1; cases h1
 ·rw[s _ _ e]at h2; cases h2
theorem pY{H H':Hp}(s:ag H H'){d:Addr}(hd:H d=none){kvs:List (ae × Addr × V)}(h:DN H' d kvs):DN (cv H H') d kvs:=by
 obtain⟨⟨xs,ep,h1,h2⟩,ky,nd,le⟩:=h
 exact⟨⟨xs,ep,j1 h1 (λxs e=>by rw[hd]at e; cases e),h2⟩,λx hx=>ot s (ky x hx),nd,le⟩
def yK(K:PySem.W.Frag)(t:Adr):Sp:=λvs H Q _=>∃ (B:Tb) (o d0 ua:Addr) (ly0:List (ae × List ae)) (us:List Int),vs=[.ref o,.ref d0,.ref ua]/\TO t H o/\fb H d0 ly0/\(∀ x∈ly0,Gd x.1)/\H ua=some (.tup (us.map V.int))/\us.length<=100/\ly0.length<=1000 /\
 ∀ d H',ag H H'->fb (cv H H') d (beh (ly0.map (·.1)) us)->Q (.ref d) H'
theorem DD (T:Txt K mg t):bj P w K mg base "spots_behind" 7 t.qI t.o9 ["tongue", "spots", "unit"] (yK K t):=by
 refine⟨T.Eo,T.xk.kp,T.GG,T.xk.okQ kO (λvs H Q E h=>by obtain⟨B,o,d0,ua,ly0,us,rfl,_⟩:=h; rfl) λcdv A outer s H vs Q E hr h=>?_⟩
 obtain⟨B,o,d0,ua,ly0,us,rfl,ho,⟨kv0,dn0,pr0⟩,hgd,hua,hul,hll,kq⟩:=h
 have hu:=hr.units
 have ek:=uQ pr0
 have hl0:=Paired.length pr0
 rw[<- ek]at kq
 obtain⟨ks0,eks⟩ : ∃ ks0,ks0=kv0.map (·.1):=⟨_,rfl⟩
 rw[<- eks]at kq ek
 have nd0:ks0.Nodup:=by rw[eks]; exact dn0.nd
 have lk0:ks0.length=kv0.length:=by rw[eks,List.length_map]
 have gd0 : ∀ k∈ks0,Gd k:=λk hk=>by
  rw[ek]at hk
  obtain⟨x,hx,rfl⟩:=List.mem_map.mp hk
  exact hgd x hx
 refine⟨_,(ap (aE (i:=3) kO.nd rfl (.inl rfl) tW)
  (ap (bN PassesOwn.never rfl (Ah (aa 1)) (aD (i:=4) kO.nd rfl (.inl rfl)) (ap (aE (i:=5) kO.nd rfl (.inl rfl) (aX (DF T) hr (af (aa 0) (af (aa 4) (af (aa 2) ai)))))
  (au (bM (bw lY (aa 5) cR (bc _)) (au (tX hu (aa 3) (aa 5) (bO (cL (K:=K) rfl) (Ax hu (aa 3) (aa 5) (cf ai)) (cf (af (aa 4) ai))))) bL))))
  (au (aJ (aa 3))))),?_⟩
 intro d H1 g1
 have hd:=g1.nw
 refine bK ?_
 refine⟨d0,kv0,rfl,dn0.same g1.sm,λo0 ho0=>?_⟩
 have ho0H:H d0=some o0:=by
  obtain⟨φ,e⟩:=pZ dn0
  rw[g1.sm _ _ e]at ho0
  rw[e,<- ho0]
 refine Fb (λi σ H'=>ag H H'/\fb (cv H H') d (beh (ks0.take i) us)/\∃ v4 v5,σ=[some (.ref o),some (.ref d0),some (.ref ua),some (.ref d),v4,v5]) ?_ (λi σ H' _ z=>z.1 _ _ ho0H) ?_ ?_
 ·exact⟨g1.sm,⟨[],pY g1.sm hd (DN.new g1),.nil⟩,_,_,rfl⟩
 ·rintro i k b v σ H2 hi ⟨s2,ly2,v4,v5,rfl⟩
  have hil:i < kv0.length:=(List.getElem?_eq_some_iff.mp hi).1
  have hki:ks0[i]? = some k:=by rw[eks,List.getElem?_map,hi]; rfl
  have et:ks0.take (i+1)=ks0.take i++[k]:=by rw[List.take_add_one,hki]; rfl
  have eb:beh (ks0.take (i+1)) us=fP us (beh (ks0.take i) us) k:=by
   unfold beh
   rw[et,List.foldl_append]
   rfl
  have ndt:(ks0.take i).Nodup:=nd0.sublist (List.take_sublist _ _)
  have ky:=dn0.key _ (List.mem_of_getElem? hi)
  refine bK ?_
  refine⟨B,o,b,ua,k,us,rfl,ho.same s2,ky.same s2,s2 _ _ hua,gd0 k (List.mem_of_getElem? hki),hul,λen H3 s3=>?_,λg q H3 en s3 kg=>?_⟩
  ·refine bK ?_
   refine⟨s2.trans s3,?_,_,_,rfl⟩
   rw[eb]
   unfold fP
   rw[en]
   exact ly2.same (oF s3)
  ·refine bK ?_
   obtain⟨kv3,dn3',pr3⟩:=ly2.same (oF s3)
   have dn3:=dn3'.same (lT _ _)
   have l3:=Paired.length pr3
   have lb:=Gw (u:=us) ndt
   rw[List.length_take]at lb
   refine⟨d,kv3,rfl,dn3,?_⟩
   refine⟨sz rfl,λl0 H4 g4=>?_⟩
   refine⟨q,kv3,g,rfl,dn3.same g4.sm,kg.same g4.sm,?_⟩
   obtain⟨l,vs,el,hl,pl⟩:cO H4 ((bV kv3 g).getD (.ref l0)) ((bn (beh (ks0.take i) us) g).getD []):=by
    rcases om pr3 g with ⟨a,b⟩ | ⟨v,l,a,b,c⟩
    ·rw[a,b]; exact⟨l0,[],rfl,g4.at_,.nil⟩
    ·rw[a,b]; exact (c.same (lT _ _)).same g4.sm
   rw[el]
   refine⟨sz rfl,λl1 H5 g5=>?_⟩
   have lv:=Paired.length pl
   have lg:=Gx (u:=us) ndt g
   rw[List.length_take]at lg
   refine⟨vs,_,.of (g5.sm _ _ hl),g5.lst,ce (by simp; omega),λl2 H6 g6=>?_⟩
   have s36:ag H3 H6:=g4.sm.trans (g5.sm.trans g6.sm)
   refine⟨d,q,kv3,g,rfl,rfl,dn3.same s36,kg.same s36,dP (by omega),λH7 dn7 k7=>?_⟩
   have s06:=s2.trans (s3.trans s36)
   have s7:=nj s06 hd k7
   have ex6 : ∃ φ,cv H H6 d=some (.ext φ):=pZ (pY s06 hd (dn3.same s36))
   refine⟨s7,?_,_,_,rfl⟩
   rw[eb]
   unfold fP
   rw[en]
   refine⟨_,pY s7 hd dn7,?_⟩
   refine uP (H:=cv H H6) (Paired.mapP pr3 λx y z=>⟨z.1,z.2.same (oF s36)⟩) g q (λz=>oj ex6 (vz k7) z) (oj ex6 (vz k7) ?_)
   have nl : ∀ xs,H l2≠some (.lst xs):=λxs e=>by
    have:=(s2.trans (s3.trans (g4.sm.trans g5.sm))) _ _ e
    rw[g6.nw]at this
    cases this
   refine⟨l2,_,rfl,j1 g6.at_ nl,Paired.snoc (Paired.mapP pl λk v z=>?_) ⟨b,rfl,ot s06 (ky.same s06)⟩⟩
   obtain⟨p,rfl,z'⟩:=dG.same (g5.sm.trans g6.sm) k v z
   exact⟨p,rfl,ot s06 z'⟩
 ·rintro σ H2 ⟨s2,ly2,v4,v5,rfl⟩
  rw[List.take_of_length_le (by omega)]at ly2
  exact kq d H2 s2 ly2
end
end My
namespace My
open PySem L2
structure ku (ly:List (ae × List ae)):Prop where
 nd:(ly.map (·.1)).Nodup
 gd : ∀ x∈ly,Gd x.1
 len:ly.length<=500
theorem ku.beh[B:Tb]{ly:List (ae × List ae)}(h:ku ly)(u:List Int):ku (beh (ly.map (·.1)) u):=by
 have c:=jr (u:=u) h.nd
 refine⟨c.nd,λx hx=>?_,?_⟩
 ·obtain⟨a1,_,_,a4⟩:=c.mem x.1 x.2 hx
  obtain⟨k,r,e⟩:=List.exists_cons_of_ne_nil a1
  exact Ca ((a4 k).mp (by rw[e]; exact List.mem_cons_self ..)).2
 ·have:=c.len
  have:=h.len
  rw[List.length_map]at *
  omega
def hJ(sq:List ae):List (ae × List ae):=sq.map λk=>(k,[])
noncomputable def aY[B:Tb](sq:List ae)(units:List (List Int))(i:Nat):List (ae × List ae):=(units.take i).foldl (λly u=>beh (ly.map (·.1)) u) (hJ sq)
theorem jW[B:Tb]{sq:List ae}{units:List (List Int)}{i:Nat}{u:List Int}(h:units[i]? = some u):aY sq units (i+1)=beh ((aY sq units i).map (·.1)) u:=by
 unfold aY
 rw[List.take_add_one,h]
 show List.foldl _ _ (_++[u])=_
 rw[List.foldl_append]
 rfl
theorem CZ[B:Tb]{sq:List ae}(hq:S0 sq):ku (hJ sq):=by
 have e:(hJ sq).map (·.1)=sq:=by
  unfold hJ
  rw[List.map_map]
  exact List.map_id _
 refine⟨by rw[e]; exact hq.nd,λx hx=>?_,?_⟩
 ·have hm:x.1∈sq:=by rw[<- e]; exact List.mem_map.mpr ⟨x,hx,rfl⟩
  obtain⟨h0,r,hr,m,hm,e'⟩:=(hq.mem x.1).mp hm
  have:=B.l6 r hr
  exact⟨h0,by rw[e',List.length_take]; omega⟩
 ·have:=hq.len
  unfold hJ
  rw[List.length_map]
  omega
theorem hG[B:Tb]{sq:List ae}(hq:S0 sq)(units:List (List Int)) : ∀ i,ku (aY sq units i)
 | 0=>by unfold aY; rw[List.take_zero]; exact CZ hq
 | i+1=>by
  cases h:units[i]? with
  | some u=>rw[jW h]; exact (hG hq units i).beh u
  | none =>
   have e:aY sq units (i+1)=aY sq units i:=by
    unfold aY
    rw[List.take_add_one,h]
    simp
   rw[e]
   exact hG hq units i
def cV(H:Hp)(a:Addr):Hp:=λb=>if b=a then none else H b
theorem oE{H:Hp}{a b:Addr}{o:HO}(h:H b=some o)(n:b≠a):cV H a b=some o:=by unfold cV; rw[if_neg n]; exact h
theorem jf(H:Hp)(a:Addr):ag (cV H a) H:=λb o h=>by
 unfold cV at h
 split at h
 ·cases h
 ·exact h
theorem Du{H H':Hp}{a:Addr}(s:ag H H')(n:H a=none):ag H (cV H' a):=λb o h=>oE (s _ _ h) (br h n)
theorem Dv{H H':Hp}{a:Addr}(s:ag H H'):ag (cV H a) (cV H' a):=λb o h=>by
 refine oE (s _ _ (jf _ _ _ _ h)) λe=>?_
 unfold cV at h
 rw[if_pos e]at h
 cases h
theorem oC{H:Hp}{a:Addr}{o:HO}:cV (upd H a o) a=cV H a:=by
 funext b
 unfold cV
 split
 ·rfl
 ·rename_i n
  exact ak n
theorem Dw{H H':Hp}{a:Addr}{xs:List V}(h:H a=some (.lst xs)):ag (cv H H') (cV H' a):=λb o z=>by
 refine oE (lT _ _ _ _ z) λe=>?_
 subst e
 unfold cv at z
 rw[h]at z
 cases z
def wR(H:Hp)(u:List Int)(v:V):Prop:=∃ p,v=.ref p/\H p=some (.tup (u.map V.int))/\u.length<=100
def gk(H:Hp)(ly:List (ae × List ae))(v:V):Prop:=∃ d,v=.ref d/\fb H d ly
theorem gk.same{H H':Hp}(s:ag H H')(ly:List (ae × List ae))(v:V)(h:gk H ly v):gk H' ly v:=by
 obtain⟨d,rfl,h⟩:=h
 exact⟨d,rfl,h.same s⟩
theorem Paired.at'{α β:Type}{F:α->β->Prop} : ∀ {l₁:List α} {l₂:List β},Paired F l₁ l₂->∀ {i:Nat} {b:β},l₂[i]? = some b->∃ a,l₁[i]? = some a/\F a b
 | _,_,.nil,_,_,h=>by simp at h
 | _,_,.cons r t,0,_,h=>by simp at h; subst h; exact⟨_,rfl,r⟩
 | _,_,.cons r t,i+1,_,h=>by simpa using Paired.at' t (i:=i) (by simpa using h)
section
variable {P:Program}{w:World}{K:PySem.W.Frag}{mg:Str->Option Value}{base:Heap}{t:Adr}
def yU(K:PySem.W.Frag)(t:Adr):Sp:=λvs H Q _=>∃ (B:Tb) (o ul:Addr) (units:List (List Int)) (us:List V),vs=[.ref o,.ref ul]/\TO t H o/\H ul=some (.lst us)/\Paired (wR H) units us/\units.length<=2000 /\
 ∀ sq p ds H',S0 sq->ag H H'->H' p=some (.lst ds)->Paired (gk H') ((List.range (units.length+1)).map (aY sq units)) ds->Q (.ref p) H'
theorem DI (T:Txt K mg t):bj P w K mg base "layers_along" 8 t.qM t.pq ["tongue", "units"] (yU K t):=by
 refine⟨T.Ez,T.xp.kp,T.GL,T.xp.okQ gC (λvs H Q E h=>by obtain⟨B,o,ul,units,us,rfl,_⟩:=h; rfl) λcdv A outer s H vs Q E hr h=>?_⟩
 obtain⟨B,o,ul,units,us,rfl,ho,hul,hus,hlu,kq⟩:=h
 have hu:=hr.units
 have hlen:=Paired.length hus
 refine⟨_,(ap (aE (i:=2) gC.nd rfl (.inl rfl) tW)
  (ap (bN PassesOwn.never rfl (dz (K:=K) rfl (nR (D3 T) hr (aa 0))) (cZ (K:=K) rfl rfl (bq (aD (i:=3) gC.nd rfl (.inl rfl)) (bq (aD (i:=4) gC.nd rfl (.inl rfl)) cY))) (au (tX hu (aa 2) (bW (af (aa 3) (af (c9 (ic (K:=K) rfl) T.n_tuple PyProof.Rows.boot_tuple (af (aa 4) ai)) ai))) (cf ai))))
  (ap (aE (i:=5) gC.nd rfl (.inl rfl) (cf (af (aa 2) ai)))
  (ap (bN PassesOwn.never rfl (dz (K:=K) rfl (aa 1)) (aD (i:=6) gC.nd rfl (.inl rfl)) (ap (aE (i:=2) gC.nd rfl (.inl rfl) (aX (DD T) hr (af (aa 0) (af (aa 2) (af (aa 6) ai)))))
  (au (dQ (fu (K:=K) rfl PySem.F.plainAttrs_list PySem.F.slot_list_append PySem.F.type_list_append fV (aa 5) (af (aa 2) ai))))))
  (au (aJ (aa 5))))))),?_⟩
 intro d H1 g1
 have hd:=g1.nw
 refine bK ?_
 obtain⟨f,es,tt,ok,er⟩:=id ho
 refine⟨o,f.dx,_,rfl,(tt.mono g1.sm).o,rfl,?_⟩
 refine⟨o,f,es,rfl,tt.mono g1.sm,ok,λsp st H2 s2 hsp sts nds mems=>?_⟩
 obtain⟨sq,eq⟩ : ∃ sq:List ae,sq=st.map λs=>s.2.2:=⟨_,rfl⟩
 obtain⟨ss,ess⟩ : ∃ ss,ss=st.map λs=>V.ref s.1:=⟨_,rfl⟩
 rw[<- ess]at hsp
 have hq:S0 sq:=⟨by rw[eq]; exact nds,λk=>by rw[eq,<- er]; exact mems k.1 k.2⟩
 have pss:Paired (wT H2) sq ss:=by
  rw[eq,ess]
  clear eq ess hq hsp nds mems
  induction st with
  | nil=>exact .nil
  | cons x l ih=>exact .cons ⟨x.1,x.2.1,rfl,(sts x (List.mem_cons_self ..)).1,(sts x (List.mem_cons_self ..)).2⟩ (ih λy hy=>sts y (List.mem_cons_of_mem _ hy))
 refine⟨sp,rfl,⟨_,.of hsp⟩,?_⟩
 have lss:=Paired.length pss
 have nd0:sq.Nodup:=hq.nd
 have lsq:=hq.len
 refine gb (K:=K) (a:=sp) (xs:=ss) (λi σ H'=>ag H H'/\H' sp=some (.lst ss)/\Paired (wT H') sq ss/\fb H' d ((sq.take i).map λk=>(k,[]))/\∃ v3 v4 v5 v6,σ=[some (.ref o),some (.ref ul),some (.ref d),v3,v4,v5,v6]) ?_ (λi σ H' _ z=>.of z.2.1) ?_ ?_
 ·exact⟨g1.sm.trans s2,hsp,pss,⟨[],(DN.new g1).same s2,.nil⟩,_,_,_,_,rfl⟩
 ·rintro i x σ H3 hx ⟨s3,hsp3,pss3,ly3,v3,v4,v5,v6,rfl⟩
  obtain⟨k,hk,a,l,rfl,ha,hl⟩:=Paired.at' pss3 hx
  refine⟨a,_,rfl,.of ha,rfl,?_⟩
  refine⟨_,_,rfl,?_⟩
  refine bK ?_
  refine⟨_,_,rfl,?_⟩
  refine bK ?_
  refine⟨rfl,?_⟩
  refine⟨sz rfl,λl0 H4 g4=>?_⟩
  refine⟨_,.of (g4.sm _ _ hl),λtb H5 g5=>?_⟩
  refine⟨sz rfl,λkt H6 g6=>?_⟩
  have s36:=g4.sm.trans (g5.sm.trans g6.sm)
  obtain⟨kv6,dn6,pr6⟩:=ly3.same s36
  have ky:bU H6 k kt:=⟨tb,g6.at_,g6.sm _ _ g5.at_⟩
  have lk:=Paired.length pr6
  rw[List.length_map,List.length_take]at lk
  have hi:i < sq.length:=(List.getElem?_eq_some_iff.mp hk).1
  refine⟨d,kt,kv6,k,rfl,rfl,dn6,ky,dP (by omega),λH7 dn7 k7=>?_⟩
  have ex6:=pZ dn6
  obtain⟨φ,ex6'⟩:=id ex6
  have st : ∀ {b:Addr} {ob:HO},H6 b=some ob->(∀ φ,ob ≠ .ext φ)->H7 b=some ob:=λ{b ob} h z=>by
   rw[k7 b (jT h ex6' (z φ))]
   exact h
  refine⟨nj (s3.trans s36) hd k7,st (s36 _ _ hsp3) (by intro φ z; cases z),Paired.mapP pss3 λk v z=>?_,?_,_,_,_,_,rfl⟩
  ·obtain⟨a,l,rfl,z1,z2⟩:=z
   exact⟨a,l,rfl,st (s36 _ _ z1) (by intro φ z; cases z),st (s36 _ _ z2) (by intro φ z; cases z)⟩
  ·have e1:(sq.take (i+1)).map (λk=>((k,[]):ae × List ae))=eN ((sq.take i).map λk=>(k,[])) k []:=by
    have no:bn ((sq.take i).map λk=>((k,[]):ae × List ae)) k=none:=by
     cases h:bn ((sq.take i).map λk=>((k,[]):ae × List ae)) k with
     | none=>rfl
     | some l =>
      obtain⟨k',h1,h2⟩:=List.mem_map.mp (jg h)
      injection h2 with h2 _
      subst h2
      obtain⟨j,hj⟩:=List.getElem?_of_mem h1
      have hj2:=(List.getElem?_eq_some_iff.mp hj).1
      rw[List.length_take]at hj2
      rw[List.getElem?_take_of_lt (by omega)]at hj
      have:=(List.getElem?_inj (by omega) nd0).mp (hj.trans hk.symm)
      omega
    unfold eN
    rw[no,List.take_add_one,hk]
    simp
   rw[e1]
   exact⟨_,dn7,uP (H:=H6) pr6 k kt (λz=>oj ex6 k7 z) ⟨l0,[],rfl,st (g6.sm _ _ (g5.sm _ _ g4.at_)) (by intro φ z; cases z),.nil⟩⟩
 ·rintro σ H3 ⟨s3,hsp3,pss3,ly3,v3,v4,v5,v6,rfl⟩
  rw[<- lss,List.take_length]at ly3
  refine⟨sz rfl,λls H4 g4=>?_⟩
  refine bK ?_
  refine⟨ul,rfl,⟨_,.of (g4.sm _ _ (s3 _ _ hul))⟩,?_⟩
  have hls:=g4.nw
  refine gb (K:=K) (a:=ul) (xs:=us) (λi σ H'=>ag H (cV H' ls)/\(∃ ds,H' ls=some (.lst ds)/\Paired (gk (cV H' ls)) ((List.range (i+1)).map (aY sq units)) ds)/\∃ dc v3 v4 v6,σ=[some (.ref o),some (.ref ul),some (.ref dc),v3,v4,some (.ref ls),v6]/\fb (cV H' ls) dc (aY sq units i)) ?_ (λi σ H' _ z=>.of (jf _ _ _ _ (z.1 _ _ hul))) ?_ ?_
  ·have e0:aY sq units 0=hJ sq:=by unfold aY; rw[List.take_zero]; rfl
   have s34:=Du g4.sm hls
   exact⟨s3.trans s34,⟨_,g4.at_,.cons ⟨d,rfl,by rw[e0]; exact ly3.same s34⟩ .nil⟩,d,_,_,_,rfl,by rw[e0]; exact ly3.same s34⟩
  ·rintro i x σ H5 hx ⟨s5,⟨ds,hds,pds⟩,dc,v3,v4,v6,rfl,ldc⟩
   obtain⟨u,hui,p,rfl,hp,hpl⟩:=Paired.at' hus hx
   have ok:=hG hq units i
   refine bK ?_
   have s5':=s5.trans (jf _ _)
   refine⟨B,o,dc,p,aY sq units i,u,rfl,ho.same s5',ldc.same (jf _ _),ok.gd,s5' _ _ hp,hpl,Nat.le_trans ok.len (by decide),λd' H6 s6 ld6=>?_⟩
   rw[<- jW hui]at ld6
   have ld6:=ld6.same (Dw hds)
   refine bK ?_
   refine⟨.inl ⟨rfl,_,.of (s6 _ _ hds)⟩,?_⟩
   have lds:=Paired.length pds
   rw[List.length_map,List.length_range]at lds
   have hil:i < us.length:=(List.getElem?_eq_some_iff.mp hx).1
   refine⟨_,s6 _ _ hds,dP (by omega),?_⟩
   have s56:=Dv (a:=ls) s6
   refine⟨by rw[oC]; exact s5.trans s56,⟨_,aN,?_⟩,d',_,_,_,rfl,by rw[oC]; exact ld6⟩
   rw[oC,List.range_succ,List.map_append]
   exact Paired.snoc (Paired.mapP pds λly v=>gk.same s56 ly v) ⟨d',rfl,ld6⟩
  ·rintro σ H5 ⟨s5,⟨ds,hds,pds⟩,dc,v3,v4,v6,rfl,ldc⟩
   rw[<- hlen]at pds
   exact kq sq ls ds H5 hq (s5.trans (jf _ _)) hds (Paired.mapP pds λly v=>gk.same (jf _ _) ly v)
end
end My
namespace My
open PySem L2
theorem uq{α β:Type}{F:α->β->Prop} : ∀ {l₁ m₁:List α} {l₂ m₂:List β},Paired F l₁ l₂->Paired F m₁ m₂->Paired F (l₁++m₁) (l₂++m₂)
 | _,_,_,_,.nil,h=>h
 | _,_,_,_,.cons r t,h=>.cons r (uq t h)
theorem yy{n:Nat}(h:n<=1000000):n<=sizeLine:=Nat.le_trans h (by decide)
theorem n5 : ∀ (l m:List ae),l.Nodup->(∀ x∈l,x∈m)->l.length<=m.length
 | [],_,_,_=>Nat.zero_le _
 | x :: l,m,nd,h=>by
  obtain⟨n1,n2⟩:=List.nodup_cons.mp nd
  have hx:=h x (List.mem_cons_self ..)
  have:=n5 l (m.erase x) n2 λy hy=>(List.mem_erase_of_ne (show y≠x from λe=>n1 (e ▸ hy))).mpr (h y (List.mem_cons_of_mem _ hy))
  rw[List.length_erase_of_mem hx]at this
  have:=List.length_pos_of_mem hx
  simp only [List.length_cons]
  omega
noncomputable def run[B:Tb]:ae->List (List Int)->Option ae
 | k,[]=>some k
 | k,u :: us=>(nx k u).bind λg=>run g us
def gn[B:Tb](sq:List ae)(units:List (List Int))(i:Nat)(k:ae):Prop:=k∈(aY sq units i).map (·.1)/\(run k (units.drop i)).isSome=true
def js[B:Tb](sq:List ae)(units:List (List Int))(i:Nat)(p:Int):Prop:=∀ k,gn sq units i k ↔ k=(p,[])
def fI(ly:List (ae × List ae))(ks:List ae):List ae:=ks.flatMap λk=>(bn ly k).getD []
theorem uF{ly:List (ae × List ae)}{k:ae}(h:k∈ly.map (·.1)) : ∃ l,bn ly k=some l:=by
 obtain⟨x,hx,rfl⟩:=List.mem_map.mp h
 cases e:bn ly x.1 with
 | some l=>exact⟨l,rfl⟩
 | none=>exact absurd hx (vD e x.2)
theorem Hf[B:Tb]{sq:List ae}(hq:S0 sq){units:List (List Int)}{i:Nat}{u:List Int}(hu:units[i]? = some u){ks:List ae}(nd:ks.Nodup)(h : ∀ k,k∈ks ↔ gn sq units (i+1) k):(fI (aY sq units (i+1)) ks).Nodup/\∀ k,k∈fI (aY sq units (i+1)) ks ↔ gn sq units i k:=by
 have ok:=hG hq units i
 have c:eB u ((aY sq units i).map (·.1)) (aY sq units (i+1)):=by rw[jW hu]; exact jr ok.nd
 have got : ∀ g l,bn (aY sq units (i+1)) g=some l->l.Nodup/\∀ k,k∈l ↔ k∈(aY sq units i).map (·.1)/\nx k u=some g:=λg l e=>by
  obtain⟨_,a2,_,a4⟩:=c.mem g l (jg e)
  exact⟨a2,a4⟩
 have ed:units.drop i=u :: units.drop (i+1):=by
  have hlt:=(List.getElem?_eq_some_iff.mp hu).1
  rw[List.drop_eq_getElem_cons hlt]
  congr 1
  exact (List.getElem?_eq_some_iff.mp hu).2
 have mem : ∀ g k,k∈(bn (aY sq units (i+1)) g).getD []->k∈(aY sq units i).map (·.1)/\nx k u=some g:=λg k hk=>by
  cases e:bn (aY sq units (i+1)) g with
  | none=>rw[e]at hk; cases hk
  | some l=>rw[e]at hk; exact ((got g l e).2 k).mp hk
 have nds : ∀ ks:List ae,ks.Nodup->(ks.flatMap λk=>(bn (aY sq units (i+1)) k).getD []).Nodup:=by
  intro ks nd
  induction ks with
  | nil=>exact List.nodup_nil
  | cons g ks ih =>
   obtain⟨n1,n2⟩:=List.nodup_cons.mp nd
   rw[List.flatMap_cons]
   refine List.nodup_append.mpr ⟨?_,ih n2,λa ha b hb=>?_⟩
   ·cases e:bn (aY sq units (i+1)) g with
    | none=>exact List.nodup_nil
    | some l=>exact (got g l e).1
   ·rintro rfl
    obtain⟨g',hg',hb⟩:=List.mem_flatMap.mp hb
    have:=(mem g a ha).2.symm.trans (mem g' a hb).2
    injection this with this
    exact n1 (this ▸ hg')
 refine⟨nds ks nd,λk=>?_⟩
 ·unfold fI
  rw[List.mem_flatMap]
  constructor
  ·rintro⟨g,hg,hk⟩
   obtain⟨k1,k2⟩:=mem g k hk
   refine⟨k1,?_⟩
   rw[ed]
   show ((nx k u).bind _).isSome=true
   rw[k2]
   exact ((h g).mp hg).2
  ·rintro⟨k1,k2⟩
   rw[ed]at k2
   have k2:((nx k u).bind λg=>run g (units.drop (i+1))).isSome=true:=k2
   cases e:nx k u with
   | none=>rw[e]at k2; cases k2
   | some g =>
    rw[e]at k2
    obtain⟨l,hl⟩:=c.all k g k1 e
    have hg:g∈(aY sq units (i+1)).map (·.1):=List.mem_map.mpr ⟨_,hl,rfl⟩
    obtain⟨l',hl'⟩:=uF hg
    refine⟨g,(h g).mpr ⟨hg,k2⟩,?_⟩
    rw[hl']
    exact ((got g l' hl').2 k).mpr ⟨k1,e⟩
section
variable {P:Program}{w:World}{K:PySem.W.Frag}{mg:Str->Option Value}{base:Heap}{t:Adr}
def yP(K:PySem.W.Frag):Sp:=λvs H Q _=>∃ (d sl:Addr) (ly:List (ae × List ae)) (ks:List ae) (us:List V),vs=[.ref d,.ref sl]/\fb H d ly/\H sl=some (.lst us)/\Paired (dG H) ks us/\(∀ k∈ks,∃ l,bn ly k=some l/\l.length<=500)/\ks.length<=500 /\
 ∀ p us' H',ag H H'->H' p=some (.lst us')->Paired (dG H') (fI ly ks) us'->Q (.ref p) H'
theorem DE (T:Txt K mg t):bj P w K mg base "spots_ahead" 1 t.qJ t.pb ["layer", "spots"] (yP K):=by
 refine⟨T.Ep,T.xl.kp,T.GH,T.xl.okQ nh (λvs H Q E h=>by obtain⟨d,sl,ly,ks,us,rfl,_⟩:=h; rfl) λcdv A outer s H vs Q E hr h=>?_⟩
 obtain⟨d,sl,ly,ks,us,rfl,hd,hsl,pks,hget,hkl,kq⟩:=h
 have hu:=hr.units
 have lks:=Paired.length pks
 refine⟨_,(ap (aE (i:=2) nh.nd rfl (.inl rfl) (cf ai))
  (ap (bN PassesOwn.never rfl (dz (K:=K) rfl (aa 1)) (aD (i:=3) nh.nd rfl (.inl rfl)) (au (dQ (fu (K:=K) rfl PySem.F.plainAttrs_list PySem.F.slot_list_extend PySem.F.type_list_extend (Ct (K:=K) rfl) (aa 2) (af (Aw hu (aa 0) (aa 3)) ai)))))
  (au (aJ (aa 2))))),?_⟩
 refine⟨sz rfl,λf H1 g1=>?_⟩
 refine bK ?_
 refine⟨sl,rfl,⟨_,.of (g1.sm _ _ hsl)⟩,?_⟩
 have hf:=g1.nw
 refine gb (K:=K) (a:=sl) (xs:=us) (λi σ H'=>ag H H'/\(∃ ys,H' f=some (.lst ys)/\Paired (dG H) (fI ly (ks.take i)) ys/\ys.length<=i*500)/\∃ v3,σ=[some (.ref d),some (.ref sl),some (.ref f),v3]) ?_ (λi σ H' _ z=>.of (z.1 _ _ hsl)) ?_ ?_
 ·exact⟨g1.sm,⟨[],g1.at_,.nil,Nat.zero_le _⟩,_,rfl⟩
 ·rintro i x σ H2 hx ⟨s2,⟨ys,hys,pys,lys⟩,v3,rfl⟩
  obtain⟨k,hk,p,rfl,ky⟩:=Paired.at' pks hx
  obtain⟨l,hl,hll⟩:=hget k (List.mem_of_getElem? hk)
  obtain⟨kv,dn,pr⟩:=hd
  obtain⟨v,l',e1,e2,la,vs,rfl,hla,pla⟩ : ∃ v l',bV kv k=some v/\bn ly k=some l'/\cO H v l':=by
   rcases om pr k with ⟨_,z⟩ | z
   ·rw[hl]at z; cases z
   ·exact z
  rw[hl]at e2
  cases e2
  have hil:i < us.length:=(List.getElem?_eq_some_iff.mp hx).1
  have lvs:=Paired.length pla
  refine bK ?_
  refine⟨.inl ⟨rfl,_,.of hys⟩,?_⟩
  refine⟨d,p,kv,k,_,rfl,rfl,dn.same s2,ky.same s2,e1,?_⟩
  refine⟨ys,vs,hys,s2 _ _ hla,yy (by omega),?_⟩
  refine⟨nj s2 hf (λc hc=>ak hc),⟨_,aN,?_,?_⟩,_,rfl⟩
  ·have e:fI ly (ks.take (i+1))=fI ly (ks.take i)++l:=by
    unfold fI
    rw[List.take_add_one,hk]
    show List.flatMap _ (_++[k])=_
    rw[List.flatMap_append]
    simp[hl]
   rw[e]
   exact uq pys pla
  ·rw[List.length_append]; omega
 ·rintro σ H2 ⟨s2,⟨ys,hys,pys,lys⟩,v3,rfl⟩
  rw[<- lks,List.take_length]at pys
  exact kq f ys H2 s2 hys (Paired.mapP pys λk v=>dG.same s2 k v)
end
end My
namespace My
open PySem L2
def SZ:Nat:=1
theorem FH{lo c:Int}{n:Nat}{cs:St}{tt:TT}{te:TE}{H:Hp}{Q:VK}(Pv:Nat->List V->Hp->Prop)(h0:Pv 0 [] H)(hl : ∀ i ys H,i<=n->Pv i ys H->ys.length<=i)(hz:n<=sizeLine)
 (hs : ∀ i ys H (N:List V->Hp->Prop),i < n->Pv i ys H->(∀ ys' H',Pv (i+1) ys' H'->N ys' H')->tt (some (.int (lo+i*c)) :: cs) H λb H4=>if b=true then te (some (.int (lo+i*c)) :: cs) H4 λy H5=>N (ys++[y]) H5 else N ys H4)
 (hd : ∀ ys H p H',Pv n ys H->aP H p (.lst ys) H'->Q (.ref p) H') :
 fM (rE lo c n) H (List.replicate 1 none++cs) (bF 0) tt te Q:=by
 refine⟨λi m ys σ H=>m=n - i/\i<=n/\Pv i ys H/\∃ v0,σ=v0 :: cs,⟨n,by simp,Nat.zero_le _,h0,none,rfl⟩,?_⟩
 rintro i m ys σ H2 ⟨rfl,hi,p,v0,rfl⟩
 have ql:=hl i ys H2 hi p
 by_cases hlt:i < n
 ·refine .inr ⟨hlt,by omega,λys' σ' H'=>Pv (i+1) ys' H'/\∃ v0,σ'=v0 :: cs,λys' σ' H' ⟨p',e⟩=>⟨n - (i+1),by omega,rfl,hlt,p',e⟩,λx H' y=>?_⟩
  obtain⟨e,y⟩:=y
  subst e y
  exact hs i ys H' (λys' H'=>Pv (i+1) ys' H'/\∃ v0,some (V.int (lo+i*c)) :: cs=v0 :: cs) hlt p λ_ _ z=>⟨z,_,rfl⟩
 ·have e:i=n:=by omega
  subst e
  exact .inl ⟨Nat.le_refl _,by omega,λp' H' g=>hd ys H2 p' H' p g⟩
def fh(row:List Int):List (List Int):=(List.range ((row.length+(SZ - 1)) / SZ)).map λi=>(row.drop (i*SZ)).take SZ
theorem xI{row:List Int}{n:Nat}(h:row.length=n*SZ):(fh row).length=n:=by
 unfold fh
 rw[List.length_map,List.length_range,h,Nat.mul_comm,Nat.mul_add_div (by decide),Nat.div_eq_of_lt (by decide)]
 rfl
def eh[B:Tb](H:Hp)(sq:List ae)(units:List (List Int))(n j:Nat)(v:V):Prop:=(v=.non/\∀ i p,n < i+j->i<=n->¬ js sq units i p)\/∃ (a:Addr) (i:Nat) (p:Int),v=.ref a/\H a=some (.tup [.int ((i:Int)*(SZ:Int)),.int p])/\n < i+j/\i<=n/\js sq units i p/\∀ i' p',n < i'+j->i' < i->¬ js sq units i' p'
theorem eh.same[B:Tb]{sq:List ae}{H H':Hp}(s:ag H H'){units:List (List Int)}{n j:Nat}{v:V}(h:eh H sq units n j v):eh H' sq units n j v:=by
 rcases h with h | ⟨a,i,p,rfl,h1,h2⟩
 ·exact .inl h
 ·exact .inr ⟨a,i,p,rfl,s _ _ h1,h2⟩
theorem eh.no[B:Tb]{sq:List ae}{H:Hp}{units:List (List Int)}{n j:Nat}{v:V}(h:eh H sq units n j v)(hj:j<=n)(no : ∀ p,¬ js sq units (n - j) p):eh H sq units n (j+1) v:=by
 rcases h with ⟨rfl,h⟩ | ⟨a,i,p,rfl,h1,h2,h3,h4,h5⟩
 ·refine .inl ⟨rfl,λi p a b=>?_⟩
  by_cases c:n < i+j
  ·exact h i p c b
  ·have:i=n - j:=by omega
   rw[this]; exact no p
 ·refine .inr ⟨a,i,p,rfl,h1,by omega,h3,h4,λi' p' a b=>?_⟩
  by_cases c:n < i'+j
  ·exact h5 i' p' c b
  ·have:i'=n - j:=by omega
   rw[this]; exact no p'
theorem uY[B:Tb]{sq:List ae}(hq:S0 sq){units:List (List Int)} : ∀ {i:Nat} {k:ae} {l:List ae},bn (aY sq units i) k=some l->l.length<=500
 | 0,k,l,h=>by
  have e0:aY sq units 0=hJ sq:=by unfold aY; rw[List.take_zero]; rfl
  rw[e0]at h
  obtain⟨k',_,e⟩:=List.mem_map.mp (jg h)
  injection e with _ e
  rw[<- e]
  exact Nat.zero_le _
 | i+1,k,l,h=>by
  cases hu:units[i]? with
  | some u =>
   rw[jW hu]at h
   have ok:=hG hq units i
   have:=((jr (u:=u) ok.nd).mem k l (jg h)).2.2.1
   have:=ok.len
   rw[List.length_map]at *
   omega
  | none =>
   have e:aY sq units (i+1)=aY sq units i:=by
    unfold aY
    rw[List.take_add_one,hu]
    simp
   rw[e]at h
   exact uY hq h
section
variable {P:Program}{w:World}{K:PySem.W.Frag}{mg:Str->Option Value}{base:Heap}{t:Adr}
def yV(K:PySem.W.Frag)(t:Adr):Sp:=λvs H Q _=>∃ (B:Tb) (o r:Addr) (row:List Int) (n:Nat),vs=[.ref o,.ref r]/\TO t H o/\ax K H r (row.map V.int)/\row.length=n*SZ/\n<=2000/\∀ sq v H',S0 sq->ag H H'->eh H' sq (fh row) n (n+1) v->Q v H'
theorem lV (T:Txt K mg t):bj P w K mg base "in_step" 9 t.qX t.pG ["tongue", "row"] (yV K t):=by
 refine⟨T.EJ,T.xz.kp,T.GV,T.xz.okQ eC (λvs H Q E h=>by obtain⟨B,o,r,row,n,rfl,_⟩:=h; rfl) λcdv A outer s H vs Q E hr h=>?_⟩
 obtain⟨B,o,r,row,n,rfl,ho,hr1,hn,hnl,kq⟩:=h
 have hu:=hr.units
 have ul:=xI hn
 obtain⟨units,eu⟩ : ∃ units,units=fh row:=⟨_,rfl⟩
 rw[<- eu]at kq ul
 refine⟨_,(ap (aE (i:=2) eC.nd rfl (.inr rfl) (nR (D2 T) hr (aa 0)))
  (ap (aE (i:=3) eC.nd rfl (.inl rfl) (aX (DI T) hr (af (aa 0) (af (eJ rfl (bZ.of (fns:=(am gR).names) (N:=["tongue", "row", "size", "layers", "many", "spots", "least", "layer"]) (Nc:=["at", "row", "size"]) (nv:=1) (caps:=[1,2]) rfl rfl (by decide +kernel)) (Ae rfl T.n_range (af av (af (be (bR (K:=K) rfl) T.n_len PySem.boot_len (af (aa 1) ai)) (af (aa 2) ai)))) (λ_ _ _ _=>(aD (i:=0) (show List.Nodup (["at", "row", "size"]:List Str) by decide +kernel) rfl (Or.inl rfl) (Or.inr rfl))) (λ_ _ _ _=>fq) (λ_ _ _ _=>(c9 (ic (K:=K) rfl) T.n_tuple PyProof.Rows.boot_tuple (af (c7 (dS (K:=K) rfl) (aa 1) (cr (aa 0)) (cr (bO (cL (K:=K) rfl) (aa 0) (aa 2)))) ai)))) ai))))
  (ap (aE (i:=4) eC.nd rfl (.inl rfl) (be (bR (K:=K) rfl) T.n_len PySem.boot_len (af (aa 1) ai)))
  (ap (aE (i:=5) eC.nd rfl (.inl rfl) (c9 (Gb rfl) T.n_list PyProof.Rows.boot_list (af (aK (aL (K:=K) rfl) (aa 3) (Aj xJ av) (λ_ _=>rfl)) ai)))
  (ap (aE (i:=6) eC.nd rfl (.inl rfl) cR)
  (ap (bN PassesOwn.never rfl (Ad (K:=K) rfl rfl T.n_reversed (af (aa 3) ai)) (aD (i:=7) eC.nd rfl (.inl rfl)) (ap (bM (jc (tP (bw (eT (K:=K) rfl hu) (be (bR (K:=K) rfl) T.n_len PySem.boot_len (af (aa 5) ai)) av (bc _)) (tO (ft (k9 (K:=K) rfl (aK (aL (K:=K) rfl) (aK (aL (K:=K) rfl) (aa 5) av (λ_ _=>rfl)) av (λ_ _=>rfl))))))) (au (aE (i:=6) eC.nd rfl (.inl rfl) (bW (af (aa 4) (af (aK (aL (K:=K) rfl) (aK (aL (K:=K) rfl) (aa 5) av (λ_ _=>rfl)) av (λ_ _=>rfl)) ai))))) bL)
  (ap (aE (i:=5) eC.nd rfl (.inl rfl) (aX (DE T) hr (af (aa 7) (af (aa 5) ai))))
  (au (Aa (i:=4) eC.nd rfl (.inl rfl) (aa 2))))))
  (au (aJ (aa 6))))))))),?_⟩
 obtain⟨f,es,tt,ok,er⟩:=id ho
 refine⟨o,f.dx,_,rfl,tt.o,rfl,?_⟩
 refine⟨_,rfl,?_⟩
 refine bK ?_
 refine⟨_,.inl hr1,?_⟩
 have hL:((row.map V.int).length:Int)=((n*SZ:Nat):Int):=by rw[List.length_map,hn]
 refine⟨n*SZ,SZ,by rw[<- hL]; rfl,by unfold SZ; omega,by decide,by decide,?_⟩
 have en:(n*SZ+(SZ - 1)) / SZ=n:=by rw[Nat.mul_comm,Nat.mul_add_div (by decide),Nat.div_eq_of_lt (by decide)]; rfl
 rw[en]
 refine FH (lo:=0) (c:=(SZ:Int)) (n:=n) (cs:=[some (.ref r),some (.int (SZ:Int))]) (λi ys H'=>ag H H'/\i<=n/\Paired (wR H') (units.take i) ys) ⟨ag.refl _,Nat.zero_le _,.nil⟩ (λi ys H' _ z=>?_) (ce (by omega)) (λi ys H' N hi z hN=>?_) λys H2 p H3 z g3=>?_
 ·have:=Paired.length z.2.2
  rw[List.length_take]at this
  omega
 ·obtain⟨s1,i1,pu⟩:=z
  simp only [fi,if_true]
  refine⟨_,rfl,_,rfl,_,s1.seq hr1,λp1 H1 g1=>?_⟩
  have ec:cy (row.map V.int) (some (0+(i:Int)*(SZ:Int))) (some (0+(i:Int)*(SZ:Int)+(SZ:Int)))=((row.drop (i*SZ)).take SZ).map V.int:=by
   rw[ia]
   have:(0:Int)+(i:Int)*(SZ:Int)=((i*SZ:Nat):Int):=by simp
   rw[this,mj]
  rw[ec]at g1
  refine⟨_,g1.lst,λp2 H4 g4=>hN _ _ ⟨s1.trans (g1.sm.trans g4.sm),hi,?_⟩⟩
  have hui:units[i]? = some ((row.drop (i*SZ)).take SZ):=by
   rw[eu]
   unfold fh
   rw[List.getElem?_map,hn,en,List.getElem?_range hi]
   rfl
  rw[List.take_add_one,hui]
  refine Paired.snoc (Paired.mapP pu λu v z=>?_) ⟨p2,rfl,g4.at_,?_⟩
  ·obtain⟨p,rfl,z1,z2⟩:=z
   exact⟨p,rfl,(g1.sm.trans g4.sm) _ _ z1,z2⟩
  ·rw[List.length_take]
   have:SZ<=100:=by decide
   omega
 ·obtain⟨s2,_,pu⟩:=z
  rw[List.take_of_length_le (by omega)]at pu
  refine⟨B,o,p,units,ys,rfl,ho.same (s2.trans g3.sm),g3.at_,Paired.mapP pu λu v z=>?_,by omega,λsq ls ds H4 hq s4 hls pls=>?_⟩
  ·obtain⟨p,rfl,z1,z2⟩:=z
   exact⟨p,rfl,g3.sm _ _ z1,z2⟩
  rw[ul]at pls
  have s04:=s2.trans (g3.sm.trans s4)
  refine bK ?_
  refine⟨_,.inl (s04.seq hr1),?_⟩
  refine bK ?_
  have lds:=Paired.length pls
  rw[List.length_map,List.length_range]at lds
  obtain⟨dl,hdl⟩ : ∃ dl,ds[n]? = some dl:=⟨_,List.getElem?_eq_getElem (by omega)⟩
  have lay : ∀ i v,ds[i]? = some v->gk H4 (aY sq units i) v:=λi v hv=>by
   obtain⟨ly,h1,h2⟩:=Paired.at' pls hv
   rw[List.getElem?_map]at h1
   obtain⟨j,h3,h4⟩:=Option.map_eq_some_iff.mp h1
   have hj:=(List.getElem?_eq_some_iff.mp hv).1
   rw[List.getElem?_range (by omega)]at h3
   cases h3
   rw[h4]; exact h2
  obtain⟨dn,rfl,kvn,dnn,prn⟩:=lay n dl hdl
  refine⟨_,.ref dn,.inl (.of hls),?_,?_⟩
  ·have e:fW ds.length (-1)=some n:=by
    unfold fW
    rw[if_neg (by decide),if_pos (by omega)]
    congr 1
    omega
   unfold eX
   rw[e]
   exact hdl
  refine⟨dn,kvn,rfl,dnn,λsp H5 g5=>?_⟩
  refine bK ?_
  refine bK ?_
  refine⟨ls,ds,rfl,.of (g5.sm _ _ hls),?_⟩
  have hm0:((row.map V.int).length:Int)=((n:Int) - ((0:Nat):Int))*(SZ:Int):=by rw[hL]; simp
  refine E8 (K:=K) (a:=ls) (xs:=ds) (λj σ H'=>ag H4 H'/\∃ sp lv v7,σ=[some (.ref o),some (.ref r),some (.int (SZ:Int)),some (.ref ls),some (.int (((n:Int) - (j:Int))*(SZ:Int))),some (.ref sp),some lv,v7]/\(j<=n->∃ us ks,H' sp=some (.lst us)/\Paired (dG H') ks us/\ks.Nodup/\∀ k,k∈ks ↔ gn sq units (n - j) k)/\eh H' sq units n j lv) ?_ (λi σ H' _ z=>.of (z.1 _ _ hls)) ?_ ?_
  ·refine⟨g5.sm,sp,.non,_,by rw[<- hm0]; rfl,λ_=>⟨_,kvn.map (·.1),g5.at_,?_,dnn.nd,λk=>?_⟩,.inl ⟨rfl,λi p a b=>by omega⟩⟩
   ·have all : ∀ l:List (ae × Addr × V),(∀ x∈l,bU H5 x.1 x.2.1)->Paired (dG H5) (l.map (·.1)) (l.map λx=>V.ref x.2.1):=by
     intro l
     induction l with
     | nil=>intro _; exact .nil
     | cons x l ih=>intro h; exact .cons ⟨_,rfl,h x (List.mem_cons_self ..)⟩ (ih λy hy=>h y (List.mem_cons_of_mem _ hy))
    exact all kvn λx hx=>(dnn.key x hx).same g5.sm
   ·rw[uQ prn]
    unfold gn
    rw[Nat.sub_zero,List.drop_of_length_le (by omega)]
    exact⟨λh=>⟨h,rfl⟩,λh=>h.1⟩
  ·rintro j x σ H6 hx ⟨s6,sp,lv,v7,rfl,hks,hlst⟩
   have hj:j < ds.length:=by
    have:=(List.getElem?_eq_some_iff.mp hx).1
    rw[List.length_reverse]at this
    exact this
   rw[List.getElem?_reverse hj]at hx
   have ei:ds.length - 1 - j=n - j:=by omega
   rw[ei]at hx
   obtain⟨d,rfl,lyd⟩:=lay (n - j) x hx
   obtain⟨us,ks,hsp,pks,ndk,hliv⟩:=hks (by omega)
   have lks:=Paired.length pks
   refine bK ?_
   refine kN (λσ' H'=>ag H6 H'/\∃ lv,σ'=[some (.ref o),some (.ref r),some (.int (SZ:Int)),some (.ref ls),some (.int (((n:Int) - (j:Int))*(SZ:Int))),some (.ref sp),some lv,some (.ref d)]/\eh H' sq units n (j+1) lv) (λnx hn=>?_) ?_
   ·refine⟨_,.inl (.of hsp),?_⟩
    refine aF (λe=>?_) (λe=>?_)
    ·have e1:us.length=1:=by
      have:(us.length:Int)=1:=of_decide_eq_true e
      omega
     obtain⟨k,rfl⟩ : ∃ k,ks=[k]:=List.length_eq_one_iff.mp (by omega)
     cases pks with
     | cons r1 r2=>cases r2 with
      | nil =>
       obtain⟨p,rfl,b,hp,hb⟩:=r1
       refine⟨_,.ref p,.inl (.of hsp),aZ (j:=0) rfl,?_⟩
       refine⟨_,.ref b,.inr (.of hp),aZ (j:=1) rfl,?_⟩
       refine⟨_,.inr (.of hb),?_⟩
       refine aF (λe2=>?_) (λe2=>?_)
       ·have k2:k.2=[]:=by simpa using e2
        refine⟨_,.ref p,.inl (.of hsp),aZ (j:=0) rfl,?_⟩
        refine⟨_,.int k.1,.inr (.of hp),aZ (j:=0) rfl,?_⟩
        refine⟨sz rfl,λq H7 g7=>hn _ _ ⟨g7.sm,.ref q,rfl,.inr ⟨q,n - j,k.1,rfl,?_,by omega,by omega,λk'=>?_,λi' p' a b=>by omega⟩⟩⟩
        ·have:((n - j:Nat):Int)=(n:Int) - (j:Int):=by omega
         rw[this]
         exact g7.at_
        ·rw[<- hliv,List.mem_singleton]
         have:k=(k.1,[]):=Prod.ext rfl k2
         rw[<- this]
       ·refine hn _ _ ⟨ag.refl _,lv,rfl,hlst.no (by omega) λp' z=>e2 ?_⟩
        have:k=(p',[]):=(z k).mp ((hliv k).mp (List.mem_singleton.mpr rfl))
        rw[this]
        rfl
    ·refine hn _ _ ⟨ag.refl _,lv,rfl,hlst.no (by omega) λp' z=>e (decide_eq_true ?_)⟩
     have l1:=n5 ks [(p',[])] ndk λx hx=>List.mem_singleton.mpr ((z x).mp ((hliv x).mp hx))
     have l2:=List.length_pos_of_mem ((hliv _).mpr ((z (p',[])).mpr rfl))
     simp only [List.length_singleton]at l1
     show (us.length:Int)=1
     omega
   ·rintro σ' H7 ⟨s7,lv',rfl,hlst'⟩
    have s47:=s6.trans s7
    refine⟨d,sp,aY sq units (n - j),ks,us,rfl,lyd.same s47,s7 _ _ hsp,Paired.mapP pks λk v=>dG.same s7 k v,λk hk=>?_,?_,λsp' us' H8 s8 hsp' pks'=>?_⟩
    ·obtain⟨l,hl⟩:=uF ((hliv k).mp hk).1
     exact⟨l,hl,uY hq hl⟩
    ·have:=n5 ks _ ndk λx hx=>((hliv x).mp hx).1
     have:=(hG hq units (n - j)).len
     rw[List.length_map]at *
     omega
    refine bK ?_
    refine⟨_,rfl,_,_,rfl,rfl,?_⟩
    have em:((n:Int) - (j:Int))*(SZ:Int) - (SZ:Int)=((n:Int) - ((j+1:Nat):Int))*(SZ:Int):=by
     rw[show ((j+1:Nat):Int)=(j:Int)+1 by omega,show (n:Int) - ((j:Int)+1)=((n:Int) - (j:Int)) - 1 by omega,Int.sub_mul ((n:Int) - (j:Int)) 1,Int.one_mul]
    refine⟨s47.trans s8,sp',lv',_,by rw[<- em]; rfl,λhj1=>?_,hlst'.same s8⟩
    have e2:n - j=(n - (j+1))+1:=by omega
    obtain⟨u,hu'⟩ : ∃ u,units[n - (j+1)]? = some u:=⟨_,List.getElem?_eq_getElem (by omega)⟩
    rw[e2]at hliv pks'
    obtain⟨a1,a2⟩:=Hf hq hu' ndk hliv
    exact⟨us',_,hsp',pks',a1,a2⟩
  ·rintro σ H6 ⟨s6,sp,lv,v7,rfl,_,hlst⟩
   rw[<- lds]at hlst
   exact kq sq lv H6 hq (s04.trans s6) hlst
end
end My
namespace My
open PySem L2
def sg(row:List Int):List (List Int):=row.map λb=>[b]
theorem rO(row:List Int):fh row=sg row:=by
 unfold fh sg
 refine List.ext_getElem? λi=>?_
 rw[List.getElem?_map,List.getElem?_map]
 have e:(row.length+(SZ - 1)) / SZ=row.length:=by unfold SZ; omega
 rw[e]
 by_cases h:i < row.length
 ·rw[List.getElem?_range h,List.getElem?_eq_getElem h]
  show some ((row.drop (i*1)).take 1)=some [row[i]]
  rw[Nat.mul_one,List.drop_eq_getElem_cons h]
  rfl
 ·rw[List.getElem?_eq_none (by rw[List.length_range]; omega),List.getElem?_eq_none (by omega)]
  rfl
theorem eE[B:Tb](k:ae)(a b:List (List Int)):run k (a++b)=(run k a).bind λg=>run g b:=by
 induction a generalizing k with
 | nil=>rfl
 | cons u a ih =>
  show (nx k u).bind (λg=>run g (a++b))=((nx k u).bind λg=>run g a).bind _
  cases nx k u with
  | none=>rfl
  | some g=>exact ih g
theorem vd[B:Tb]{sq:List ae}(hq:S0 sq)(units:List (List Int)) : ∀ i,i<=units.length->∀ k,k∈(aY sq units i).map (·.1) ↔ ∃ k0∈sq,run k0 (units.take i)=some k
 | 0,_,k=>by
  unfold aY
  rw[List.take_zero]
  show k∈(sq.map λk=>((k,[]):ae × List ae)).map (·.1) ↔ _
  rw[List.map_map]
  have:((λx:ae × List ae=>x.1) ∘ λk=>((k,[]):ae × List ae))=id:=rfl
  rw[this,List.map_id]
  exact⟨λh=>⟨k,h,rfl⟩,λ⟨k0,h,e⟩=>by cases e; exact h⟩
 | i+1,hi,k=>by
  have hlt:i < units.length:=hi
  have hu:units[i]? = some units[i]:=List.getElem?_eq_getElem hlt
  have c:=jr (u:=units[i]) (hG hq units i).nd
  have ih:=vd hq units i (by omega)
  have et:units.take (i+1)=units.take i++[units[i]]:=by rw[List.take_add_one,hu]; rfl
  rw[jW hu,et]
  constructor
  ·intro h
   obtain⟨x,hx,rfl⟩:=List.mem_map.mp h
   obtain⟨a1,_,_,a4⟩:=c.mem x.1 x.2 hx
   obtain⟨k1,r,e⟩:=List.exists_cons_of_ne_nil a1
   obtain⟨b1,b2⟩:=(a4 k1).mp (by rw[e]; exact List.mem_cons_self ..)
   obtain⟨k0,h0,h1⟩:=(ih k1).mp b1
   refine⟨k0,h0,?_⟩
   rw[eE,h1]
   show (nx k1 units[i]).bind _=_
   rw[b2]
   rfl
  ·rintro⟨k0,h0,h1⟩
   rw[eE]at h1
   cases e:run k0 (units.take i) with
   | none=>rw[e]at h1; cases h1
   | some k1 =>
    rw[e]at h1
    have h1:(nx k1 units[i]).bind (λg=>run g [])=some k:=h1
    cases e2:nx k1 units[i] with
    | none=>rw[e2]at h1; cases h1
    | some g =>
     rw[e2]at h1
     have:g=k:=by cases h1; rfl
     subst this
     obtain⟨l,hl⟩:=c.all k1 g ((ih k1).mpr ⟨k0,h0,e⟩) e2
     exact List.mem_map.mpr ⟨_,hl,rfl⟩
def Al[B:Tb](sq:List ae)(units:List (List Int))(k0:ae):Prop:=k0∈sq/\(run k0 units).isSome=true
theorem uT[B:Tb]{sq:List ae}(hq:S0 sq){units:List (List Int)}{i:Nat}(hi:i<=units.length)(k:ae):gn sq units i k ↔ ∃ k0,Al sq units k0/\run k0 (units.take i)=some k:=by
 unfold gn
 rw[vd hq units i hi]
 constructor
 ·rintro⟨⟨k0,h0,h1⟩,h2⟩
  refine⟨k0,⟨h0,?_⟩,h1⟩
  rw[<- List.take_append_drop i units,eE,h1]
  exact h2
 ·rintro⟨k0,⟨h0,h2⟩,h1⟩
  refine⟨⟨k0,h0,h1⟩,?_⟩
  rw[<- List.take_append_drop i units,eE,h1]at h2
  exact h2
end My
namespace My
open PySem L2
theorem gZ[B:Tb]{b:List Int}{x:Int}{k:ae}:nx (0,b) [x]=some k ↔ b++[x]∈aH B.rws/\k=(0,bh B.rws (b++[x])):=by
 have ne:b++[x]≠[]:=λz=>by have:=congrArg List.length z; rw[List.length_append]at this; cases this
 unfold nx bh
 dsimp only
 by_cases c:ie (b++[x])
 ·rw[if_pos c,if_pos (show b++[x]∈B.rws from c)]
  exact⟨λh=>⟨eQ.mpr ⟨ne,_,c,List.prefix_rfl⟩,(Option.some.inj h).symm⟩,λh=>by rw[h.2]⟩
 ·rw[if_neg c,if_neg (show ¬ b++[x]∈B.rws from c)]
  by_cases d:jC (b++[x])
  ·rw[if_pos d]
   exact⟨λh=>⟨eQ.mpr ⟨ne,d⟩,(Option.some.inj h).symm⟩,λh=>by rw[h.2]⟩
  ·rw[if_neg d]
   exact⟨λh=>(by cases h),λh=>absurd (eQ.mp h.1).2 d⟩
theorem kT[B:Tb](k:ae)(x:Int)(r:List Int):run k (sg (x :: r))=(nx k [x]).bind λg=>run g (sg r):=rfl
theorem sV(row:List Int)(i:Nat):(sg row).take i=sg (row.take i):=by unfold sg; rw[List.map_take]
theorem sW(row:List Int):(sg row).length=row.length:=by unfold sg; exact List.length_map ..
theorem iB(a b:List Int):sg (a++b)=sg a++sg b:=by unfold sg; exact List.map_append
theorem tz[B:Tb] : ∀ {r:List Int} {b:List Int} {k:ae},run (0,b) (sg r)=some k->k.1=0
 | [],b,k,h=>by cases h; rfl
 | x :: r,b,k,h=>by
  rw[kT]at h
  cases c:nx (0,b) [x] with
  | none=>rw[c]at h; cases h
  | some g =>
   rw[c]at h
   rw[(gZ.mp c).2]at h
   exact tz h
abbrev bY[B:Tb]:ab->Int->Option ab:=λk=>cM B.rws (aH B.rws) k.1 k.2
theorem wQ[B:Tb]{b c b' c':List Int}{x:Int}:bY (b,c) x=some (b',c') ↔ nx (0,b) [x]=some (0,b')/\nx (0,c) [x]=some (0,c')/\b'≠c':=by
 unfold bY cM
 dsimp only
 rw[gZ,gZ]
 constructor
 ·intro h
  split at h
  ·rename_i z
   cases h
   exact⟨⟨z.1,rfl⟩,⟨z.2.1,rfl⟩,λe=>z.2.2 e.symm⟩
  ·cases h
 ·rintro⟨⟨h1,e1⟩,⟨h2,e2⟩,n⟩
  cases e1; cases e2
  rw[if_pos ⟨h1,h2,λe=>n e.symm⟩]
theorem ub[B:Tb] : ∀ {r:List Int} {b c u v:List Int},run (0,b) (sg r)=some (0,u)->run (0,c) (sg r)=some (0,v)->u≠v->ba bY (b,c) r=some (u,v)
 | [],b,c,u,v,h1,h2,n=>by cases h1; cases h2; rfl
 | x :: r,b,c,u,v,h1,h2,n=>by
  rw[kT]at h1 h2
  cases c1:nx (0,b) [x] with
  | none=>rw[c1]at h1; cases h1
  | some g1 =>
   cases c2:nx (0,c) [x] with
   | none=>rw[c2]at h2; cases h2
   | some g2 =>
    rw[c1]at h1
    rw[c2]at h2
    obtain⟨_,e1⟩:=gZ.mp c1
    obtain⟨_,e2⟩:=gZ.mp c2
    obtain⟨p1,b'⟩:=g1
    obtain⟨p2,c'⟩:=g2
    cases e1; cases e2
    show (bY (b,c) x).bind (λg=>ba bY g r)=_
    have ne:bh B.rws (b++[x])≠bh B.rws (c++[x]):=λe=>by
     rw[e]at h1
     have h1:run (0,bh B.rws (c++[x])) (sg r)=some (0,u):=h1
     have h2:run (0,bh B.rws (c++[x])) (sg r)=some (0,v):=h2
     rw[h1]at h2
     exact n (Prod.mk.inj (Option.some.inj h2)).2
    rw[wQ.mpr ⟨c1,c2,ne⟩]
    exact ub h1 h2 n
theorem ny[B:Tb] : ∀ {r:List Int} {k g:ab},ba bY k r=some g->k.1≠k.2->run (0,k.1) (sg r)=some (0,g.1)/\run (0,k.2) (sg r)=some (0,g.2)/\g.1≠g.2
 | [],k,g,h,n=>by cases h; exact⟨rfl,rfl,n⟩
 | x :: r,k,g,h,n=>by
  have h:(bY k x).bind (λg=>ba bY g r)=some g:=h
  cases c:bY k x with
  | none=>rw[c]at h; cases h
  | some k' =>
   rw[c]at h
   obtain⟨c1,c2,c3⟩:=wQ.mp (show bY (k.1,k.2) x=some (k'.1,k'.2) from c)
   obtain⟨d1,d2,d3⟩:=ny h c3
   rw[kT,kT,c1,c2]
   exact⟨d1,d2,d3⟩
theorem AR[B:Tb]{r:List Int}{k g:ab}(h:ba bY k r=some g)(i:Nat) : ∃ g',ba bY k (r.take i)=some g':=by
 have:=nV bY k (r.take i) (r.drop i)
 rw[List.take_append_drop,h]at this
 cases c:ba bY k (r.take i) with
 | none=>rw[c]at this; cases this
 | some g'=>exact⟨g',rfl⟩
theorem Cb[B:Tb]{sq:List ae}(hq:S0 sq){R:List Int}{k g:ab}(nk:db (aH B.rws) k)(h:ba bY k R=some g){i:Nat}{p:Int}(hi:i<=R.length) : ¬ js sq (sg R) i p:=λz=>by
 obtain⟨g',hg⟩:=AR h i
 obtain⟨a1,a2,a3⟩:=ny hg nk.2.2
 obtain⟨b1,b2,_⟩:=ny h nk.2.2
 have hi':i<=(sg R).length:=by rw[sW]; exact hi
 have one : ∀ b u v,cD (aH B.rws) b->run (0,b) (sg R)=some u->run (0,b) (sg (R.take i))=some (0,v)->v=[]:=λb u v hb h1 h2=>by
  have:=(z (0,v)).mp ((uT hq hi' _).mpr ⟨(0,b),⟨(hq.mem (0,b)).mpr ⟨rfl,qy.mpr hb⟩,by rw[h1]; rfl⟩,by rw[sV]; exact h2⟩)
  exact (Prod.mk.inj this).2
 exact a3 ((one _ _ _ nk.1 b1 a1).trans (one _ _ _ nk.2.1 b2 a2).symm)
theorem nZ[B:Tb]{sq:List ae}(hq:S0 sq){R:List Int}{k g:ab}(nk:db (aH B.rws) k)(h:ba bY k R=some g){H:Hp}{v:V}(hl:eh H sq (fh R) R.length (R.length+1) v):v=.non:=by
 rw[rO]at hl
 rcases hl with ⟨e,_⟩ | ⟨a,i,p,_,_,_,hi,z,_⟩
 ·exact e
 ·exact absurd z (Cb hq nk h hi)
end My
namespace My
open PySem L2
theorem nu[B:Tb](pf:Pf B.rws){r:List Int}(hr:r∈B.rws) : ∀ i,i < r.length->run (0,[]) (sg (r.take i))=some (0,r.take i)
 | 0,_=>rfl
 | i+1,hi=>by
  have e:r.take (i+1)=r.take i++[r[i]'(by omega)]:=(List.take_append_getElem (by omega)).symm
  have n:r.take (i+1)∉B.rws:=λz=>by
   have:=congrArg List.length (pf _ z _ hr (List.take_prefix _ _))
   rw[List.length_take]at this
   omega
  rw[e,iB,eE,nu pf hr i (by omega)]
  show (nx (0,r.take i) [r[i]]).bind (λg=>run g [])=_
  rw[gZ.mpr ⟨eQ.mpr ⟨(λz=>by have:=congrArg List.length z; rw[List.length_append]at this; cases this),r,hr,by rw[<- e]; exact List.take_prefix _ _⟩,rfl⟩]
  show some (0,bh B.rws (r.take i++[r[i]]))=_
  rw[<- e]
  unfold bh
  rw[if_neg n]
theorem zF[B:Tb](pf:Pf B.rws){r:List Int}(hr:r∈B.rws)(ne:r≠[]):run (0,[]) (sg r)=some (0,[]):=by
 have hl:=List.length_pos_iff.mpr ne
 have e:r=r.take (r.length - 1)++[r[r.length - 1]'(by omega)]:=by
  rw[List.take_append_getElem (by omega),show r.length - 1+1=r.length by omega,List.take_length]
 have h1:=nu pf hr (r.length - 1) (by omega)
 have h2:run (0,[]) (sg (r.take (r.length - 1)++[r[r.length - 1]'(by omega)]))=some (0,[]):=by
  rw[iB,eE,h1]
  show (nx (0,r.take (r.length - 1)) [r[r.length - 1]'(by omega)]).bind (λg=>run g [])=_
  rw[gZ.mpr ⟨eQ.mpr ⟨(λz=>by have:=congrArg List.length z; rw[List.length_append]at this; cases this),r,hr,by rw[<- e]; exact List.prefix_rfl⟩,rfl⟩]
  show some (0,bh B.rws (r.take (r.length - 1)++[r[r.length - 1]'(by omega)]))=_
  rw[<- e]
  unfold bh
  rw[if_pos hr]
 rw[<- e]at h2
 exact h2
def cW:List (List Int)->List Nat
 | []=>[0]
 | r :: rs=>0 :: (cW rs).map λn=>r.length+n
theorem wN(rs:List (List Int)):0∈cW rs:=by cases rs <;> simp[cW]
theorem Gy(rs:List (List Int))(r:List Int):cW (rs++[r])=cW rs++[rs.flatten.length+r.length]:=by
 induction rs with
 | nil=>simp[cW]
 | cons x rs ih =>
  rw[List.cons_append]
  unfold cW
  rw[ih,List.map_append,List.flatten_cons,List.length_append]
  simp[Nat.add_assoc]
theorem ug[B:Tb](pf:Pf B.rws)(ne : ∀ r∈B.rws,r≠[]){r0:List Int}(h0:r0∈B.rws){M:Nat}(hM : ∀ r∈B.rws,r.length<=M) : ∀ (rs:List (List Int)),(∀ r∈rs,r∈B.rws)->∀ p,p<=rs.flatten.length ->
 ∃ b d,run (0,[]) (sg (rs.flatten.take p))=some (0,b)/\mO B.rws b/\(b=[]->p∈cW rs)/\d+1<=M/\p+d<=rs.flatten.length/\run (0,[]) (sg (rs.flatten.take (p+d)))=some (0,[])
 | [],_,p,hp=>by
  have M1:1<=M:=Nat.le_trans (List.length_pos_iff.mpr (ne r0 h0)) (hM r0 h0)
  have:p=0:=Nat.le_zero.mp hp
  subst this
  exact⟨[],0,rfl,⟨r0,h0,0,List.length_pos_iff.mpr (ne r0 h0),rfl⟩,λ_=>wN _,by omega,Nat.le_refl _,rfl⟩
 | r :: rs,hrs,p,hp=>by
  have hr:=hrs r (List.mem_cons_self ..)
  have rr:=zF pf hr (ne r hr)
  have lM:=hM r hr
  have lr:=List.length_pos_iff.mpr (ne r hr)
  rw[List.flatten_cons]at hp ⊢
  have full:(r++rs.flatten).take r.length=r:=by rw[List.take_append_of_le_length (Nat.le_refl _),List.take_length]
  by_cases c:p < r.length
  ·have e:(r++rs.flatten).take p=r.take p:=List.take_append_of_le_length (by omega)
   rw[e]
   by_cases p0:p=0
   ·subst p0
    exact⟨[],0,rfl,⟨r,hr,0,lr,rfl⟩,λ_=>wN _,by omega,by omega,rfl⟩
   ·refine⟨r.take p,r.length - p,nu pf hr p c,⟨r,hr,p,c,rfl⟩,λz=>?_,by omega,by rw[List.length_append]; omega,?_⟩
    ·have:=congrArg List.length z
     rw[List.length_take]at this
     simp only [List.length_nil]at this
     omega
    ·rw[show p+(r.length - p)=r.length by omega,full]
     exact rr
  ·have hp':p - r.length<=rs.flatten.length:=by rw[List.length_append]at hp; omega
   obtain⟨b,d,a1,a2,a3,a4,a5,a6⟩:=ug pf ne h0 hM rs (λx hx=>hrs x (List.mem_cons_of_mem _ hx)) (p - r.length) hp'
   have tk : ∀ m,r.length<=m->run (0,[]) (sg ((r++rs.flatten).take m))=run (0,[]) (sg (rs.flatten.take (m - r.length))):=λm hm=>by
    rw[List.take_append,List.take_of_length_le hm,iB,eE,rr]
    rfl
   refine⟨b,d,by rw[tk p (by omega)]; exact a1,a2,λz=>?_,a4,by rw[List.length_append]; omega,?_⟩
   ·refine List.mem_cons_of_mem _ (List.mem_map.mpr ⟨p - r.length,a3 z,?_⟩)
    omega
   ·rw[tk (p+d) (by omega),show p+d - r.length=p - r.length+d by omega]
    exact a6
theorem xH[B:Tb](pf:Pf B.rws)(ne : ∀ r∈B.rws,r≠[]){r0:List Int}(h0:r0∈B.rws){M n:Nat}(hM : ∀ r∈B.rws,r.length<=M)(hmax : ∀ k r g,db (aH B.rws) k->ba bY k r=some g->r.length<=n)
 {rs:List (List Int)} (hrs : ∀ r∈rs,r∈B.rws) {ct:Nat} (hc:ct<=rs.flatten.length) (hl:n+M<=(rs.flatten.drop ct).length) {sq:List ae} (hq:S0 sq) {H:Hp} {v:V}
 (hv:eh H sq (fh (rs.flatten.drop ct)) (rs.flatten.drop ct).length ((rs.flatten.drop ct).length+1) v) :
 ∃ (a:Addr) (i:Nat),v=.ref a/\H a=some (.tup [.int (i:Int),.int 0])/\i<=n+M/\ct+i∈cW rs:=by
 rw[rO]at hv
 obtain⟨W,eW⟩ : ∃ W,W=rs.flatten:=⟨_,rfl⟩
 obtain⟨R,eR⟩ : ∃ R,R=W.drop ct:=⟨_,rfl⟩
 rw[<- eW]at hc hl hv
 rw[<- eR]at hl hv
 have lW:W.length=ct+R.length:=by rw[eR,List.length_drop]; omega
 have M1:1<=M:=Nat.le_trans (List.length_pos_iff.mpr (ne r0 h0)) (hM r0 h0)
 have pl:=ug pf ne h0 hM rs hrs
 rw[<- eW]at pl
 obtain⟨b0,_,a0,beg0,_⟩:=pl ct hc
 have st : ∀ m,m<=R.length->run (0,b0) (sg (R.take m))=run (0,[]) (sg (W.take (ct+m))):=λm hm=>by
  have e:W.take (ct+m)=W.take ct++R.take m:=by
   rw[eR,<- List.take_add]
  rw[e,iB,eE,a0]
  rfl
 have k0:((0,b0):ae)∈sq:=(hq.mem (0,b0)).mpr ⟨rfl,beg0⟩
 have al:Al sq (sg R) (0,b0):=by
  refine⟨k0,?_⟩
  obtain⟨b,_,a1,_⟩:=pl (ct+R.length) (by omega)
  have:=st R.length (Nat.le_refl _)
  rw[List.take_length]at this
  rw[this,a1]
  rfl
 have lv : ∀ {i:Nat} {k:ae},i<=R.length->(gn sq (sg R) i k ↔ ∃ k0,Al sq (sg R) k0/\run k0 (sg (R.take i))=some k):=λ{i k} hi=>by
  rw[uT hq (by rw[sW]; exact hi),sV]
 obtain⟨b1,d,c1,_,_,c4,c5,c6⟩:=pl (ct+(n+1)) (by omega)
 rw[<- st (n+1) (by omega)]at c1
 have same : ∀ k1,Al sq (sg R) k1->∀ k,run k1 (sg (R.take (n+1)))=some k->k=(0,b1):=λk1 h1 k hk=>by
  obtain⟨z,hb⟩:=(hq.mem k1).mp h1.1
  obtain⟨p1,cc⟩:=k1
  have z:p1=0:=z
  subst z
  have kz:=tz hk
  obtain⟨kp,kv⟩:=k
  have kz:kp=0:=kz
  subst kz
  refine Classical.byContradiction λnn=>?_
  have nv:kv≠b1:=λe=>nn (by rw[e])
  have hp:=ub hk c1 nv
  have ncc:cc≠b0:=λe=>nv (by
   rw[e,c1]at hk
   exact (Prod.mk.inj (Option.some.inj hk)).2.symm)
  have:=hmax (cc,b0) _ _ ⟨qy.mp hb,qy.mp beg0,ncc⟩ hp
  rw[List.length_take]at this
  omega
 obtain⟨i,ei⟩ : ∃ i,i=n+1+d:=⟨_,rfl⟩
 have hi:i<=R.length:=by omega
 have at_i:run (0,b0) (sg (R.take i))=some (0,[]):=by rw[st i hi,ei,<- Nat.add_assoc]; exact c6
 have two:R.take i=R.take (n+1)++(R.drop (n+1)).take d:=by rw[ei]; exact List.take_add
 have uni:js sq (sg R) i 0:=λk=>by
  rw[lv hi]
  constructor
  ·rintro⟨k1,h1,hk⟩
   rw[two,iB,eE]at hk
   cases e:run k1 (sg (R.take (n+1))) with
   | none=>rw[e]at hk; cases hk
   | some k' =>
    have e':=same k1 h1 k' e
    rw[two,iB,eE,c1]at at_i
    rw[e,e']at hk
    have hk:run (0,b1) (sg ((R.drop (n+1)).take d))=some k:=hk
    have at_i:run (0,b1) (sg ((R.drop (n+1)).take d))=some (0,[]):=at_i
    rw[at_i]at hk
    exact (Option.some.inj hk).symm
  ·rintro rfl
   exact⟨_,al,at_i⟩
 rcases hv with ⟨_,no⟩ | ⟨a,i1,p1,rfl,ha,_,hi1,u1,least⟩
 ·exact absurd uni (no i 0 (by omega) hi)
 ·have l1:i1<=i:=Nat.le_of_not_lt λc=>least i 0 (by omega) c uni
  obtain⟨b,_,e1,_,e3,_⟩:=pl (ct+i1) (by omega)
  rw[<- st i1 hi1]at e1
  have:=(u1 (0,b)).mp ((lv hi1).mpr ⟨_,al,e1⟩)
  obtain⟨z1,z2⟩:=Prod.mk.inj this
  subst z1
  refine⟨a,i1,rfl,?_,by omega,e3 z2⟩
  have e:((i1:Int)*(SZ:Int))=(i1:Int):=Int.mul_one _
  rw[e]at ha
  exact ha
end My
namespace My
open PySem L2
section
variable {P:Program}{w:World}{K:PySem.W.Frag}{mg:Str->Option Value}{base:Heap}{t:Adr}
theorem uW{α:Type}{f:α->PyData}{n:Nat}(h : ∀ x,(f x).canLay0=true/\(f x).depth<=n) : ∀ l:List α,PyData.canLayAll0 (l.map f)=true/\PyData.depthAll (l.map f)<=n
 | []=>⟨rfl,Nat.zero_le _⟩
 | x :: l=>by
  obtain⟨a,b⟩:=uW h l
  obtain⟨c,d⟩:=h x
  refine⟨?_,?_⟩
  ·rw[List.map_cons,PyData.canLayAll0,a,c]; rfl
  ·rw[List.map_cons,PyData.depthAll]; omega
theorem uX{α:Type}{f:α->PyData}{n:Nat}(h : ∀ x,(f x).canLay0=true/\(f x).depth<=n)(l:List α):(PyData.list (l.map f)).canLay0=true/\(PyData.list (l.map f)).depth<=n+1:=by
 obtain⟨a,b⟩:=uW h l
 exact⟨by simpa [PyData.canLay0] using a,by simp[PyData.depth]; omega⟩
theorem wq{α:Type}{f:α->PyData}{v:α->V}{H:Hp} : ∀ {l:List α},(∀ x∈l,bu K H (f x) (v x))->cQ K H (l.map f) (l.map v)
 | [],_=>.nil
 | x :: l,h=>.cons (h x (List.mem_cons_self ..)) (wq λy hy=>h y (List.mem_cons_of_mem _ hy))
theorem vZ{α:Type}[DecidableEq α]{f:α->PyData}(h : ∀ x y,PyData.eqv (f x) (f y)=decide (x=y)) : ∀ l m:List α,PyData.eqvAll (l.map f) (m.map f)=decide (l=m)
 | [],[]=>rfl
 | [],_ :: _=>rfl
 | _ :: _,[]=>rfl
 | x :: l,y :: m=>by
  rw[List.map_cons,List.map_cons,PyData.eqvAll,h,vZ h l m]
  by_cases a:x=y <;> by_cases b:l=m <;> simp[a,b]
def dI(r:List Int):PyData:=.list (r.map PyData.int)
theorem FA(r:List Int):(dI r).canLay0=true/\(dI r).depth<=2:=uX (n:=1) (λx=>⟨rfl,by simp[PyData.depth]⟩) r
theorem FB(r s:List Int):PyData.eqv (dI r) (dI s)=decide (r=s):=v8 r s
theorem FC{H:Hp}{a:Addr}{r:List Int}(h:H a=some (.lst (r.map V.int))):bu K H (dI r) (.ref a):=bu.lst (.of h) (cQ.ints r)
theorem sU{d:PyData}{n:Nat}(h:d.canLay0=true/\d.depth<=n)(hn:n<=64):SeqAt.shaped d=true:=by
 unfold SeqAt.shaped
 rw[h.1,decide_eq_true (by omega:d.depth<=64)]
 rfl
theorem cA.of{H H':Hp}(s:ag H H'):cA H H':=λc u e _=>s c u e
theorem cA.trans{H H1 H2:Hp}(s:cA H H1)(s':cA H1 H2):cA H H2:=λc u e n=>s' c u (s c u e n) n
theorem yd{H H':Hp}{a:Addr}{f:Ft}{es:List (Int × List Int)}{n:Nat}(h:Tt t H a f es n)(s:cA H H'):Tt t H' a f es n:=by
 obtain⟨o,⟨k1,k2,k3,a1,a2,a3,l1,l2,l3,kv⟩,ne⟩:=h
 exact⟨s _ _ o (by intro ps z; cases z),⟨k1,k2,k3,s _ _ a1 (by intro ps z; cases z),s _ _ a2 (by intro ps z; cases z),s _ _ a3 (by intro ps z; cases z),l1,l2,l3,kv.mono λq xs e=>s _ _ e (by intro ps z; cases z)⟩,ne⟩
theorem A9(rs:List (List Int)):(aH rs).length=(rs.map λr=>r.length).sum:=by
 induction rs with
 | nil=>rfl
 | cons r rs ih =>
  show (bQ r r.length++aH rs).length=_
  rw[List.length_append,ih]
  have:(bQ r r.length).length=r.length:=by unfold bQ; rw[List.length_map,List.length_range]
  rw[this]
  rfl
def fO(n:Int)(d:Int)(rs:List (List Int)):List (Int × List Int):=rs.mapIdx λk r=>(n+d*(k:Int),r)
theorem mW{n d:Int}{rs:List (List Int)}{i:Nat}{r:List Int}(h:rs[i]? = some r):(fO n d rs)[i]? = some (n+d*(i:Int),r):=by
 unfold fO
 rw[List.getElem?_mapIdx,h]
 rfl
theorem kG(n d:Int)(rs:List (List Int)):(fO n d rs).length=rs.length:=by unfold fO; rw[List.length_mapIdx]
theorem yf(n d:Int)(rs:List (List Int)):((fO n d rs).map λe=>e.2)=rs:=by
 refine List.ext_getElem? λi=>?_
 rw[List.getElem?_map]
 cases c:rs[i]? with
 | none =>
  have:=List.getElem?_eq_none_iff.mp c
  rw[List.getElem?_eq_none_iff.mpr (by rw[kG]; exact this)]
  rfl
 | some r=>rw[mW c]; rfl
theorem yg{n d:Int}{rs:List (List Int)}(h:jt rs)(l:rs.length<=12)(d1:d=1\/d = -1)(n0:20<=n)(n1:n<=2000):Es (fO n d rs):=by
 have at_ : ∀ {i:Nat} {e:Int × List Int},(fO n d rs)[i]? = some e->∃ r,rs[i]? = some r/\e=(n+d*(i:Int),r)/\i < 12:=λ{i e} he=>by
  have il:=(List.getElem?_eq_some_iff.mp he).1
  rw[kG]at il
  have hr:rs[i]? = some rs[i]:=List.getElem?_eq_getElem il
  rw[mW hr]at he
  exact⟨_,hr,(Option.some.inj he).symm,by omega⟩
 refine⟨λe he=>?_,?_,by rw[kG]; omega⟩
 ·obtain⟨i,hi⟩:=List.getElem?_of_mem he
  obtain⟨r,hr,rfl,il⟩:=at_ hi
  obtain⟨a,b,c⟩:=h.sg r (List.mem_of_getElem? hr)
  refine⟨?_,a,b,c⟩
  unfold Sg
  dsimp only
  rcases d1 with rfl | rfl <;> omega
 ·refine List.pairwise_iff_getElem.mpr λi j hi hj hij=>?_
  obtain⟨r,hr,e1,il⟩:=at_ (List.getElem?_eq_getElem hi)
  obtain⟨r',hr',e2,jl⟩:=at_ (List.getElem?_eq_getElem hj)
  rw[e1,e2]
  have i2:=(List.getElem?_eq_some_iff.mp hr)
  have j2:=(List.getElem?_eq_some_iff.mp hr')
  have n2:=List.pairwise_iff_getElem.mp h.pw i j i2.1 j2.1 hij
  rw[i2.2,j2.2]at n2
  unfold de
  dsimp only
  rw[n2.1,n2.2,decide_eq_false (by rcases d1 with rfl | rfl <;> omega)]
  rfl
def yT(K:PySem.W.Frag):Sp:=λvs H Q _=>∃ (a:Addr) (ns:List Int) (k:Nat),vs=[.ref a,.int (k:Int)]/\ax K H a (ns.map V.int)/\ns.length<=1000/\∀ H',ag H H'->Q (.int (ns.getD k 0)) H'
theorem DA (T:Txt K mg t):bj P w K mg base "_law_pick" 1 t.qE t.o4 ["_law_script", "_law_k"] (yT K):=by
 refine⟨T.Ek,T.xf.kp,T.GC,T.xf.okQ zk (λvs H Q E h=>by obtain⟨a,ns,i,rfl,_⟩:=h; rfl) λcdv A outer s H vs Q E hr h=>?_⟩
 obtain⟨a,ns,i,rfl,h1,hl,k⟩:=h
 refine⟨_,(au (aJ (aK (aL (K:=K) rfl) (bO (cL (K:=K) rfl) (c7 (dS (K:=K) rfl) (aa 0) (cr (aa 1)) (cr (bO (cL (K:=K) rfl) (aa 1) av))) (cf (af av ai))) av (λ_ _=>rfl)))),?_⟩
 refine⟨_,rfl,_,rfl,_,h1,λp1 H1 g1=>?_⟩
 have e:cy (ns.map V.int) (some (i:Int)) (some ((i:Int)+1))=((ns.drop i).take 1).map V.int:=by rw[ia]; exact congrArg _ (mj ns i 1)
 rw[e]at g1
 refine⟨sz rfl,λp2 H2 g2=>?_⟩
 refine⟨_,_,g2.sm.seq g1.lst,g2.lst,?_,λp3 H3 g3=>?_⟩
 ·rw[List.length_map,List.length_take]
  exact Nat.le_trans (Nat.add_le_add_right (Nat.min_le_left _ _) 1) (by decide)
 have e3:((ns.drop i).take 1).map V.int++[V.int 0]=(((ns.drop i).take 1)++[0]).map V.int:=by simp
 rw[e3]at g3
 have hv:(((ns.drop i).take 1)++[0])[0]? = some (ns.getD i 0):=by
  have e0:ns[i]? = (ns.drop i)[0]?:=by rw[List.getElem?_drop]; rfl
  rw[List.getD_eq_getElem?_getD,e0]
  cases ns.drop i with
  | nil=>rfl
  | cons x r=>rfl
 refine⟨_,.int (ns.getD i 0),.inl g3.lst,aZ (j:=0) (by rw[List.getElem?_map,hv]; rfl),?_⟩
 exact k _ ((g1.sm.trans g2.sm).trans g3.sm)
theorem Dn(n:Int)(ns:List Int):hV (.int n) (ns.map V.int)=decide (n∈ns):=by
 induction ns with
 | nil=>rfl
 | cons m ns ih =>
  unfold hV at *
  rw[List.map_cons,List.any_cons,ih]
  simp only [fF,List.mem_cons]
  by_cases e:m=n
  ·simp[e]
  ·have : ¬ n=m:=λz=>e z.symm
   simp[e,this]
theorem Fc(ns:List Int):(ns.map V.int).all dZ=true:=by
 rw[List.all_eq_true]
 intro x hx
 obtain⟨n,_,rfl⟩:=List.mem_map.mp hx
 rfl
theorem jt.pf{rs:List (List Int)}(h:jt rs):Pf rs:=by
 intro x hx y hy hp
 have b1:bd x y=true:=decide_eq_true (List.prefix_iff_eq_take.mp hp).symm
 obtain⟨i,hi,rfl⟩:=List.mem_iff_getElem.mp hx
 obtain⟨j,hj,rfl⟩:=List.mem_iff_getElem.mp hy
 rcases Nat.lt_trichotomy i j with c | c | c
 ·have:=(List.pairwise_iff_getElem.mp h.pw i j hi hj c).1
  rw[b1]at this; cases this
 ·subst c; rfl
 ·have:=(List.pairwise_iff_getElem.mp h.pw j i hj hi c).2
  rw[b1]at this; cases this
def ej(H:Hp)(a:Addr)(us:List AL):Prop:=H a=some (.lst (us.map λu=>V.ref u.1))/\∀ u∈us,H u.1=some (.lst (u.2.map V.int))
theorem ej.mono{H H':Hp}{a:Addr}{us:List AL}(h:ej H a us)(s:ag H H'):ej H' a us:=⟨s _ _ h.1,λu hu=>s _ _ (h.2 u hu)⟩
theorem CU{H H':Hp}{a:Addr}{us:List AL}(h:ej H a us)(s:cA H H'):ej H' a us:=⟨s _ _ h.1 (by intro ps z; cases z),λu hu=>s _ _ (h.2 u hu) (by intro ps z; cases z)⟩
def j9(rs:List (List Int)):PyData:=.list (rs.map dI)
theorem wr(rs:List (List Int)):(j9 rs).canLay0=true/\(j9 rs).depth<=3:=uX FA rs
theorem Fz(R S:List (List Int)):PyData.eqv (j9 R) (j9 S)=decide (R=S):=by
 show PyData.eqvAll _ _=_
 exact vZ FB R S
theorem wu{H:Hp}{a:Addr}{us:List AL}(h:ej H a us):bu K H (j9 (us.map λu=>u.2)) (.ref a):=by
 refine bu.lst (.of h.1) ?_
 rw[List.map_map]
 exact wq (f:=λu:AL=>dI u.2) (v:=λu=>V.ref u.1) λu hu=>FC (h.2 u hu)
theorem wa{H:Hp}{a b:Addr}{us:List AL}{neg:Bool}{Q:VK}(h:ej H a us)(hb:H b=some (.lst []))(k:Q (.bl (if neg then !decide (us=[]) else decide (us=[]))) H):hX K neg (.ref a) (.ref b) H Q:=by
 refine⟨_,_,wu h,wu (us:=[]) ⟨hb,λu h=>nomatch h⟩,sU (wr _) (by decide),sU (wr _) (by decide),?_⟩
 rw[Fz]
 have e:decide ((us.map λu=>u.2)=([]:List AL).map λu=>u.2)=decide (us=[]):=by cases us <;> simp
 rw[e]
 exact k
theorem qA{ps:List AL}{j:Nat}{x:V}(h:(ps.map λx=>V.ref x.1)[j]? = some x) : ∃ q∈ps,ps[j]? = some q/\x=.ref q.1:=by
 rw[List.getElem?_map]at h
 obtain⟨q,hq,e⟩:=Option.map_eq_some_iff.mp h
 exact⟨q,List.mem_of_getElem? hq,hq,e.symm⟩
def yN(K:PySem.W.Frag):Sp:=λvs H Q _=>∃ (a c:Addr) (ps:List AL) (cs:List Int),vs=[.ref a,.ref c]/\ej H a ps/\ps.length<=12/\ax K H c (cs.map V.int)/\cs.length<=100 /\
 ∀ p (qs:List AL) H',ag H H'->H p=none->ej H' p qs->(∀ q∈qs,q∈ps)->qs.length<=100->Q (.ref p) H'
theorem Dy (T:Txt K mg t):bj P w K mg base "_law_signs" 1 t.qB t.oX ["_law_rows_here", "_law_cells"] (yN K):=by
 refine⟨T.Eh,T.xa.kp,T.Gz,T.xa.okQ zi (λvs H Q E h=>by obtain⟨a,c,ps,cs,rfl,_⟩:=h; rfl) λcdv A outer s H vs Q E hr h=>?_⟩
 obtain⟨a,c,ps,cs,rfl,hp,lp,hc,lc,k⟩:=h
 have hu:=hr.units
 refine⟨_,(ap (bM (bw (eT (K:=K) rfl hu) (aa 0) (cf ai) (bc _)) (au (aJ (cf ai))) bL)
  (au (aJ (eJ rfl (bZ.of (fns:=(am gH).names) (N:=["_law_rows_here", "_law_cells"]) (Nc:=["_law_cell", "_law_rows_here"]) (nv:=1) (caps:=[0]) rfl rfl (by decide +kernel)) (dz (K:=K) rfl (aa 1)) (λ_ _ _ _=>(aD (i:=0) (show List.Nodup (["_law_cell", "_law_rows_here"]:List Str) by decide +kernel) rfl (Or.inl rfl) (Or.inr rfl))) (λ_ _ _ _=>fq) (λ_ _ _ _=>(aK (aL (K:=K) rfl) (aa 1) (bO vH (aa 0) (be (bR (K:=K) rfl) T.n_len PySem.boot_len (af (aa 1) ai))) (λ_ _=>rfl))))))),?_⟩
 refine⟨sz rfl,λp1 H1 g1=>?_⟩
 refine wa (hp.mono g1.sm) g1.at_ ?_
 refine aF (λz=>?_) (λz=>?_)
 ·exact⟨sz rfl,λp2 H2 g2=>k p2 [] H2 (g1.sm.trans g2.sm) (g1.sm.free g2.nw) ⟨g2.at_,λu h=>nomatch h⟩ (λq h=>nomatch h) (Nat.zero_le _)⟩
 ·have pn:ps≠[]:=λe=>z (decide_eq_true e)
  have pl:=List.length_pos_iff.mpr pn
  refine⟨c,rfl,⟨_,g1.sm.seq hc⟩,wz (K:=K) (a:=c) (xs:=cs.map V.int) (λj ys H'=>ag H1 H'/\∃ qs:List AL,ys=qs.map (λq=>V.ref q.1)/\(∀ q∈qs,q∈ps)/\qs.length<=j) ⟨ag.refl _,[],rfl,(λq h=>nomatch h),Nat.le_refl _⟩ (λj ys H' _ z=>⟨(g1.sm.trans z.1).seq hc,?_⟩) (ce (by rw[List.length_map]; omega)) (λj x ys H3 N hx z hN=>?_) λys H3 pl H4 z g4=>?_⟩
  ·obtain⟨_,qs,rfl,_,l⟩:=z
   rw[List.length_map]; exact l
  ·obtain⟨s3,qs,rfl,mem,l⟩:=z
   obtain⟨n,hn,rfl⟩:=oz hx
   simp only [fi,if_true]
   have s03:=g1.sm.trans s3
   refine⟨_,.inl (.of (s03 _ _ hp.1)),?_⟩
   rw[List.length_map]
   have h0:=Int.emod_nonneg n (b:=(ps.length:Int)) (by omega)
   have h1:=Int.emod_lt_of_pos n (b:=(ps.length:Int)) (by omega)
   obtain⟨m,hm⟩ : ∃ m:Nat,n%(ps.length:Int)=(m:Int):=⟨(n%(ps.length:Int)).toNat,by omega⟩
   have ml:m < ps.length:=by omega
   obtain⟨q,hq⟩ : ∃ q,ps[m]? = some q:=⟨_,List.getElem?_eq_getElem ml⟩
   refine⟨by omega,?_⟩
   refine⟨_,.ref q.1,.inl (.of (s03 _ _ hp.1)),by rw[hm]; exact aZ (by rw[List.getElem?_map,hq]; rfl),?_⟩
   refine hN _ _ ⟨s3,qs++[q],by rw[List.map_append]; rfl,λx hx=>?_,by rw[List.length_append]; exact Nat.succ_le_succ l⟩
   rcases List.mem_append.mp hx with h | h
   ·exact mem x h
   ·rw[List.mem_singleton.mp h]; exact List.mem_of_getElem? hq
  ·obtain⟨s3,qs,rfl,mem,l⟩:=z
   rw[List.length_map]at l
   have s14:=g1.sm.trans (s3.trans g4.sm)
   exact k pl qs H4 s14 ((g1.sm.trans s3).free g4.nw) ⟨g4.at_,λu hu=>s14 _ _ (hp.2 u (mem u hu))⟩ mem (by omega)
theorem yA{H H':Hp}{a:Addr}{xs:List V}(h:ax K H a xs)(s:cA H H'):ax K H' a xs:=by
 rcases h with (h | ⟨o,h⟩) | h
 ·exact .inl (.inl (s _ _ h (by intro ps z; cases z)))
 ·exact .inl (.inr ⟨o,s _ _ h (by intro ps z; cases z)⟩)
 ·exact .inr h
def m9(K:PySem.W.Frag):Sp:=λvs H Q _=>∃ a,vs=[.ref a]/\∃ ns:List Int,ax K H a (ns.map V.int)/\ns.length<=63/\mI 108 H/\∀ H',Q (.bl true) H'
theorem DJ (T:Txt K mg t) (hBI:base.BuiltinsAt mg 108):bj P w K mg base "law" 10 t.qN t.md ["_law_script"] (m9 K):=by
 refine⟨T.vJ,T.rF.kp,T.GM,T.rF.okQ cX (λvs H Q E h=>by obtain⟨a,rfl,_⟩:=h; rfl) λcdv A outer s H vs Q E hr h=>?_⟩
 obtain⟨a,rfl,sc,h1,hc,hO,k⟩:=h
 have hu:=hr.units
 refine⟨_,(ap (aE (i:=1) cX.nd rfl (.inl rfl) (aX (Dz T) hr (af (c7 (dS (K:=K) rfl) (aa 0) (cr av) (cr av)) ai)))
  (ap (aE (i:=2) cX.nd rfl (.inl rfl) (Au (Dt T) hr (af (eJ rfl (bZ.of (fns:=(am fR).names) (N:=["_law_script", "_law_rows_here", "_law_tongue", "_law_word", "_law_many", "_law_witness", "_law_row", "_law_begins_at", "_law_whole", "_law_cut", "_law_most", "_law_found"]) (Nc:=["_law_k", "_law_row"]) (nv:=2) (caps:=[]) rfl rfl (by decide +kernel)) (nP (K:=K) rfl rfl T.n_enumerate (af (aa 1) ai)) (λ_ _ _ _=>(cZ (K:=K) rfl (n:=2) rfl (bq (aD (i:=0) (show List.Nodup (["_law_k", "_law_row"]:List Str) by decide +kernel) rfl (Or.inl rfl) (Or.inr rfl)) (bq (aD (i:=1) (show List.Nodup (["_law_k", "_law_row"]:List Str) by decide +kernel) rfl (Or.inl rfl) (Or.inr rfl)) cY)))) (λ_ _ _ _=>fq) (λ_ _ _ _=>(bW (af (bO vF av (aa 0)) (af (aa 1) ai))))) ai)))
  (ap (Ab (aX (DG T hBI) hr (af (aa 2) ai)) (cZ (K:=K) rfl rfl (bq (aD (i:=3) cX.nd rfl (.inl rfl)) (bq (aD (i:=4) cX.nd rfl (.inl rfl)) (bq (aD (i:=5) cX.nd rfl (.inl rfl)) cY)))))
  (ap (bM (bw (eT (K:=K) rfl hu) (aa 3) fT (bc _)) (ap (aE (i:=6) cX.nd rfl (.inl rfl) (aK (aL (K:=K) rfl) (aa 5) av (λ_ _=>rfl)))
  (ap (bM (bw oJ (be (bR (K:=K) rfl) T.n_len PySem.boot_len (af (aa 6) ai)) av (bc _)) (au (aJ gW)) bL)
  (au (aJ (c8 (dR ji (aX (lV T) hr (af (aa 2) (af (aa 6) ai))) cR (bc _)) (c8 (dR ji (aX (lV T) hr (af (aa 2) (af (bO (cL (K:=K) rfl) (aa 6) (aa 6)) ai))) cR (bc _)) (dY (dR ji (aX (lV T) hr (af (aa 2) (af (bO Ey (aa 6) av) ai))) cR (bc _))))))))) bL)
  (ap (aE (i:=7) cX.nd rfl (.inl rfl) (cf (af av ai)))
  (ap (aE (i:=8) cX.nd rfl (.inl rfl) (cf ai))
  (ap (bN PassesOwn.never rfl (dz (K:=K) rfl (aX (Dy T) hr (af (aa 1) (af (c7 (dS (K:=K) rfl) (aa 0) (cr av) (cr av)) ai)))) (aD (i:=6) cX.nd rfl (.inl rfl)) (ap (aE (i:=8) cX.nd rfl (.inl rfl) (bO (cL (K:=K) rfl) (aa 8) (aa 6)))
  (au (dQ (fu (K:=K) rfl PySem.F.plainAttrs_list PySem.F.slot_list_append PySem.F.type_list_append fV (aa 7) (af (be (bR (K:=K) rfl) T.n_len PySem.boot_len (af (aa 8) ai)) ai))))))
  (ap (aE (i:=9) cX.nd rfl (.inl rfl) (bO vH (aX (DA T) hr (af (aa 0) (af av ai))) (bO (cL (K:=K) rfl) (be (bR (K:=K) rfl) T.n_len PySem.boot_len (af (aa 8) ai)) av)))
  (ap (aE (i:=10) cX.nd rfl (.inl rfl) (bO (cL (K:=K) rfl) (aa 4) (be (Ga (K:=K) rfl rfl) T.n_max PyProof.Rows.boot_max (af (bO (cL (K:=K) rfl) (cf (af av ai)) (eJ rfl (bZ.of (fns:=(am fR).names) (N:=["_law_script", "_law_rows_here", "_law_tongue", "_law_word", "_law_many", "_law_witness", "_law_row", "_law_begins_at", "_law_whole", "_law_cut", "_law_most", "_law_found"]) (Nc:=["_law_row"]) (nv:=1) (caps:=[]) rfl rfl (by decide +kernel)) (dz (K:=K) rfl (aa 1)) (λ_ _ _ _=>(aD (i:=0) (show List.Nodup (["_law_row"]:List Str) by decide +kernel) rfl (Or.inl rfl) (Or.inr rfl))) (λ_ _ _ _=>fq) (λ_ _ _ _=>(be (bR (K:=K) rfl) T.n_len PySem.boot_len (af (aa 0) ai))))) ai))))
  (ap (bM (jc (ja (bw (eT (K:=K) rfl hu) (aa 1) (cf ai) (bc _)) (kW (bw lX (bO vF (be (bR (K:=K) rfl) T.n_len PySem.boot_len (af (aa 8) ai)) (aa 9)) (aa 10) (bc _))))) (au (aJ gW)) bL)
  (ap (aE (i:=11) cX.nd rfl (.inl rfl) (aX (lV T) hr (af (aa 2) (af (c7 (dS (K:=K) rfl) (aa 8) (cr (aa 9)) eI) ai))))
  (ap (bM (jc (ja (ft (gX (be (jq (K:=K) rfl) T.n_isinstance PyProof.Rows.boot_isinstance (af (aa 11) (af (jb rfl T.n_tuple PyProof.Rows.boot_tuple) ai))))) (ja (bw (jh (K:=K) rfl hu) (be (bR (K:=K) rfl) T.n_len PySem.boot_len (af (aa 11) ai)) av (bc _)) (ja (ft (gX (aX (vA T) hr (af (aK (aL (K:=K) rfl) (aa 11) av (λ_ _=>rfl)) ai)))) (kW (bw lX (aK (aL (K:=K) rfl) (aa 11) av (λ_ _=>rfl)) av (bc _))))))) (au (aJ gW)) bL)
  (au (aJ (c8 (dR dD (aK (aL (K:=K) rfl) (aa 11) av (λ_ _=>rfl)) (aa 10) (bc _)) (c8 (aX (vA T) hr (af (aK (aL (K:=K) rfl) (aa 11) av (λ_ _=>rfl)) ai)) (c8 (dR (eT (K:=K) rfl hu) (aK (aL (K:=K) rfl) (aa 11) av (λ_ _=>rfl)) av (bc _)) (dY (dR (EL (K:=K) rfl) (bO (cL (K:=K) rfl) (aa 9) (aK (aL (K:=K) rfl) (aa 11) av (λ_ _=>rfl))) (aa 7) (by with_unfolding_all rfl)))))))))))))))))))),?_⟩
 have tab0:di H 108 qS pS:=.inl hO.1
 refine⟨_,rfl,_,rfl,_,h1,λpc H1 g1=>?_⟩
 rw[show cy (sc.map V.int) (some 1) (some 11)=((sc.drop 1).take 10).map V.int by rw[ia]; exact congrArg _ (mj sc 1 10)]at g1
 refine⟨pc,_,rfl,g1.lst,by rw[List.length_take]; omega,λp ps H2 s2 hp hps rws lps=>?_⟩
 obtain⟨rows,er⟩ : ∃ rows,rows=ps.map λx=>x.2:=⟨_,rfl⟩
 rw[<- er]at rws
 have lrp:rows.length=ps.length:=by rw[er,List.length_map]
 have s02:=g1.sm.trans s2
 have ls2:ej H2 p ps:=⟨hp,hps⟩
 obtain⟨es,ees⟩ : ∃ es,es=fO 200 (-1) rows:=⟨_,rfl⟩
 have esok:Es es:=by rw[ees]; exact yg rws (by omega) (.inr rfl) (by decide) (by decide)
 have les:es.length=rows.length:=by rw[ees,kG]
 have erow:(es.map λe=>e.2)=rows:=by rw[ees]; exact yf ..
 refine⟨p,_,rfl,.of hp,?_⟩
 refine FK (K:=K) (a:=p) (xs:=ps.map λx=>V.ref x.1) (λi ys H'=>ag H2 H'/\∃ ts:List Addr,ys=ts.map V.ref/\rG H' ts (es.take i)) ⟨ag.refl _,[],rfl,az.nil⟩ (λi ys H' hi z=>⟨.of (z.1 _ _ hp),?_⟩) (ce (by rw[List.length_map]; omega)) (λi x ys H' HB N hx z sB hN=>?_) λys H' pr HB z gB=>?_
 ·obtain⟨_,ts,rfl,al⟩:=z
  have:=al.1
  rw[List.length_take]at this
  rw[List.length_map]
  omega
 ·obtain⟨s',ts,rfl,al⟩:=z
  obtain⟨q,hq,hqi,rfl⟩:=qA hx
  simp only [fi,if_true]
  have sAB:=s'.trans sB
  have hri:rows[i]? = some q.2:=by rw[er,List.getElem?_map,hqi]; rfl
  have hei:es[i]? = some (200 - (i:Int),q.2):=by rw[ees,mW hri,Int.neg_one_mul]; rfl
  refine⟨sz rfl,λp5 HD gD=>hN _ _ ⟨sAB.trans gD.sm,ts++[p5],by rw[List.map_append]; rfl,?_⟩⟩
  obtain⟨r1,r6,_⟩:=rws.sg q.2 (List.mem_of_getElem? hri)
  rw[List.take_add_one,hei]
  exact az.app (al.imp λc e' h=>h.mono (sB.trans gD.sm)) (az.cons ⟨⟨q.1,gD.at_,gD.sm _ _ (sAB _ _ (hps q hq))⟩,r1,r6⟩ az.nil)
 obtain⟨s6,ts,rfl,al⟩:=z
 rw[List.length_map,<- lrp,<- les,List.take_length]at al
 refine λx dx hxn hdx hne=>?_
 have s2B:=s6.trans gB.sm
 obtain⟨H9,e9⟩ : ∃ H9,H9=upd (upd HB dx (.own x)) x (.ins t.bf dx []):=⟨_,rfl⟩
 have sB9:ag HB H9:=λb ob q=>by rw[e9,ak (br q hxn),ak (br q hdx)]; exact q
 have a9:H9 x=some (.ins t.bf dx []):=by rw[e9]; exact aN
 rw[<- e9]
 clear e9
 refine⟨x,dx,pr,ts,es,rfl,a9,sB9 _ _ gB.at_,(al.imp λc e' h=>h.mono (gB.sm.trans sB9)),esok,λf HC kC ttC=>⟨rfl,?_⟩⟩
 have sBC:ag HB HC:=λb ob q=>kC _ _ (br q hxn) (sB9 _ _ q)
 have s2C:=s2B.trans sBC
 have s0C:=s02.trans s2C
 have tabC:=jH tab0 s0C
 have lp:(aH (es.map λe=>e.2)).length<=200:=by rw[erow,A9]; have:=rws.tot; omega
 refine⟨x,f,es,1000,rfl,ttC,Nat.le_refl _,esok,lp,tabC,λpf sw m v HD sD tabD hpf told=>?_⟩
 rw[erow]at told
 have tD:=nq tabC sD
 refine⟨pf,_,rfl,.of hpf,rfl,_,_,rfl,_,_,rfl,_,_,rfl,rfl,?_⟩
 have l6 : ∀ r∈rows,r.length<=6:=λr hr=>(rws.sg r hr).2.1
 have pf0:=rws.pf
 have ner : ∀ r∈rows,r≠[]:=λr hr z=>by have:=(rws.sg r hr).1; rw[z]at this; cases this
 let B:Tb:=⟨rows,l6,by omega⟩
 have toD : ∀ {H'},cA HD H'->@TO B t H' x:=λ{H'} s'=>⟨f,es,yd ttC (tD.trans s'),esok,erow⟩
 have h1D:ax K HD a (sc.map V.int):=yA (s0C.seq h1) tD
 have lsD:ej HD p ps:=CU (ls2.mono s2C) tD
 have cs:(sw = "never"/\∃ k r wt l1 l2 l,db (aH rows) k/\v=.ref wt/\HD wt=some (.tup [.ref l1,.ref l2,.ref l])/\HD l=some (.lst (r.map V.int))/\ba (@bY B) k r=some k)\/(sw = "within"/\∃ n:Nat,m=(n:Int)/\n<=160000/\∀ k r g,db (aH rows) k->ba (@bY B) k r=some g->r.length<=n):=by
  rcases told with ⟨no,e1,e2,e3⟩ | ⟨k',r',nk',lr',⟨wt,l1,l2,l,e4,hw,h1',h2',h3',_⟩,⟨e1,e2,rne,hp'⟩ | ⟨e1,e2,_,mx⟩⟩
  ·exact .inr ⟨e1,0,e2,by omega,λk r g nk=>absurd nk (no k)⟩
  ·exact .inl ⟨e1,k',r',wt,l1,l2,l,nk',e4,hw,h3',hp'⟩
  ·exact .inr ⟨e1,r'.length,e2.symm,lr',λk r g nk hp=>by have:=mx k r g nk hp; omega⟩
 refine⟨_,_,bu.str _,bu.str _,?_,by decide +kernel,?_⟩
 ·rcases cs with ⟨rfl,_⟩ | ⟨rfl,_⟩ <;> decide +kernel
 rcases cs with ⟨rfl,kk,r,wt,l1,l2,l,nk,rfl,hw,hl,hpk⟩ | ⟨rfl,n,rfl,ln,hmax⟩
 ·have e1:PyData.eqv (.str ("never" : Str)) (.str ("never" : Str))=true:=by decide
  rw[e1]
  refine fX ?_
  refine⟨_,.ref l,.inr (.of hw),aZ (j:=2) rfl,?_⟩
  refine⟨_,.inl (.of hl),?_⟩
  rw[List.length_map]
  refine aF (λz=>k _) (λz=>?_)
  have l600:r.length<=600:=Nat.le_of_not_lt λc=>z (decide_eq_true (by omega))
  have rp : ∀ q:List Int,ba (@bY B) kk q=some kk->ba (@bY B) kk (q++r)=some kk:=λq h=>by rw[nV,h]; exact hpk
  refine⟨B,x,l,r,r.length,rfl,toD (cA.of (ag.refl _)),.of hl,(Nat.mul_one _).symm,by omega,λsq v2 HE hq sE hlst=>?_⟩
  obtain rfl:=nZ hq nk hpk hlst
  refine⟨_,_,.of (sE _ _ hl),.of (sE _ _ hl),ce (by rw[List.length_map]; omega),λp3 HF g3=>?_⟩
  rw[<- List.map_append]at g3
  have sF:=sE.trans g3.sm
  refine⟨B,x,p3,r++r,(r++r).length,rfl,toD (cA.of sF),g3.lst,(Nat.mul_one _).symm,by rw[List.length_append]; omega,λsq2 v3 HG hq2 sG hlst2=>?_⟩
  obtain rfl:=nZ hq2 nk (rp r hpk) hlst2
  have sDG:=sF.trans sG
  refine⟨_,sDG _ _ hl,by decide,by decide,ce (by rw[List.length_map,show (3:Int).toNat=3 from rfl]; omega),λp4 HI g4=>?_⟩
  have e3:(List.replicate (3:Int).toNat (r.map V.int)).flatten=(r++r++r).map V.int:=by simp[List.replicate,show (3:Int).toNat=3 from rfl]
  rw[e3]at g4
  refine⟨B,x,p4,r++r++r,(r++r++r).length,rfl,toD (cA.of (sDG.trans g4.sm)),g4.lst,(Nat.mul_one _).symm,by rw[List.length_append,List.length_append]; omega,λsq3 v4 HJ hq3 sJ hlst3=>?_⟩
  obtain rfl:=nZ hq3 nk (rp _ (rp r hpk)) hlst3
  exact k _
 ·have e1:PyData.eqv (.str ("within" : Str)) (.str ("never" : Str))=false:=by decide
  rw[e1]
  refine aF (λz=>absurd (show false=true from z) (by decide)) (λ_=>?_)
  unfold kI
  dsimp only
  refine⟨sz rfl,λbg HE gE=>?_⟩
  refine⟨sz rfl,λw0 HF gF=>?_⟩
  have sDF:=gE.sm.trans gF.sm
  refine⟨_,rfl,_,rfl,_,sDF.seq h1D,λpc2 HG gG=>?_⟩
  rw[show cy (sc.map V.int) (some 11) (some 71)=((sc.drop 11).take 60).map V.int by rw[ia]; exact congrArg _ (mj sc 11 60)]at gG
  have sDG:=sDF.trans gG.sm
  refine⟨p,pc2,ps,_,rfl,lsD.mono sDG,by omega,gG.lst,by rw[List.length_take]; omega,λpl qs HI sI npl lsq mem lq=>?_⟩
  have sDI:=sDG.trans sI
  obtain⟨rs,ers⟩ : ∃ rs,rs=qs.map λq=>q.2:=⟨_,rfl⟩
  have lrs:rs.length=qs.length:=by rw[ers,List.length_map]
  have rin : ∀ r∈rs,r∈rows:=λr hr=>by
   rw[ers]at hr
   obtain⟨q,hq,rfl⟩:=List.mem_map.mp hr
   rw[er]
   exact List.mem_map.mpr ⟨q,mem q hq,rfl⟩
  have lfl : ∀ i,((rs.take i).flatten).length<=6*i:=λi=>by
   have all : ∀ l:List (List Int),(∀ r∈l,r.length<=6)->l.flatten.length<=6*l.length:=by
    intro l
    induction l with
    | nil=>intro _; exact Nat.le_refl _
    | cons r l ih =>
     intro h
     have h1:=h r (List.mem_cons_self ..)
     have h2:=ih λx hx=>h x (List.mem_cons_of_mem _ hx)
     rw[List.flatten_cons,List.length_append,List.length_cons]
     omega
   have h1:=all (rs.take i) λr hr=>l6 r (rin r (List.mem_of_mem_take hr))
   rw[List.length_take]at h1
   omega
  have nbD:HD bg=none:=gE.nw
  have bgI:HI bg=some (.lst [.int 0]):=sI _ _ (gG.sm _ _ (gF.sm _ _ gE.at_))
  have w0I:HI w0=some (.lst []):=sI _ _ (gG.sm _ _ gF.at_)
  have nplb:pl≠bg:=(br (gG.sm _ _ (gF.sm _ _ gE.at_)) npl).symm
  have rowD : ∀ q∈qs,HD q.1=some (.lst (q.2.map V.int)):=λq hq=>lsD.2 q (mem q hq)
  refine⟨pl,rfl,⟨_,.of lsq.1⟩,gb (K:=K) (a:=pl) (xs:=qs.map λq=>V.ref q.1) (λi σ H'=>ag HD H'/\H' pl=some (.lst (qs.map λu=>V.ref u.1))/\(∃ wl,H' wl=some (.lst ((rs.take i).flatten.map V.int))/\wl≠bg/\H' bg=some (.lst ((cW (rs.take i)).map λn:Nat=>V.int (n:Int)))/\∃ v6,σ=[some (.ref a),some (.ref p),some (.ref x),some (.str "within"),some (.int (n:Int)),some v,v6,some (.ref bg),some (.ref wl),none,none,none])) ⟨sDI,lsq.1,w0,w0I,(br gE.at_ gF.nw).symm,bgI,_,rfl⟩ (λi σ H' _ z=>.of z.2.1) ?_ ?_⟩
  ·rintro i y σ HJ hy ⟨sJ,plJ,wl,hwl,nwb,hbg,v6,rfl⟩
   obtain⟨q,hq,hqi,rfl⟩:=qA hy
   have hri:rs[i]? = some q.2:=by rw[ers,List.getElem?_map,hqi]; rfl
   have et:rs.take (i+1)=rs.take i++[q.2]:=by rw[List.take_add_one,hri]; rfl
   have il:=(List.getElem?_eq_some_iff.mp hqi).1
   have q6:=l6 _ (rin _ (List.mem_of_getElem? hri))
   have lf:=lfl i
   refine bK ?_
   refine⟨_,_,.of hwl,.of (sJ _ _ (rowD q hq)),ce (by rw[List.length_map,List.length_map]; omega),λp2 HK gK=>?_⟩
   rw[<- List.map_append]at gK
   have np2:p2≠bg:=(br hbg gK.nw).symm
   refine⟨.inl ⟨rfl,_,.of (gK.sm _ _ hbg)⟩,?_⟩
   refine⟨_,.inl gK.lst,?_⟩
   have lb:(cW (rs.take i)).length=(rs.take i).length+1:=by
    have all : ∀ l:List (List Int),(cW l).length=l.length+1:=by
     intro l
     induction l with
     | nil=>rfl
     | cons r l ih=>unfold cW; rw[List.length_cons,List.length_map,ih]; rfl
    exact all _
   refine⟨_,gK.sm _ _ hbg,dP (by rw[List.length_map,lb,List.length_take]; omega),?_⟩
   refine⟨(sJ.trans gK.sm).put nbD,by rw[ak nplb]; exact gK.sm _ _ plJ,p2,by rw[ak np2,et,List.flatten_append,gK.at_]; simp,np2,?_,_,rfl⟩
   rw[aN,et,Gy,List.length_map,List.length_append]
   simp only [List.map_append,List.map_cons,List.map_nil]
  ·rintro σ HJ ⟨sJ,plJ,wl,hwl,nwb,hbg,v6,rfl⟩
   rw[List.length_map,<- lrs,List.take_length]at hwl hbg
   have lf:=lfl rs.length
   rw[List.take_length]at lf
   obtain⟨W,eW⟩ : ∃ W,W=rs.flatten:=⟨_,rfl⟩
   rw[<- eW]at hwl lf
   dsimp only
   refine⟨a,sc,0,rfl,sJ.seq h1D,by omega,λHK sK=>?_⟩
   have sDK:=sJ.trans sK
   refine⟨_,.inl (.of (sK _ _ hwl)),?_⟩
   rw[List.length_map]
   refine⟨by omega,?_⟩
   have h0:=Int.emod_nonneg (sc.getD 0 0) (b:=(W.length:Int)+1) (by omega)
   have h1':=Int.emod_lt_of_pos (sc.getD 0 0) (b:=(W.length:Int)+1) (by omega)
   obtain⟨ct,hct⟩ : ∃ ct:Nat,sc.getD 0 0%((W.length:Int)+1)=(ct:Int):=⟨(sc.getD 0 0%((W.length:Int)+1)).toNat,by omega⟩
   have ctl:ct<=W.length:=by omega
   refine bK ?_
   refine⟨sz rfl,λz0 HL gL=>?_⟩
   have sDL:=sDK.trans gL.sm
   have lsL:=lsD.mono sDL
   refine⟨p,rfl,⟨_,.of lsL.1⟩,mv ((ps.map λx=>(x.2.length:Int)).map V.int) (by simp) (.of lsL.1) (ce (by rw[List.length_map]; omega)) (λj x y H6 N hx hy s6 hN=>?_) λpm HM gM=>?_⟩
   ·obtain⟨q,hq,hqj,rfl⟩:=qA hx
    rw[List.getElem?_map,List.getElem?_map,hqj]at hy
    cases hy
    refine⟨_,.inl (.of (s6 _ _ (lsL.2 q hq))),?_⟩
    rw[List.length_map]
    exact hN _ (ag.refl _)
   refine⟨_,_,.of (gM.sm _ _ gL.at_),gM.lst,ce (by rw[List.length_map,List.length_map]; simp; omega),λpn HN gN=>?_⟩
   have ecat:([V.int 0]:List V)++(ps.map λx=>(x.2.length:Int)).map V.int=(0 :: ps.map λx=>(x.2.length:Int)).map V.int:=rfl
   rw[ecat]at gN
   refine⟨_,gN.lst,by simp,λmm hmm hmx=>?_⟩
   have sDN:=sDL.trans (gM.sm.trans gN.sm)
   obtain⟨M,hM⟩ : ∃ M:Nat,mm=(M:Int):=⟨mm.toNat,by have:=hmx 0 (List.mem_cons_self ..); omega⟩
   subst hM
   have hMr : ∀ r∈rows,r.length<=M:=λr hr=>by
    rw[er]at hr
    obtain⟨q,hq,rfl⟩:=List.mem_map.mp hr
    have:=hmx (q.2.length:Int) (List.mem_cons_of_mem _ (List.mem_map.mpr ⟨q,hq,rfl⟩))
    omega
   have M6:M<=6:=by
    rcases List.mem_cons.mp hmm with h | h
    ·omega
    ·obtain⟨q,hq,e⟩:=List.mem_map.mp h
     have:=l6 q.2 (by rw[er]; exact List.mem_map.mpr ⟨q,hq,rfl⟩)
     omega
   refine⟨sz rfl,λpe HO gO=>?_⟩
   have sDO:=sDN.trans gO.sm
   refine wa (lsD.mono sDO) gO.at_ ?_
   refine aF (λz=>?_) (λz=>?_)
   ·exact k _
   have pne:ps≠[]:=λe=>z (decide_eq_true e)
   have hwO:=sK _ _ hwl
   have wlO:HO wl=some (.lst (W.map V.int)):=gO.sm _ _ (gN.sm _ _ (gM.sm _ _ (gL.sm _ _ hwO)))
   have bgO:HO bg=some (.lst ((cW rs).map λn:Nat=>V.int (n:Int))):=gO.sm _ _ (gN.sm _ _ (gM.sm _ _ (gL.sm _ _ (sK _ _ hbg))))
   refine⟨_,.inl (.of wlO),?_⟩
   rw[List.length_map]
   refine aF (λz=>k _) (λz=>?_)
   have big:n+M<=W.length - ct:=by
    have z : ¬ ((W.length:Int) - sc.getD 0 0%((W.length:Int)+1) < (n:Int)+(M:Int)):=λh=>z (decide_eq_true h)
    omega
   refine⟨_,rfl,_,.of wlO,λpr HP gP=>?_⟩
   rw[hct,wv]at gP
   have sDP:=sDO.trans gP.sm
   obtain⟨r0,hr0⟩ : ∃ r0,r0∈rows:=by
    cases ps with
    | nil=>exact absurd rfl pne
    | cons q ps=>exact⟨q.2,by rw[er]; exact List.mem_map.mpr ⟨q,List.mem_cons_self ..,rfl⟩⟩
   refine⟨B,x,pr,W.drop ct,(W.drop ct).length,rfl,toD (cA.of sDP),gP.lst,(Nat.mul_one _).symm,by rw[List.length_drop]; omega,λsq v2 HQ hq sQ hlst=>?_⟩
   rw[eW]at hlst
   obtain⟨fa,i,rfl,hfa,il,ib⟩:=@xH B pf0 ner r0 hr0 M n hMr hmax rs rin ct (by rw[<- eW]; exact ctl) (by rw[<- eW,List.length_drop]; exact big) sq hq HQ v2 hlst
   refine⟨_,_,.tup hfa,by with_unfolding_all rfl,?_⟩
   refine aF (λz=>absurd z (by decide)) (λ_=>?_)
   refine⟨_,.inr (.of hfa),?_⟩
   refine⟨_,.int (i:Int),.inr (.of hfa),aZ (j:=0) rfl,?_⟩
   refine⟨(i:Int),rfl,?_⟩
   refine aF (λz=>absurd (show (!true)=true from z) (by decide)) (λ_=>?_)
   refine⟨_,.int (i:Int),.inr (.of hfa),aZ (j:=0) rfl,?_⟩
   refine⟨_,.int (i:Int),.inr (.of hfa),aZ (j:=0) rfl,?_⟩
   refine aF (λ_=>?_) (λz=>absurd (show decide ((i:Int)<=(n:Int)+(M:Int))=true from decide_eq_true (by omega)) z)
   refine⟨_,.int 0,.inr (.of hfa),aZ (j:=1) rfl,?_⟩
   refine⟨0,rfl,?_⟩
   refine fX ?_
   refine⟨_,.int 0,.inr (.of hfa),aZ (j:=1) rfl,?_⟩
   refine⟨_,.int (i:Int),.inr (.of hfa),aZ (j:=0) rfl,?_⟩
   have bgQ:HQ bg=some (.lst (((cW rs).map λn:Nat=>(n:Int)).map V.int)):=by
    rw[List.map_map]
    exact sQ _ _ (gP.sm _ _ bgO)
   refine⟨_,.inl (.of bgQ),rfl,Fc _,?_⟩
   refine bD (k _) ?_
   show true=hV (.int (sc.getD 0 0%((W.length:Int)+1)+(i:Int))) _
   rw[Dn,hct]
   exact (decide_eq_true (List.mem_map.mpr ⟨ct+i,ib,by omega⟩)).symm
end
end My
namespace My
open PySem L2
theorem CW{Pm:List Value->Prop}(h : ∀ _:Unit,Pm []) : ∀ us:List Value,us.length=0->Pm us
 | [],_=>h ()
theorem bX{Pm:List Value->Prop}(h : ∀ x0,Pm [x0]) : ∀ us:List Value,us.length=1->Pm us
 | x0 :: us,e=>CW (Pm:=λus=>Pm (x0 :: us)) (λ_=>h x0) us (Nat.succ.inj e)
theorem dB{Pm:List Value->Prop}(h : ∀ x0 x1,Pm [x0,x1]) : ∀ us:List Value,us.length=2->Pm us
 | x0 :: us,e=>bX (Pm:=λus=>Pm (x0 :: us)) (λx1=>h x0 x1) us (Nat.succ.inj e)
theorem fz{Pm:List Value->Prop}(h : ∀ x0 x1 x2,Pm [x0,x1,x2]) : ∀ us:List Value,us.length=3->Pm us
 | x0 :: us,e=>dB (Pm:=λus=>Pm (x0 :: us)) (λx1 x2=>h x0 x1 x2) us (Nat.succ.inj e)
theorem txt_mk{K:W.Frag}{h:Heap}{mg:Str->Option Value}(X:K.In h)(G:h.Ns mainGlobals mg)
 {a0:Addr} {od0 an0:Option Addr} {sl0:Array (Option Value)} {oc0 kV0 dc0 pm0 cd0 ct0:Value}
 {a1:Addr} {od1 an1:Option Addr} {sl1:Array (Option Value)} {oc1 kV1 dc1 pm1 cd1 ct1:Value}
 {a2:Addr} {od2 an2:Option Addr} {sl2:Array (Option Value)} {oc2 kV2 dc2 pm2 cd2 ct2:Value}
 {a3:Addr} {od3 an3:Option Addr} {sl3:Array (Option Value)} {oc3 kV3 dc3 pm3 cd3 ct3:Value}
 {a4:Addr} {od4 an4:Option Addr} {sl4:Array (Option Value)} {oc4 kV4 dc4 pm4 cd4 ct4:Value}
 {a5:Addr} {od5 an5:Option Addr} {sl5:Array (Option Value)} {oc5 kV5 dc5 pm5 cd5 ct5:Value}
 {a6:Addr} {od6 an6:Option Addr} {sl6:Array (Option Value)} {oc6 kV6 dc6 pm6 cd6 ct6:Value}
 {a7:Addr} {od7 an7:Option Addr} {sl7:Array (Option Value)} {oc7 kV7 dc7 pm7 cd7 ct7:Value}
 {a8:Addr} {od8 an8:Option Addr} {sl8:Array (Option Value)} {oc8 kV8 dc8 pm8 cd8 ct8:Value}
 {a9:Addr} {od9 an9:Option Addr} {sl9:Array (Option Value)} {oc9 kV9 dc9 pm9 cd9 ct9:Value}
 {a10:Addr} {od10 an10:Option Addr} {sl10:Array (Option Value)} {oc10 kV10 dc10 pm10 cd10 ct10:Value}
 {a11:Addr} {od11 an11:Option Addr} {sl11:Array (Option Value)} {oc11 kV11 dc11 pm11 cd11 ct11:Value}
 {a12:Addr} {od12 an12:Option Addr} {sl12:Array (Option Value)} {oc12 kV12 dc12 pm12 cd12 ct12:Value}
 {a13:Addr} {od13 an13:Option Addr} {sl13:Array (Option Value)} {oc13 kV13 dc13 pm13 ct13:Value}
 {a14:Addr} {od14 an14:Option Addr} {sl14:Array (Option Value)} {oc14 kV14 dc14 pm14 cd14 ct14:Value}
 {a15:Addr} {od15 an15:Option Addr} {sl15:Array (Option Value)} {oc15 kV15 dc15 pm15 cd15 ct15:Value}
 {a16:Addr} {od16 an16:Option Addr} {sl16:Array (Option Value)} {oc16 kV16 dc16 pm16 cd16 ct16:Value}
 {a17:Addr} {od17 an17:Option Addr} {sl17:Array (Option Value)} {oc17 kV17 dc17 pm17 cd17 ct17:Value}
 {a18:Addr} {od18 an18:Option Addr} {sl18:Array (Option Value)} {oc18 kV18 dc18 pm18 cd18 ct18:Value}
 {a19:Addr} {od19 an19:Option Addr} {sl19:Array (Option Value)} {oc19 kV19 dc19 pm19 cd19 ct19:Value}
 {a20:Addr} {od20 an20:Option Addr} {sl20:Array (Option Value)} {oc20 kV20 dc20 pm20 cd20 ct20:Value}
 {a21:Addr} {od21 an21:Option Addr} {sl21:Array (Option Value)} {oc21 kV21 dc21 pm21 cd21 ct21:Value}
 {a22:Addr} {od22 an22:Option Addr} {sl22:Array (Option Value)} {oc22 kV22 dc22 pm22 cd22 ct22:Value}
 {a23:Addr} {od23 an23:Option Addr} {sl23:Array (Option Value)} {oc23 kV23 dc23 pm23 cd23 ct23:Value}
 {a24:Addr} {od24 an24:Option Addr} {sl24:Array (Option Value)} {oc24 kV24 dc24 pm24 cd24 ct24:Value}
 {a25:Addr} {od25 an25:Option Addr} {sl25:Array (Option Value)} {oc25 kV25 dc25 pm25 cd25 ct25:Value}
 {ccTableTongue:Addr}
 {a26:Addr} {od26 an26:Option Addr} {sl26:Array (Option Value)} {oc26 kV26 dc26 pm26 cd26 ct26:Value}
 {a27:Addr} {od27 an27:Option Addr} {sl27:Array (Option Value)} {oc27 kV27 dc27 pm27 cd27 ct27:Value}
 {a28:Addr} {od28 an28:Option Addr} {sl28:Array (Option Value)} {oc28 kV28 dc28 pm28 cd28 ct28:Value}
 {dV28:Addr} {ddc28:Value} {ddd28:Option Addr} {ddn28:Nat} {dsl28:Array (Option Value)} {ud28_0:Tok}
 {a29:Addr} {od29 an29:Option Addr} {sl29:Array (Option Value)} {oc29 kV29 dc29 pm29 cd29 ct29:Value}
 {dV29:Addr} {ddc29:Value} {ddd29:Option Addr} {ddn29:Nat} {dsl29:Array (Option Value)} {ud29_0:Tok}
 {a30:Addr} {od30 an30:Option Addr} {sl30:Array (Option Value)} {oc30 kV30 dc30 pm30 cd30 ct30:Value}
 {a31:Addr} {od31 an31:Option Addr} {sl31:Array (Option Value)} {oc31 kV31 dc31 pm31 cd31 ct31:Value}
 {a32:Addr} {od32 an32:Option Addr} {sl32:Array (Option Value)} {oc32 kV32 dc32 pm32 cd32 ct32:Value}
 {dV32:Addr} {ddc32:Value} {ddd32:Option Addr} {ddn32:Nat} {dsl32:Array (Option Value)} {ud32_0:Tok}
 {a33:Addr} {od33 an33:Option Addr} {sl33:Array (Option Value)} {oc33 kV33 dc33 pm33 cd33 ct33:Value}
 {a34:Addr} {od34 an34:Option Addr} {sl34:Array (Option Value)} {oc34 kV34 dc34 pm34 cd34 ct34:Value}
 {a35:Addr} {od35 an35:Option Addr} {sl35:Array (Option Value)} {oc35 kV35 dc35 pm35 cd35 ct35:Value}
 {a36:Addr} {od36 an36:Option Addr} {sl36:Array (Option Value)} {oc36 kV36 dc36 pm36 cd36 ct36:Value}
 {a37:Addr} {od37 an37:Option Addr} {sl37:Array (Option Value)} {oc37 kV37 dc37 pm37 cd37 ct37:Value}
 {u0:Tok}
 {u1:Tok}
 {u2:Tok}
 {u3:Tok}
 {u4:Tok}
 {u5:Tok}
 {u6:Tok}
 {u7:Tok}
 {u8:Tok}
 (h0a:W.nsIn K mainGlobals "spot_behind" = some (some (.ref a0)))
 (h0l:K.lookup a0=some ⟨oc0,od0,.func (W.fnOf "spot_behind" "spot_behind" (aI iM) (aC iM) (am iM) .none kV0 dc0 pm0 an0 cd0 ct0),sl0⟩)
 (h0c:W.codeIn K cd0 "spot_behind" = true)
 (h0k:W.keepIn K (.ref a0)=true)
 (h1a:W.nsIn K mainGlobals "spots_behind" = some (some (.ref a1)))
 (h1l:K.lookup a1=some ⟨oc1,od1,.func (W.fnOf "spots_behind" "spots_behind" (aI iK) (aC iK) (am iK) .none kV1 dc1 pm1 an1 cd1 ct1),sl1⟩)
 (h1c:W.codeIn K cd1 "spots_behind" = true)
 (h1k:W.keepIn K (.ref a1)=true)
 (h2a:W.nsIn K mainGlobals "layers_along" = some (some (.ref a2)))
 (h2l:K.lookup a2=some ⟨oc2,od2,.func (W.fnOf "layers_along" "layers_along" (aI iO) (aC iO) (am iO) .none kV2 dc2 pm2 an2 cd2 ct2),sl2⟩)
 (h2c:W.codeIn K cd2 "layers_along" = true)
 (h2k:W.keepIn K (.ref a2)=true)
 (h3a:W.nsIn K mainGlobals "spots_ahead" = some (some (.ref a3)))
 (h3l:K.lookup a3=some ⟨oc3,od3,.func (W.fnOf "spots_ahead" "spots_ahead" (aI iL) (aC iL) (am iL) .none kV3 dc3 pm3 an3 cd3 ct3),sl3⟩)
 (h3c:W.codeIn K cd3 "spots_ahead" = true)
 (h3k:W.keepIn K (.ref a3)=true)
 (h4a:W.nsIn K mainGlobals "in_step" = some (some (.ref a4)))
 (h4l:K.lookup a4=some ⟨oc4,od4,.func (W.fnOf "in_step" "in_step" (aI gR) (aC gR) (am gR) .none kV4 dc4 pm4 an4 cd4 ct4),sl4⟩)
 (h4c:W.codeIn K cd4 "in_step" = true)
 (h4k:W.keepIn K (.ref a4)=true)
 (h5a:W.nsIn K mainGlobals "steps_of" = some (some (.ref a5)))
 (h5l:K.lookup a5=some ⟨oc5,od5,.func (W.fnOf "steps_of" "steps_of" (aI iJ) (aC iJ) (am iJ) .none kV5 dc5 pm5 an5 cd5 ct5),sl5⟩)
 (h5c:W.codeIn K cd5 "steps_of" = true)
 (h5k:W.keepIn K (.ref a5)=true)
 (h6a:W.nsIn K mainGlobals "apart_behind" = some (some (.ref a6)))
 (h6l:K.lookup a6=some ⟨oc6,od6,.func (W.fnOf "apart_behind" "apart_behind" (aI i0) (aC i0) (am i0) .none kV6 dc6 pm6 an6 cd6 ct6),sl6⟩)
 (h6c:W.codeIn K cd6 "apart_behind" = true)
 (h6k:W.keepIn K (.ref a6)=true)
 (h7a:W.nsIn K mainGlobals "apart_of" = some (some (.ref a7)))
 (h7l:K.lookup a7=some ⟨oc7,od7,.func (W.fnOf "apart_of" "apart_of" (aI iZ) (aC iZ) (am iZ) .none kV7 dc7 pm7 an7 cd7 ct7),sl7⟩)
 (h7c:W.codeIn K cd7 "apart_of" = true)
 (h7k:W.keepIn K (.ref a7)=true)
 (h8a:W.nsIn K mainGlobals "ahead_of" = some (some (.ref a8)))
 (h8l:K.lookup a8=some ⟨oc8,od8,.func (W.fnOf "ahead_of" "ahead_of" (aI i3) (aC i3) (am i3) .none kV8 dc8 pm8 an8 cd8 ct8),sl8⟩)
 (h8c:W.codeIn K cd8 "ahead_of" = true)
 (h8k:W.keepIn K (.ref a8)=true)
 (h9a:W.nsIn K mainGlobals "farthest" = some (some (.ref a9)))
 (h9l:K.lookup a9=some ⟨oc9,od9,.func (W.fnOf "farthest" "farthest" (aI fS) (aC fS) (am fS) .none kV9 dc9 pm9 an9 cd9 ct9),sl9⟩)
 (h9c:W.codeIn K cd9 "farthest" = true)
 (h9k:W.keepIn K (.ref a9)=true)
 (h10a:W.nsIn K mainGlobals "row_apart" = some (some (.ref a10)))
 (h10l:K.lookup a10=some ⟨oc10,od10,.func (W.fnOf "row_apart" "row_apart" (aI iN) (aC iN) (am iN) .none kV10 dc10 pm10 an10 cd10 ct10),sl10⟩)
 (h10c:W.codeIn K cd10 "row_apart" = true)
 (h10k:W.keepIn K (.ref a10)=true)
 (h11a:W.nsIn K mainGlobals "trip_from" = some (some (.ref a11)))
 (h11l:K.lookup a11=some ⟨oc11,od11,.func (W.fnOf "trip_from" "trip_from" (aI gJ) (aC gJ) (am gJ) .none kV11 dc11 pm11 an11 cd11 ct11),sl11⟩)
 (h11c:W.codeIn K cd11 "trip_from" = true)
 (h11k:W.keepIn K (.ref a11)=true)
 (h12a:W.nsIn K mainGlobals "witness" = some (some (.ref a12)))
 (h12l:K.lookup a12=some ⟨oc12,od12,.func (W.fnOf "witness" "witness" (aI iI) (aC iI) (am iI) .none kV12 dc12 pm12 an12 cd12 ct12),sl12⟩)
 (h12c:W.codeIn K cd12 "witness" = true)
 (h12k:W.keepIn K (.ref a12)=true)
 (h13a:W.nsIn K mainGlobals "slack" = some (some (.ref a13)))
 (h13l:K.lookup a13=some ⟨oc13,od13,.func (W.fnOf "slack" "slack" (aI fm) (aC fm) (am fm) .none kV13 dc13 pm13 an13 (.ref 110) ct13),sl13⟩)
 (h13c:W.codeIn K (.ref 110) "slack" = true)
 (xt_h13t:W.codeHdIn K 110 108=true)
 (h13k:W.keepIn K (.ref a13)=true)
 (h14a:W.nsIn K mainGlobals "begins" = some (some (.ref a14)))
 (h14l:K.lookup a14=some ⟨oc14,od14,.func (W.fnOf "begins" "begins" (aI iY) (aC iY) (am iY) .none kV14 dc14 pm14 an14 cd14 ct14),sl14⟩)
 (h14c:W.codeIn K cd14 "begins" = true)
 (h14k:W.keepIn K (.ref a14)=true)
 (h15a:W.nsIn K mainGlobals "is_number" = some (some (.ref a15)))
 (h15l:K.lookup a15=some ⟨oc15,od15,.func (W.fnOf "is_number" "is_number" (aI iS) (aC iS) (am iS) .none kV15 dc15 pm15 an15 cd15 ct15),sl15⟩)
 (h15c:W.codeIn K cd15 "is_number" = true)
 (h15k:W.keepIn K (.ref a15)=true)
 (h16a:W.nsIn K mainGlobals "is_byte" = some (some (.ref a16)))
 (h16l:K.lookup a16=some ⟨oc16,od16,.func (W.fnOf "is_byte" "is_byte" (aI iV) (aC iV) (am iV) .none kV16 dc16 pm16 an16 cd16 ct16),sl16⟩)
 (h16c:W.codeIn K cd16 "is_byte" = true)
 (h16k:W.keepIn K (.ref a16)=true)
 (h17a:W.nsIn K mainGlobals "is_head" = some (some (.ref a17)))
 (h17l:K.lookup a17=some ⟨oc17,od17,.func (W.fnOf "is_head" "is_head" (aI iT) (aC iT) (am iT) .none kV17 dc17 pm17 an17 cd17 ct17),sl17⟩)
 (h17c:W.codeIn K cd17 "is_head" = true)
 (h17k:W.keepIn K (.ref a17)=true)
 (h18a:W.nsIn K mainGlobals "is_tail" = some (some (.ref a18)))
 (h18l:K.lookup a18=some ⟨oc18,od18,.func (W.fnOf "is_tail" "is_tail" (aI iP) (aC iP) (am iP) .none kV18 dc18 pm18 an18 cd18 ct18),sl18⟩)
 (h18c:W.codeIn K cd18 "is_tail" = true)
 (h18k:W.keepIn K (.ref a18)=true)
 (h19a:W.nsIn K mainGlobals "is_seen_byte" = some (some (.ref a19)))
 (h19l:K.lookup a19=some ⟨oc19,od19,.func (W.fnOf "is_seen_byte" "is_seen_byte" (aI iR) (aC iR) (am iR) .none kV19 dc19 pm19 an19 cd19 ct19),sl19⟩)
 (h19c:W.codeIn K cd19 "is_seen_byte" = true)
 (h19k:W.keepIn K (.ref a19)=true)
 (h20a:W.nsIn K mainGlobals "is_sign" = some (some (.ref a20)))
 (h20l:K.lookup a20=some ⟨oc20,od20,.func (W.fnOf "is_sign" "is_sign" (aI iQ) (aC iQ) (am iQ) .none kV20 dc20 pm20 an20 cd20 ct20),sl20⟩)
 (h20c:W.codeIn K cd20 "is_sign" = true)
 (h20k:W.keepIn K (.ref a20)=true)
 (h21a:W.nsIn K mainGlobals "is_row" = some (some (.ref a21)))
 (h21l:K.lookup a21=some ⟨oc21,od21,.func (W.fnOf "is_row" "is_row" (aI gQ) (aC gQ) (am gQ) .none kV21 dc21 pm21 an21 cd21 ct21),sl21⟩)
 (h21c:W.codeIn K cd21 "is_row" = true)
 (h21k:W.keepIn K (.ref a21)=true)
 (h22a:W.nsIn K mainGlobals "is_entry" = some (some (.ref a22)))
 (h22l:K.lookup a22=some ⟨oc22,od22,.func (W.fnOf "is_entry" "is_entry" (aI iU) (aC iU) (am iU) .none kV22 dc22 pm22 an22 cd22 ct22),sl22⟩)
 (h22c:W.codeIn K cd22 "is_entry" = true)
 (h22k:W.keepIn K (.ref a22)=true)
 (h23a:W.nsIn K mainGlobals "collide" = some (some (.ref a23)))
 (h23l:K.lookup a23=some ⟨oc23,od23,.func (W.fnOf "collide" "collide" (aI iW) (aC iW) (am iW) .none kV23 dc23 pm23 an23 cd23 ct23),sl23⟩)
 (h23c:W.codeIn K cd23 "collide" = true)
 (h23k:W.keepIn K (.ref a23)=true)
 (h24a:W.nsIn K mainGlobals "check_table" = some (some (.ref a24)))
 (h24l:K.lookup a24=some ⟨oc24,od24,.func (W.fnOf "check_table" "check_table" (aI iX) (aC iX) (am iX) .none kV24 dc24 pm24 an24 cd24 ct24),sl24⟩)
 (h24c:W.codeIn K cd24 "check_table" = true)
 (h24k:W.keepIn K (.ref a24)=true)
 (qu:W.nsIn K mainGlobals "TableTongue" = some (some (.ref ccTableTongue)))
 (mo:W.plainGet K ccTableTongue Str.empty=true)
 (my:W.hasDictIn K ccTableTongue=true)
 (mw:W.plainOver K ccTableTongue=true)
 (mn:W.findIn K (.ref ccTableTongue) "__setattr__" = some (some (.builtin "object.__setattr__")))
 (qo:W.makesIn K ccTableTongue=true)
 (qr:W.keepIn K (.ref ccTableTongue)=true)
 (qf:W.findIn K (.ref ccTableTongue) "__class__" = some (some (.builtin "object.__class__")))
 (qe:W.specialIn K (.builtin "object.__class__") "__get__" = some (some (.builtin "getset_descriptor.__get__")))
 (qd:W.takesIn K (.builtin "object.__class__")=some true)
 (cw_TableTongue:W.mroIn K ccTableTongue (.type "object")=some true)
 (qm:W.findIn K (.ref ccTableTongue) "rest_by_row" = some none)
 (qk:W.findIn K (.ref ccTableTongue) "row_by_sign" = some none)
 (qi:W.findIn K (.ref ccTableTongue) "sign_by_row" = some none)
 (h25a:W.findIn K (.ref ccTableTongue) "__init__" = some (some (.ref a25)))
 (h25f:W.isFn K (.ref a25)=true)
 (h25l:K.lookup a25=some ⟨oc25,od25,.func (W.fnOf "__init__" "TableTongue.__init__" (aI i7) (aC i7) (am i7) .none kV25 dc25 pm25 an25 cd25 ct25),sl25⟩)
 (h25c:W.codeIn K cd25 "TableTongue.__init__" = true)
 (h25k:W.keepIn K (.ref a25)=true)
 (h26a:W.findIn K (.ref ccTableTongue) "enter" = some (some (.ref a26)))
 (h26f:W.isFn K (.ref a26)=true)
 (h26l:K.lookup a26=some ⟨oc26,od26,.func (W.fnOf "enter" "TableTongue.enter" (aI i9) (aC i9) (am i9) .none kV26 dc26 pm26 an26 cd26 ct26),sl26⟩)
 (h26c:W.codeIn K cd26 "TableTongue.enter" = true)
 (h26k:W.keepIn K (.ref a26)=true)
 (h27a:W.findIn K (.ref ccTableTongue) "rows" = some (some (.ref a27)))
 (h27f:W.isFn K (.ref a27)=true)
 (h27l:K.lookup a27=some ⟨oc27,od27,.func (W.fnOf "rows" "TableTongue.rows" (aI gU) (aC gU) (am gU) .none kV27 dc27 pm27 an27 cd27 ct27),sl27⟩)
 (h27c:W.codeIn K cd27 "TableTongue.rows" = true)
 (h27k:W.keepIn K (.ref a27)=true)
 (h28a:W.findIn K (.ref ccTableTongue) "whole" = some (some (.ref a28)))
 (h28f:W.isFn K (.ref a28)=true)
 (h28l:K.lookup a28=some ⟨oc28,od28,.func (W.fnOf "whole" "TableTongue.whole" (aI i6) (aC i6) (am i6) (.ref dV28) kV28 dc28 pm28 an28 cd28 ct28),sl28⟩)
 (h28c:W.codeIn K cd28 "TableTongue.whole" = true)
 (h28k:W.keepIn K (.ref a28)=true)
 (h28d:K.lookup dV28=some ⟨ddc28,ddd28,.seq ([.int 0 ud28_0]:List Value).toArray ddn28,dsl28⟩)
 (h29a:W.findIn K (.ref ccTableTongue) "fill" = some (some (.ref a29)))
 (h29f:W.isFn K (.ref a29)=true)
 (h29l:K.lookup a29=some ⟨oc29,od29,.func (W.fnOf "fill" "TableTongue.fill" (aI i8) (aC i8) (am i8) (.ref dV29) kV29 dc29 pm29 an29 cd29 ct29),sl29⟩)
 (h29c:W.codeIn K cd29 "TableTongue.fill" = true)
 (h29k:W.keepIn K (.ref a29)=true)
 (h29d:K.lookup dV29=some ⟨ddc29,ddd29,.seq ([.int 0 ud29_0]:List Value).toArray ddn29,dsl29⟩)
 (h30a:W.findIn K (.ref ccTableTongue) "spots" = some (some (.ref a30)))
 (h30f:W.isFn K (.ref a30)=true)
 (h30l:K.lookup a30=some ⟨oc30,od30,.func (W.fnOf "spots" "TableTongue.spots" (aI gT) (aC gT) (am gT) .none kV30 dc30 pm30 an30 cd30 ct30),sl30⟩)
 (h30c:W.codeIn K cd30 "TableTongue.spots" = true)
 (h30k:W.keepIn K (.ref a30)=true)
 (h31a:W.findIn K (.ref ccTableTongue) "unit" = some (some (.ref a31)))
 (h31f:W.isFn K (.ref a31)=true)
 (h31l:K.lookup a31=some ⟨oc31,od31,.func (W.fnOf "unit" "Tongue.unit" (aI i4) (aC i4) (am i4) .none kV31 dc31 pm31 an31 cd31 ct31),sl31⟩)
 (h31c:W.codeIn K cd31 "Tongue.unit" = true)
 (h31k:W.keepIn K (.ref a31)=true)
 (h32a:W.findIn K (.ref ccTableTongue) "look" = some (some (.ref a32)))
 (h32f:W.isFn K (.ref a32)=true)
 (h32l:K.lookup a32=some ⟨oc32,od32,.func (W.fnOf "look" "Tongue.look" (aI i5) (aC i5) (am i5) (.ref dV32) kV32 dc32 pm32 an32 cd32 ct32),sl32⟩)
 (h32c:W.codeIn K cd32 "Tongue.look" = true)
 (h32k:W.keepIn K (.ref a32)=true)
 (h32d:K.lookup dV32=some ⟨ddc32,ddd32,.seq ([.int 0 ud32_0]:List Value).toArray ddn32,dsl32⟩)
 (h33a:W.nsIn K mainGlobals "_law_pick" = some (some (.ref a33)))
 (h33l:K.lookup a33=some ⟨oc33,od33,.func (W.fnOf "_law_pick" "_law_pick" (aI iH) (aC iH) (am iH) .none kV33 dc33 pm33 an33 cd33 ct33),sl33⟩)
 (h33c:W.codeIn K cd33 "_law_pick" = true)
 (h33k:W.keepIn K (.ref a33)=true)
 (h34a:W.nsIn K mainGlobals "_law_plain" = some (some (.ref a34)))
 (h34l:K.lookup a34=some ⟨oc34,od34,.func (W.fnOf "_law_plain" "_law_plain" (aI iG) (aC iG) (am iG) .none kV34 dc34 pm34 an34 cd34 ct34),sl34⟩)
 (h34c:W.codeIn K cd34 "_law_plain" = true)
 (h34k:W.keepIn K (.ref a34)=true)
 (h35a:W.nsIn K mainGlobals "_law_rows" = some (some (.ref a35)))
 (h35l:K.lookup a35=some ⟨oc35,od35,.func (W.fnOf "_law_rows" "_law_rows" (aI fQ) (aC fQ) (am fQ) .none kV35 dc35 pm35 an35 cd35 ct35),sl35⟩)
 (h35c:W.codeIn K cd35 "_law_rows" = true)
 (h35k:W.keepIn K (.ref a35)=true)
 (h36a:W.nsIn K mainGlobals "_law_signs" = some (some (.ref a36)))
 (h36l:K.lookup a36=some ⟨oc36,od36,.func (W.fnOf "_law_signs" "_law_signs" (aI gH) (aC gH) (am gH) .none kV36 dc36 pm36 an36 cd36 ct36),sl36⟩)
 (h36c:W.codeIn K cd36 "_law_signs" = true)
 (h36k:W.keepIn K (.ref a36)=true)
 (h37a:W.nsIn K mainGlobals "law" = some (some (.ref a37)))
 (h37l:K.lookup a37=some ⟨oc37,od37,.func (W.fnOf "law" "law" (aI fR) (aC fR) (am fR) .none kV37 dc37 pm37 an37 cd37 ct37),sl37⟩)
 (h37c:W.codeIn K cd37 "law" = true)
 (h37k:W.keepIn K (.ref a37)=true)
 (k0:W.nsIn K mainGlobals "FIRST_HEAD" = some (some (.int 55296 u0)))
 (k1:W.nsIn K mainGlobals "FIRST_SEEN" = some (some (.int 61184 u1)))
 (k2:W.nsIn K mainGlobals "FIRST_TAIL" = some (some (.int 56320 u2)))
 (k3:W.nsIn K mainGlobals "LAST_BYTE" = some (some (.int 255 u3)))
 (k4:W.nsIn K mainGlobals "LAST_SEEN" = some (some (.int 61439 u4)))
 (k5:W.nsIn K mainGlobals "LAST_SIGN" = some (some (.int 1114111 u5)))
 (k6:W.nsIn K mainGlobals "LAST_TAIL" = some (some (.int 57343 u6)))
 (k7:W.nsIn K mainGlobals "MOST_BYTES" = some (some (.int 6 u7)))
 (k8:W.nsIn K mainGlobals "MOST_TUPLES" = some (some (.int 64 u8)))
 (z0:W.nsIn K mainGlobals "all" = some none)
 (z1:W.nsIn K mainGlobals "bool" = some none)
 (z2:W.nsIn K mainGlobals "enumerate" = some none)
 (z3:W.nsIn K mainGlobals "int" = some none)
 (z4:W.nsIn K mainGlobals "isinstance" = some none)
 (z5:W.nsIn K mainGlobals "len" = some none)
 (z6:W.nsIn K mainGlobals "list" = some none)
 (z7:W.nsIn K mainGlobals "max" = some none)
 (z8:W.nsIn K mainGlobals "range" = some none)
 (z9:W.nsIn K mainGlobals "reversed" = some none)
 (z10:W.nsIn K mainGlobals "sum" = some none)
 (z11:W.nsIn K mainGlobals "tuple" = some none) : ∃ t,Txt K mg t:=by
  have F0:=bb (st:=iM) h0l h0c h0k
  have b0:=F0.binds (ps:=["tongue", "spot", "unit"]) (by intro _ _ _ _ _ _ us hl; revert us; exact fz (λ_ _ _=>rfl))
  have F1:=bb (st:=iK) h1l h1c h1k
  have b1:=F1.binds (ps:=["tongue", "spots", "unit"]) (by intro _ _ _ _ _ _ us hl; revert us; exact fz (λ_ _ _=>rfl))
  have F2:=bb (st:=iO) h2l h2c h2k
  have b2:=F2.binds (ps:=["tongue", "units"]) (by intro _ _ _ _ _ _ us hl; revert us; exact dB (λ_ _=>rfl))
  have F3:=bb (st:=iL) h3l h3c h3k
  have b3:=F3.binds (ps:=["layer", "spots"]) (by intro _ _ _ _ _ _ us hl; revert us; exact dB (λ_ _=>rfl))
  have F4:=bb (st:=gR) h4l h4c h4k
  have b4:=F4.binds (ps:=["tongue", "row"]) (by intro _ _ _ _ _ _ us hl; revert us; exact dB (λ_ _=>rfl))
  have F5:=bb (st:=iJ) h5l h5c h5k
  have b5:=F5.binds (ps:=["tongue"]) (by intro _ _ _ _ _ _ us hl; revert us; exact bX (λ_=>rfl))
  have F6:=bb (st:=i0) h6l h6c h6k
  have b6:=F6.binds (ps:=["steps", "one", "other"]) (by intro _ _ _ _ _ _ us hl; revert us; exact fz (λ_ _ _=>rfl))
  have F7:=bb (st:=iZ) h7l h7c h7k
  have b7:=F7.binds (ps:=["steps"]) (by intro _ _ _ _ _ _ us hl; revert us; exact bX (λ_=>rfl))
  have F8:=bb (st:=i3) h8l h8c h8k
  have b8:=F8.binds (ps:=["apart"]) (by intro _ _ _ _ _ _ us hl; revert us; exact bX (λ_=>rfl))
  have F9:=bb (st:=fS) h9l h9c h9k
  have b9:=F9.binds (ps:=["apart"]) (by intro _ _ _ _ _ _ us hl; revert us; exact bX (λ_=>rfl))
  have F10:=bb (st:=iN) h10l h10c h10k
  have b10:=F10.binds (ps:=["apart", "far", "pair"]) (by intro _ _ _ _ _ _ us hl; revert us; exact fz (λ_ _ _=>rfl))
  have F11:=bb (st:=gJ) h11l h11c h11k
  have b11:=F11.binds (ps:=["apart", "far", "pair"]) (by intro _ _ _ _ _ _ us hl; revert us; exact fz (λ_ _ _=>rfl))
  have F12:=bb (st:=iI) h12l h12c h12k
  have b12:=F12.binds (ps:=["pair", "row"]) (by intro _ _ _ _ _ _ us hl; revert us; exact dB (λ_ _=>rfl))
  have F13:=bb (st:=fm) h13l h13c h13k
  have b13:=F13.binds (ps:=["tongue"]) (by intro _ _ _ _ _ _ us hl; revert us; exact bX (λ_=>rfl))
  have F14:=bb (st:=iY) h14l h14c h14k
  have b14:=F14.binds (ps:=["one", "other"]) (by intro _ _ _ _ _ _ us hl; revert us; exact dB (λ_ _=>rfl))
  have F15:=bb (st:=iS) h15l h15c h15k
  have b15:=F15.binds (ps:=["thing"]) (by intro _ _ _ _ _ _ us hl; revert us; exact bX (λ_=>rfl))
  have F16:=bb (st:=iV) h16l h16c h16k
  have b16:=F16.binds (ps:=["thing"]) (by intro _ _ _ _ _ _ us hl; revert us; exact bX (λ_=>rfl))
  have F17:=bb (st:=iT) h17l h17c h17k
  have b17:=F17.binds (ps:=["number"]) (by intro _ _ _ _ _ _ us hl; revert us; exact bX (λ_=>rfl))
  have F18:=bb (st:=iP) h18l h18c h18k
  have b18:=F18.binds (ps:=["number"]) (by intro _ _ _ _ _ _ us hl; revert us; exact bX (λ_=>rfl))
  have F19:=bb (st:=iR) h19l h19c h19k
  have b19:=F19.binds (ps:=["thing"]) (by intro _ _ _ _ _ _ us hl; revert us; exact bX (λ_=>rfl))
  have F20:=bb (st:=iQ) h20l h20c h20k
  have b20:=F20.binds (ps:=["thing"]) (by intro _ _ _ _ _ _ us hl; revert us; exact bX (λ_=>rfl))
  have F21:=bb (st:=gQ) h21l h21c h21k
  have b21:=F21.binds (ps:=["thing"]) (by intro _ _ _ _ _ _ us hl; revert us; exact bX (λ_=>rfl))
  have F22:=bb (st:=iU) h22l h22c h22k
  have b22:=F22.binds (ps:=["thing"]) (by intro _ _ _ _ _ _ us hl; revert us; exact bX (λ_=>rfl))
  have F23:=bb (st:=iW) h23l h23c h23k
  have b23:=F23.binds (ps:=["one", "other"]) (by intro _ _ _ _ _ _ us hl; revert us; exact dB (λ_ _=>rfl))
  have F24:=bb (st:=iX) h24l h24c h24k
  have b24:=F24.binds (ps:=["rows"]) (by intro _ _ _ _ _ _ us hl; revert us; exact bX (λ_=>rfl))
  have F25:=bb (st:=i7) h25l h25c h25k
  have b25:=F25.binds (ps:=["self", "rows"]) (by intro _ _ _ _ _ _ us hl; revert us; exact dB (λ_ _=>rfl))
  have F26:=bb (st:=i9) h26l h26c h26k
  have b26:=F26.binds (ps:=["self", "sign", "row"]) (by intro _ _ _ _ _ _ us hl; revert us; exact fz (λ_ _ _=>rfl))
  have F27:=bb (st:=gU) h27l h27c h27k
  have b27:=F27.binds (ps:=["self"]) (by intro _ _ _ _ _ _ us hl; revert us; exact bX (λ_=>rfl))
  have F28:=oU (st:=i6) h28l h28c h28k h28d
  have bd28:=F28.binds (ps:=["self", "row", "page"]) (ds:=[.int 0 ud28_0]) (by intro _ _ _ _ _ _ _ us hl; have hm:us.length=2:=(by have:=hl; simp at this; omega); clear hl; revert us; exact dB (λ_ _=>⟨_,rfl,rfl⟩))
  have b28:=F28.binds (ps:=["self", "row", "page"]) (ds:=[]) (by intro _ _ _ _ _ _ _ us hl; have hm:us.length=3:=(by have:=hl; simp at this; omega); clear hl; revert us; exact fz (λ_ _ _=>⟨_,rfl,rfl⟩))
  have F29:=oU (st:=i8) h29l h29c h29k h29d
  have bd29:=F29.binds (ps:=["self", "row", "page"]) (ds:=[.int 0 ud29_0]) (by intro _ _ _ _ _ _ _ us hl; have hm:us.length=2:=(by have:=hl; simp at this; omega); clear hl; revert us; exact dB (λ_ _=>⟨_,rfl,rfl⟩))
  have b29:=F29.binds (ps:=["self", "row", "page"]) (ds:=[]) (by intro _ _ _ _ _ _ _ us hl; have hm:us.length=3:=(by have:=hl; simp at this; omega); clear hl; revert us; exact fz (λ_ _ _=>⟨_,rfl,rfl⟩))
  have F30:=bb (st:=gT) h30l h30c h30k
  have b30:=F30.binds (ps:=["self"]) (by intro _ _ _ _ _ _ us hl; revert us; exact bX (λ_=>rfl))
  have F31:=bb (st:=i4) h31l h31c h31k
  have b31:=F31.binds (ps:=["self"]) (by intro _ _ _ _ _ _ us hl; revert us; exact bX (λ_=>rfl))
  have F32:=oU (st:=i5) h32l h32c h32k h32d
  have bd32:=F32.binds (ps:=["self", "begun", "page"]) (ds:=[.int 0 ud32_0]) (by intro _ _ _ _ _ _ _ us hl; have hm:us.length=2:=(by have:=hl; simp at this; omega); clear hl; revert us; exact dB (λ_ _=>⟨_,rfl,rfl⟩))
  have b32:=F32.binds (ps:=["self", "begun", "page"]) (ds:=[]) (by intro _ _ _ _ _ _ _ us hl; have hm:us.length=3:=(by have:=hl; simp at this; omega); clear hl; revert us; exact fz (λ_ _ _=>⟨_,rfl,rfl⟩))
  have F33:=bb (st:=iH) h33l h33c h33k
  have b33:=F33.binds (ps:=["_law_script", "_law_k"]) (by intro _ _ _ _ _ _ us hl; revert us; exact dB (λ_ _=>rfl))
  have F34:=bb (st:=iG) h34l h34c h34k
  have b34:=F34.binds (ps:=["_law_found"]) (by intro _ _ _ _ _ _ us hl; revert us; exact bX (λ_=>rfl))
  have F35:=bb (st:=fQ) h35l h35c h35k
  have b35:=F35.binds (ps:=["_law_cells"]) (by intro _ _ _ _ _ _ us hl; revert us; exact bX (λ_=>rfl))
  have F36:=bb (st:=gH) h36l h36c h36k
  have b36:=F36.binds (ps:=["_law_rows_here", "_law_cells"]) (by intro _ _ _ _ _ _ us hl; revert us; exact dB (λ_ _=>rfl))
  have F37:=bb (st:=fR) h37l h37c h37k
  have b37:=F37.binds (ps:=["_law_script"]) (by intro _ _ _ _ _ _ us hl; revert us; exact bX (λ_=>rfl))
  exact⟨⟨a0,_,a1,_,a2,_,a3,_,a4,_,a5,_,a6,_,a7,_,a8,_,a9,_,a10,_,a11,_,a12,_,a13,_,a14,_,a15,_,a16,_,a17,_,a18,_,a19,_,a20,_,a21,_,a22,_,a23,_,a24,_,a25,_,a26,_,a27,_,a28,_,ud28_0,a29,_,ud29_0,a30,_,a31,_,a32,_,ud32_0,a33,_,a34,_,a35,_,a36,_,a37,_,ccTableTongue,u0,u1,u2,u3,u4,u5,u6,u7,u8⟩,⟨F0,b0,W.mg_of X G h0a,F1,b1,W.mg_of X G h1a,F2,b2,W.mg_of X G h2a,F3,b3,W.mg_of X G h3a,F4,b4,W.mg_of X G h4a,F5,b5,W.mg_of X G h5a,F6,b6,W.mg_of X G h6a,F7,b7,W.mg_of X G h7a,F8,b8,W.mg_of X G h8a,F9,b9,W.mg_of X G h9a,F10,b10,W.mg_of X G h10a,F11,b11,W.mg_of X G h11a,F12,b12,W.mg_of X G h12a,F13,E6 (st:=fm) h13l h13c xt_h13t,b13,W.mg_of X G h13a,F14,b14,W.mg_of X G h14a,F15,b15,W.mg_of X G h15a,F16,b16,W.mg_of X G h16a,F17,b17,W.mg_of X G h17a,F18,b18,W.mg_of X G h18a,F19,b19,W.mg_of X G h19a,F20,b20,W.mg_of X G h20a,F21,b21,W.mg_of X G h21a,F22,b22,W.mg_of X G h22a,F23,b23,W.mg_of X G h23a,F24,b24,W.mg_of X G h24a,F25,b25,F26,b26,F27,b27,F28,bd28,b28,F29,bd29,b29,F30,b30,F31,b31,F32,bd32,b32,F33,b33,W.mg_of X G h33a,F34,b34,W.mg_of X G h34a,F35,b35,W.mg_of X G h35a,F36,b36,W.mg_of X G h36a,F37,b37,W.mg_of X G h37a,W.mg_of X G qu,⟨mo,my,mw,mn⟩,⟨qo,h25a,h25f,qr⟩,⟨h26a,h26f,h26k⟩,⟨h27a,h27f,h27k⟩,⟨h28a,h28f,h28k⟩,⟨h29a,h29f,h29k⟩,⟨h30a,h30f,h30k⟩,⟨h31a,h31f,h31k⟩,⟨h32a,h32f,h32k⟩,qm,qk,qi,λH a dx fs e=>.ins e ⟨mo,my,mw,mn⟩ qf qe qd cw_TableTongue,W.mg_of X G k0,W.mg_of X G k1,W.mg_of X G k2,W.mg_of X G k3,W.mg_of X G k4,W.mg_of X G k5,W.mg_of X G k6,W.mg_of X G k7,W.mg_of X G k8,W.mg_none_of X G z0,W.mg_none_of X G z1,W.mg_none_of X G z2,W.mg_none_of X G z3,W.mg_none_of X G z4,W.mg_none_of X G z5,W.mg_none_of X G z6,W.mg_none_of X G z7,W.mg_none_of X G z8,W.mg_none_of X G z9,W.mg_none_of X G z10,W.mg_none_of X G z11⟩⟩
theorem walk {l:PySem.W.OpenLaw} {q:Program} {loose:List Str} {XP:(Str->Option Value)->Heap->Prop} {YP:World->Heap->Prop} {d:DefRec} {K:Params->PySem.W.Frag} (hn:l.most=some 63) (hdf:d.params.defaults=[]) (hnm:d.name = "law")
 (hY : ∀ (w:World) (h:Heap),YP w h->(K w.params).In h/\h.get? 108=some (PySem.W.tabObj #[])) (hKP : ∀ w:World,(K w.params).lookup 108=none) (hcd : ∀ w:World,PySem.W.codeHdIn (K w.params) 110 108=true)
 (F : ∀ (w:World) (mg:Str->Option Value) (h:Heap),(K w.params).In h->h.Ns mainGlobals mg->∃ t,Txt (K w.params) mg t) :
 PySem.W.WalkO q loose XP YP l.row.toRowW d [] (λf vs=>PySem.call f vs):=by
 refine L2.walk_ofT (n:=63) (k:=10) (x := "_law_script") (Pt:=108) (c:=110) (CX:=λ_=>bI) (sp:=λw=>m9 (K w.params)) hn (by decide) hdf ⟨rfl,by decide,by decide⟩ hY hKP hcd (λw mg fa h KX G hmg=>?_) (λ_ _ a ns hl hO hS=>⟨a,rfl,ns,hS,hl,hO,λ_=>rfl⟩) λ_ _ _ _ _ z=>z
 obtain⟨t,T⟩:=F w mg h KX G
 rw[hnm]at hmg
 have e:=hmg.symm.trans T.vJ
 cases e
 obtain⟨oc,od,kV,doc,pm,an,cdv,ct,osl,e1,lk,hcd⟩:=T.rF.ex
 refine⟨t.md,λs u=>?_,λbase _ _ hB=>(DJ (P:=l.prog) (w:=w) (base:=base) T hB).ok⟩
 rw[e1]
 exact .of_eq rfl
end My
structure PySem.W.Fast:Prop where
 (tw10295013667380243413 tw10481023231810480300 tw10512976860030296311 tw10520042741610467087 tw11225451467957650661 tw11282951306883787327 tw1153944478073062848 tw11779469114846190840 tw1203775869054304472 tw1206162374354391778 tw12295922499068782905 tw12302003687137261151 tw12417445950854298831 tw12456651942496038254 tw12460483947841529958 tw12519711059156212622 tw12964153175397615603 tw13033855841228511813 tw13104324335689588853 tw13194242777360047543 tw13736194205720779274 tw1390672025887542003 tw13965522992527853592 tw14024323655653630756 tw14201941592397783676 tw14247681147004921998 tw14546964867672603240 tw15048989225561433801 tw15077788209820076753 tw15083641643713774949 tw15236293395141630537 tw15264759708345544775 tw15415621363697384863 tw15456340483037243849 tw15471654756072568727 tw15527347133710906275 tw15585825614807531086 tw15740057903971323334 tw15794513618936169006 tw16043152413653886685 tw16112117209679703955 tw16277627890060235214 tw16281168725400002754 tw16312741942417940192 tw16332147988159360537 tw1633242608817671744 tw16344936210844811420 tw16577386011532095978 tw16681661215531051540 tw16700459092380955952 tw16759311654617017264 tw17389637619656215736 tw17571677655802286343 tw17615135554491209660 tw17701977012286852997 tw17748066942932609157 tw17777153051847291491 tw17850707190031447265 tw17876433858398909507 tw18321254579888659386 tw18338453364318445090 tw2286116508634488277 tw2624760782491070524 tw2734491497353042352 tw2956738630204752494 tw3004827296410684135 tw3059772234185036505 tw3315577632035689888 tw3802209976539981751 tw4139753686626552697 tw4170904021757755264 tw4347783470943194800 tw4513246048825168584 tw4706142004144637539 tw4991788166694139410 tw5098034570325528883 tw5120075682752837108 tw5183506787749828319 tw5422248332714035095 tw5551689950515667119 tw5704509430269459351 tw5722906846013517555 tw5827467827467081253 tw6295895518107806873 tw6335073748915778186 tw7007036503083365394 tw7125592462259821928 tw7403072416695037628 tw7457309788024914787 tw7667130276523485724 tw7841334100774117790 tw7940256147678981024 tw8251217049828713130 tw8438803272776626075 tw8523004012414601004 tw8551080838695767365 tw8551721746607045922 tw8762915440722976709 tw8860579733124091050 tw8925816209111539126 tw8938045286587138060 tw9019389287643085970 tw9140960875718458804 tw9238049845707601662 tw9457603634869152925 tw9465026140985420696 tw9631313169215637204 tw9659062710401440368 tw9716615244099850087 tw9961991687251618689:True)
open PySem PySem.W PyProof.Rows
set_option maxRecDepth 100000 in
set_option maxHeartbeats 0 in
theorem PySem.Challenge.cw_bytetongue_k86_whole_slack_and_step_holds : PySem.Challenge.rw_bytetongue_k86_whole_slack_and_step.Holds := by
 w_on; o_law; k_head; (case hw=>w_witness2)
 k_fill
 refine My.walk (l:=PySem.Challenge.rw_bytetongue_k86_whole_slack_and_step) rfl rfl rfl (λw h Y=>⟨PySem.W.km_in_of Y,PySem.W.km_tabs_of Y 108 (by simp)⟩) (λw=>by kernel_rfl) (λw=>by kernel_rfl) ?F
 case F =>
  intro w mg h KX G
  refine' My.txt_mk KX G ?h0a ?h0l ?h0c ?h0k ?h1a ?h1l ?h1c ?h1k ?h2a ?h2l ?h2c ?h2k ?h3a ?h3l ?h3c ?h3k ?h4a ?h4l ?h4c ?h4k ?h5a ?h5l ?h5c ?h5k ?h6a ?h6l ?h6c ?h6k ?h7a ?h7l ?h7c ?h7k ?h8a ?h8l ?h8c ?h8k ?h9a ?h9l ?h9c ?h9k ?h10a ?h10l ?h10c ?h10k ?h11a ?h11l ?h11c ?h11k ?h12a ?h12l ?h12c ?h12k ?h13a ?h13l ?h13c ?xt_h13t ?h13k ?h14a ?h14l ?h14c ?h14k ?h15a ?h15l ?h15c ?h15k ?h16a ?h16l ?h16c ?h16k ?h17a ?h17l ?h17c ?h17k ?h18a ?h18l ?h18c ?h18k ?h19a ?h19l ?h19c ?h19k ?h20a ?h20l ?h20c ?h20k ?h21a ?h21l ?h21c ?h21k ?h22a ?h22l ?h22c ?h22k ?h23a ?h23l ?h23c ?h23k ?h24a ?h24l ?h24c ?h24k ?qu ?mo ?my ?mw ?mn ?qo ?qr ?qf ?qe ?qd ?cw_TableTongue ?qm ?qk ?qi ?h25a ?h25f ?h25l ?h25c ?h25k ?h26a ?h26f ?h26l ?h26c ?h26k ?h27a ?h27f ?h27l ?h27c ?h27k ?h28a ?h28f ?h28l ?h28c ?h28k ?h28d ?h29a ?h29f ?h29l ?h29c ?h29k ?h29d ?h30a ?h30f ?h30l ?h30c ?h30k ?h31a ?h31f ?h31l ?h31c ?h31k ?h32a ?h32f ?h32l ?h32c ?h32k ?h32d ?h33a ?h33l ?h33c ?h33k ?h34a ?h34l ?h34c ?h34k ?h35a ?h35l ?h35c ?h35k ?h36a ?h36l ?h36c ?h36k ?h37a ?h37l ?h37c ?h37k ?k0 ?k1 ?k2 ?k3 ?k4 ?k5 ?k6 ?k7 ?k8 ?z0 ?z1 ?z2 ?z3 ?z4 ?z5 ?z6 ?z7 ?z8 ?z9 ?z10 ?z11
  case h0a|h0l|h0c|h0k|h1a|h1l|h1c|h1k|h2a|h2l|h2c|h2k|h3a|h3l|h3c|h3k|h4a|h4l|h4c|h4k|h5a|h5l|h5c|h5k|h6a|h6l|h6c|h6k|h7a|h7l|h7c|h7k|h8a|h8l|h8c|h8k|h9a|h9l|h9c|h9k|h10a|h10l|h10c|h10k|h11a|h11l|h11c|h11k|h12a|h12l|h12c|h12k|h13a|h13l|h13c=>k_is
  (case xt_h13t=>kernel_rfl)
  case h13k|h14a|h14l|h14c|h14k|h15a|h15l|h15c|h15k|h16a|h16l|h16c|h16k|h17a|h17l|h17c|h17k|h18a|h18l|h18c|h18k|h19a|h19l|h19c|h19k|h20a|h20l|h20c|h20k|h21a|h21l|h21c|h21k|h22a|h22l|h22c|h22k|h23a|h23l|h23c|h23k|h24a|h24l|h24c|h24k|qu|mo|my|mw|mn|qo|qr|qf|qe|qd|cw_TableTongue|qm|qk|qi|h25a=>k_is
  case h25f|h25l|h25c|h25k|h26a|h26f|h26l|h26c|h26k|h27a|h27f|h27l|h27c|h27k|h28a|h28f|h28l|h28c|h28k|h28d|h29a|h29f|h29l|h29c|h29k|h29d|h30a|h30f|h30l|h30c|h30k|h31a|h31f|h31l|h31c|h31k|h32a|h32f|h32l|h32c|h32k|h32d|h33a|h33l|h33c|h33k|h34a|h34l|h34c|h34k|h35a|h35l|h35c|h35k|h36a|h36l|h36c|h36k|h37a|h37l=>k_is
  case h37c|h37k|k0|k1|k2|k3|k4|k5|k6|k7|k8|z0|z1|z2|z3|z4|z5|z6|z7|z8|z9|z10|z11=>k_is
