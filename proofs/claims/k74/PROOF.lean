import PyProof.Rows.All
import Wide.All
import Wide.FinOn
import KE.KDictOf
import KE.RegKIsAll
import KE.KEqDeep
import KE.KRevIter
import KE.KEqDict
import KE.RegKTryMore
import KE.KItem
import KE.KTurns
import KE.KFromBytes
import KE.KEqText
import PySem.Challenge.RW_bytetongue_k74_whole_seen_and_back
set_option Elab.async false
set_option linter.all false
set_option maxRecDepth 100000
namespace L2
open PySem PySem.Spec PyProof.Rows
abbrev aP:=Sum Int Str
def la:aP->Value->Bool
 | .inl k,v=>Value.isInt k v
 | .inr x,v=>Value.isStrOf x v
def LA(w:World):aP->Int
 | .inl k=>hashInt k
 | .inr x=>hashStr w x
theorem gS : ∀ {k:aP} {v:Value},la k v=true->(∃ i t,k=Sum.inl i/\v=Value.int i t)\/(∃ x t,k=Sum.inr x/\v=Value.str x t)
 | .inl i,v,h=>by
  obtain⟨t,e⟩:=Value.isInt_shape (k:=i) (v:=v) h
  exact .inl ⟨i,t,rfl,e⟩
 | .inr x,v,h=>by
  obtain⟨t,e⟩:=Value.isStrOf_shape (x:=x) (v:=v) h
  exact .inr ⟨x,t,rfl,e⟩
theorem Lz(i:Int)(t:Tok):la (.inl i) (.int i t)=true:=by simp[la,Value.isInt]
theorem Ly(x:Str)(t:Tok):la (.inr x) (.str x t)=true:=by simp[la,Value.isStrOf]
theorem Lx(a b:Int):decide ((Sum.inl a:aP)=Sum.inl b)=(a == b):=by
 by_cases e:a=b
 ·subst e; simp
 ·have h : ¬ (Sum.inl a:aP)=Sum.inl b:=λq=>e (Sum.inl.inj q)
  rw[decide_eq_false h]
  exact (beq_eq_false_iff_ne.mpr e).symm
theorem Lu(a b:Str):decide ((Sum.inr a:aP)=Sum.inr b)=decide (a=b):=by
 by_cases e:a=b
 ·subst e; simp
 ·have h : ¬ (Sum.inr a:aP)=Sum.inr b:=λq=>e (Sum.inr.inj q)
  rw[decide_eq_false h,decide_eq_false e]
theorem Lw(a:Int)(b:Str):decide ((Sum.inl a:aP)=Sum.inr b)=false:=decide_eq_false (λq=>nomatch q)
theorem Lv(a:Str)(b:Int):decide ((Sum.inr a:aP)=Sum.inl b)=false:=decide_eq_false (λq=>nomatch q)
def cr(prog:Program)(w:World):PySem.KeyKind prog w aP where
 is:=la
 hash:=LA w
 inj:=λv a b ha hb=>by
  rcases gS ha with ⟨i,t,rfl,rfl⟩ | ⟨x,t,rfl,rfl⟩
  ·rcases gS hb with ⟨j,u,rfl,e⟩ | ⟨y,u,rfl,e⟩
   ·injection e with e1 _; rw[e1]
   ·exact nomatch e
  ·rcases gS hb with ⟨j,u,rfl,e⟩ | ⟨y,u,rfl,e⟩
   ·exact nomatch e
   ·injection e with e1 _; rw[e1]
 byValue:=λk v h=>by
  rcases gS h with ⟨i,t,rfl,rfl⟩ | ⟨x,t,rfl,rfl⟩ <;> rfl
 pyHash:=λhv h=>by
  rcases gS hv with ⟨i,t,rfl,rfl⟩ | ⟨x,t,rfl,rfl⟩
  ·exact wpAny_pyHash_int h
  ·exact wpAny_pyHash_str h
 eqBool:=λhu hv h=>by
  rcases gS hu with ⟨i,t,rfl,rfl⟩ | ⟨x,t,rfl,rfl⟩
  ·rcases gS hv with ⟨j,u,rfl,rfl⟩ | ⟨y,u,rfl,rfl⟩
   ·rw[Lx]at h; exact wpAny_eqBool_int h
   ·rw[Lw]at h; exact SeqAt.EqAt.int_str i t y u _ _ _ _ h
  ·rcases gS hv with ⟨j,u,rfl,rfl⟩ | ⟨y,u,rfl,rfl⟩
   ·rw[Lv]at h; exact SeqAt.EqAt.str_int x t j u _ _ _ _ h
   ·rw[Lu]at h; exact wpAny_eqBool_str h
 «strs»:=λk x t v h=>by
  rcases gS h with ⟨i,u,rfl,e⟩ | ⟨y,u,rfl,e⟩
  ·exact nomatch e
  ·injection e with e1 _
   subst e1
   cases v <;> rfl
theorem sC(prog:Program)(w:World)(i:Int)(t:Tok):(cr prog w).is (.inl i) (.int i t)=true:=Lz i t
theorem Bg(prog:Program)(w:World)(x:Str)(t:Tok):(cr prog w).is (.inr x) (.str x t)=true:=Ly x t
inductive V where
 | non | bl (b:Bool) | int (i:Int) | str (x:Str) | byt (b:Array UInt8) | flt (b:UInt64) | ref (a:Addr) | ty (n:String)
 deriving DecidableEq
def aR:V->Value->Prop
 | .non,u=>u=Value.none
 | .bl b,u=>u=Value.bool b
 | .int i,u=>∃ t,u=Value.int i t
 | .str x,u=>∃ t,u=Value.str x t
 | .byt b,u=>∃ t,u=Value.bytes b t
 | .flt b,u=>∃ t,u=Value.float b t
 | .ref a,u=>u=Value.ref a
 | .ty n,u=>u=Value.type n
abbrev aI:List V->List Value->Prop:=Paired aR
theorem aI.length{xs:List V}{us:List Value}(r:aI xs us):xs.length=us.length:=Paired.length r
theorem aI.get : ∀ {xs:List V} {us:List Value} {i:Nat} {x:V},aI xs us->xs[i]? = some x->∃ u,us[i]? = some u/\aR x u
 | _,_,_,_,.nil,e=>by simp at e
 | _,_,0,_,.cons r _,e=>by simp at e; subst e; exact⟨_,rfl,r⟩
 | _,_,i+1,x,.cons _ t,e=>by
  obtain⟨u,h1,h2⟩:=aI.get (i:=i) (x:=x) t (by simpa using e)
  exact⟨u,by simpa using h1,h2⟩
theorem aI.append : ∀ {xs ys:List V} {us ws:List Value},aI xs us->aI ys ws->aI (xs++ys) (us++ws)
 | _,_,_,_,.nil,s=>s
 | _,_,_,_,.cons r t,s=>.cons r (aI.append t s)
theorem aI.take : ∀ {xs:List V} {us:List Value} (n:Nat),aI xs us->aI (xs.take n) (us.take n)
 | _,_,0,_=>.nil
 | _,_,_+1,.nil=>.nil
 | _,_,n+1,.cons r t=>.cons r (aI.take n t)
theorem aI.drop : ∀ {xs:List V} {us:List Value} (n:Nat),aI xs us->aI (xs.drop n) (us.drop n)
 | _,_,0,r=>r
 | _,_,_+1,.nil=>.nil
 | _,_,n+1,.cons _ t=>aI.drop n t
def dB:Option V->Option Value->Prop
 | some v,some u=>aR v u
 | none,none=>True
 | _,_=>False
def KV{κ:Type}:List (κ × V)->List (κ × Value)->Prop:=Paired λ(p:κ × V) (q:κ × Value)=>p.1=q.1/\aR p.2 q.2
def kV:aP->V
 | .inl i=>.int i
 | .inr x=>.str x
inductive HO where
 | lst (xs:List V)
 | tup (xs:List V)
 | dK (kvs:List (aP × V)) | dT (kvs:List (List aP × V))
 | set (S:Int->Bool) (n:Nat)
 | ins (C dx:Addr) (fs:List (Str × V))
 | own (x:Addr)
 | xd (fs:List (Str × V))
 | met (f x:Addr)
 | rng (lo hi:Int)
 | frz (o:Obj) (u:HO)
 | tbl (ps:Array Value)
 | ext (φ:Heap->Prop)
abbrev Hp:=Addr->Option HO
def upd(H:Hp)(a:Addr)(o:HO):Hp:=λb=>if b=a then some o else H b
theorem aQ{H:Hp}{a:Addr}{o:HO}:upd H a o a=some o:=by unfold upd; rw[if_pos rfl]
theorem aw{H:Hp}{a b:Addr}{o:HO}(h:b≠a):upd H a o b=H b:=by unfold upd; rw[if_neg h]
theorem J3{H:Hp}{a b:Addr}{o u:HO}(h:H a=some o)(h':H b=some u)(d:o≠u):a≠b:=by
 intro e; subst e; rw[h]at h'; exact d (Option.some.inj h')
theorem aH{H:Hp}{a b:Addr}{o:HO}(h:H a=some o)(h':H b=none):a≠b:=by
 intro e; subst e; rw[h]at h'; cases h'
section
variable (P:Program)(w:World)
def bF(H:Hp)(h:Heap)(a:Addr):HO->Prop
 | .lst xs=>xs.length<=sizeLine/\∃ (its:List Value) (n:Nat),aI xs its/\h.get? a=some { cls:=.type "list",data:=.seq its.toArray n }
 | .tup xs=>xs.length<=sizeLine/\∃ its:List Value,aI xs its/\IsTup h a its.toArray
 | .dK kvs=>kvs.length<=sizeLine/\(a == sysModules)=false/\∃ vs,KV kvs vs/\h.DictOf (cr P w) a vs
 | .dT kvs=>kvs.length<=sizeLine/\(a == sysModules)=false/\∃ xs:List (List aP × Addr × Value),
  Paired (λ(p:List aP × V) (q:List aP × Addr × Value)=>p.1=q.1/\H q.2.1=some (.tup (p.1.map kV))/\aR p.2 q.2.2) kvs xs /\
  ∃ o es ep,h.get? a=some o/\o.ExactDict/\o.data=.dict es ep/\es.toList=xs.map (entryOfKey (tupleKind (cr P w)))/\(xs.map (·.1)).Nodup
 | .set S n=>h.SetOf (intKind P w) a S n
 | .ins C dx fs=>H dx=some (.own a)/\fs.length<=1000/\dx≠a/\h.get? a=some (W.instObj C dx) /\
  ∃ mA,h.Ns1 dx mA/\(∀ f,dB (fs.lookup f) (mA f))/\PySem.Within mA (fs.map (·.1))
 | .own _=>∃ o,h.get? a=some o
 | .xd fs=>∃ mA,h.Ns1 a mA/\∀ f,dB (fs.lookup f) (mA f)
 | .rng lo hi=>∃ t u v,h.get? a=some { cls:=.type "range",data:=.fields #[.int lo t,.int hi u,.int 1 v] }
 | .frz o u=>h.get? a=some o/\bF H h a u
 | .tbl ps=>h.get? a=some { cls:=.none,data:=.fields ps }
 | .met f x=>h.get? a=some (W.methodObj (.ref f) (.ref x))
 | .ext φ=>φ h/\(∃ o,h.get? a=some o)/\∀ h1 h2:Heap,φ h1->(∀ o,h1.get? a=some o->h2.get? a=some o)->φ h2
def bw(H:Hp)(h:Heap):Prop:=∀ a o,H a=some o->bF P w H h a o
end
section
variable {P:Program}{w:World}{H H':Hp}{h h':Heap}{a:Addr}{o:HO}
theorem bF.lt(x:bF P w H h a o):a < h.objs.size:=by
 cases o with
 | lst xs=>obtain⟨_,_,_,_,e⟩:=x; exact Heap.lt_size e
 | tup xs=>obtain⟨_,_,_,p⟩:=x; exact p.lt
 | dK kvs=>obtain⟨_,_,_,_,o,_,_,e,_⟩:=x; exact Heap.lt_size e
 | dT kvs=>obtain⟨_,_,_,_,o,_,_,e,_⟩:=x; exact Heap.lt_size e
 | set S n=>obtain⟨o,_,_,_,e,_⟩:=x; exact Heap.lt_size e
 | ins C dx fs=>obtain⟨_,_,_,e,_⟩:=x; exact Heap.lt_size e
 | own y=>obtain⟨_,e⟩:=x; exact Heap.lt_size e
 | xd fs=>obtain⟨_,⟨_,_,_,e,_⟩,_⟩:=x; exact Heap.lt_size e
 | rng lo hi=>obtain⟨_,_,_,e⟩:=x; exact Heap.lt_size e
 | frz ob u=>obtain⟨e,_⟩:=x; exact Heap.lt_size e
 | tbl ps=>exact Heap.lt_size (show h.get? a=some _ from x)
 | met f y=>exact Heap.lt_size (show h.get? a=some _ from x)
 | ext φ=>obtain⟨_,⟨_,e⟩,_⟩:=x; exact Heap.lt_size e
theorem Paired.mapP{α β:Type}{F G:α->β->Prop} : ∀ {l₁:List α} {l₂:List β},Paired F l₁ l₂->(∀ a b,F a b->G a b)->Paired G l₁ l₂
 | _,_,.nil,_=>.nil
 | _,_,.cons r t,f=>.cons (f _ _ r) (Paired.mapP t f)
theorem bF.stay(x:bF P w H h a o)(k : ∀ b u,(b=a\/H b=some (.own a))->h.get? b=some u->h'.get? b=some u)
 (ho : ∀ b,H b=some (.own a)->H' b=some (.own a)) (ht : ∀ b xs,H b=some (.tup xs)->H' b=some (.tup xs)):bF P w H' h' a o:=by
 induction o with
 | lst xs=>obtain⟨z,its,n,r,e⟩:=x; exact⟨z,its,n,r,k _ _ (.inl rfl) e⟩
 | tup xs=>obtain⟨z,its,r,ob,e,c⟩:=x; exact⟨z,its,r,ob,k _ _ (.inl rfl) e,c⟩
 | dK kvs=>obtain⟨z,y,vs,r,ob,es,ep,e,c⟩:=x; exact⟨z,y,vs,r,ob,es,ep,k _ _ (.inl rfl) e,c⟩
 | dT kvs =>
  obtain⟨z,y,xs,r,ob,es,ep,e,c⟩:=x
  exact⟨z,y,xs,Paired.mapP r λp q z=>⟨z.1,ht _ _ z.2.1,z.2.2⟩,ob,es,ep,k _ _ (.inl rfl) e,c⟩
 | set S n=>obtain⟨ob,es,ep,t,e,c⟩:=x; exact⟨ob,es,ep,t,k _ _ (.inl rfl) e,c⟩
 | ins C dx fs =>
  obtain⟨d,z,ne,e,mA,⟨od,es,ep,e2,c⟩,r⟩:=x
  exact⟨ho _ d,z,ne,k _ _ (.inl rfl) e,mA,⟨od,es,ep,k _ _ (.inr d) e2,c⟩,r⟩
 | own y=>obtain⟨ob,e⟩:=x; exact⟨ob,k _ _ (.inl rfl) e⟩
 | xd fs=>obtain⟨mA,⟨od,es,ep,e,c⟩,r⟩:=x; exact⟨mA,⟨od,es,ep,k _ _ (.inl rfl) e,c⟩,r⟩
 | rng lo hi=>obtain⟨t,u,v,e⟩:=x; exact⟨t,u,v,k _ _ (.inl rfl) e⟩
 | frz ob u ih=>obtain⟨e,q⟩:=x; exact⟨k _ _ (.inl rfl) e,ih q⟩
 | tbl ps =>
  have e:h.get? a=some { cls:=.none,data:=.fields ps }:=x
  show h'.get? a=some { cls:=.none,data:=.fields ps }
  exact k a _ (.inl rfl) e
 | met f y =>
  have e:h.get? a=some (W.methodObj (.ref f) (.ref y)):=x
  show h'.get? a=some (W.methodObj (.ref f) (.ref y))
  exact k a _ (.inl rfl) e
 | ext φ=>obtain⟨p,⟨o,e⟩,st⟩:=x; exact⟨st _ _ p λo q=>k _ _ (.inl rfl) q,⟨o,k _ _ (.inl rfl) e⟩,st⟩
theorem bw.lt(x:bw P w H h)(e:H a=some o):a < h.objs.size:=(x a o e).lt
theorem bw.fresh(x:bw P w H h)(e:h.objs.size<=a):H a=none:=by
 cases q:H a with
 | none=>rfl
 | some u=>exact absurd (Nat.lt_of_lt_of_le (x.lt q) e) (Nat.lt_irrefl _)
theorem bw.kept(x:bw P w H h)(k : ∀ b u,h.get? b=some u->h'.get? b=some u):bw P w H h':=λa o e =>
 (x a o e).stay (λb u _ q=>k b u q) (λ_ q=>q) λ_ _ q=>q
theorem bw.laid(x:bw P w H h)(k : ∀ b u,h.get? b=some u->h'.get? b=some u)(hp:h.objs.size<=a)(new:bF P w (upd H a o) h' a o):bw P w (upd H a o) h':=λb u e=>by
 have hn:=x.fresh hp
 by_cases hb:b=a
 ·subst hb; rw[aQ]at e; cases e; exact new
 ·rw[aw hb]at e
  exact (x b u e).stay (λc v _ q=>k c v q) (λc q=>by rw[aw (aH q hn)]; exact q) λc xs q=>by rw[aw (aH q hn)]; exact q
end
def Rd(H:Hp)(a:Addr)(u:HO):Prop:=H a=some u\/∃ o,H a=some (.frz o u)
theorem Rd.ok{P:Program}{w:World}{H:Hp}{h:Heap}{a:Addr}{u:HO}(r:Rd H a u)(x:bw P w H h):bF P w H h a u:=by
 rcases r with r | ⟨o,r⟩
 ·exact x a u r
 ·obtain⟨_,q⟩:=x a _ r
  exact q
def nk:Option HO->Prop
 | some (.lst _)=>True
 | some (.dK _)=>True
 | some (.dT _)=>True
 | some (.set _ _)=>True
 | some (.ins _ _ _)=>True
 | some (.ext _)=>True
 | _=>False
section
variable {P:Program}{w:World}{H:Hp}{h h':Heap}{x e:Addr}{o':HO}
theorem bw.write(ok:bw P w H h)(mu:nk (H x))(he:e=x\/H e=some (.own x))(k : ∀ b u,b≠e->h.get? b=some u->h'.get? b=some u)(heo : ∃ u,h'.get? e=some u)
 (new:bF P w (upd H x o') h' x o'):bw P w (upd H x o') h':=λb u q=>by
 have nown : ∀ c y,H c=some (.own y)->c≠x:=λc y r z=>by subst z; rw[r]at mu; exact mu
 have ntup : ∀ c xs,H c=some (.tup xs)->c≠x:=λc xs r z=>by subst z; rw[r]at mu; exact mu
 by_cases hb:b=x
 ·subst hb; rw[aQ]at q; cases q; exact new
 ·rw[aw hb]at q
  by_cases hbe:b=e
  ·have q':H b=some (.own x):=by
    rcases he with z | z
    ·exact absurd (hbe.trans z) hb
    ·rw[hbe]; exact z
   rw[q]at q'; cases q'
   obtain⟨v,hv⟩:=heo
   exact⟨v,by rw[hbe]; exact hv⟩
  ·refine (ok b u q).stay (λc v hc r=>k c v ?_ r) (λc r=>by rw[aw (nown c b r)]; exact r) λc xs r=>by rw[aw (ntup c xs r)]; exact r
   rcases hc with rfl | hc
   ·exact hbe
   ·rintro rfl
    rcases he with z | z
    ·exact nown c b hc z
    ·rw[hc]at z; cases z; exact hb rfl
end
structure Un (fs ex:List Addr) (H H':Hp) (h h':Heap):Prop where
 keep : ∀ b o,h.get? b=some o->H b=none->b∉fs->b∉ex->h'.get? b=some o
 slot : ∀ b o,h.get? b=some o->H b=none->b∈fs->b∉ex->∃ sl,h'.get? b=some { o with slots:=sl }
 free : ∀ b o,h.get? b=some o->H b=none->b∉ex->H' b=none
 there : ∀ b o,h.get? b=some o->b∉ex->∃ o',h'.get? b=some o'
 tups : ∀ b xs,H b=some (.tup xs)->H' b=some (.tup xs)
 frzs : ∀ b o u,H b=some (.frz o u)->H' b=some (.frz o u)
 tbls : ∀ b ps,H b=some (.tbl ps)->∃ more,H' b=some (.tbl (ps++more))
section
variable {fs fs' ex ex':List Addr}{H H1 H2:Hp}{h h1 h2 h':Heap}{a x e:Addr}{o:HO}
theorem Un.any(u:Un fs ex H H1 h h1){b:Addr}{ob:Obj}(q:h.get? b=some ob)(n:H b=none)(hx:b∉ex) : ∃ sl,h1.get? b=some { ob with slots:=sl }:=by
 by_cases hb:b∈fs
 ·exact u.slot b ob q n hb hx
 ·exact⟨ob.slots,u.keep b ob q n hb hx⟩
theorem Un.kept(k : ∀ b u,h.get? b=some u->h'.get? b=some u):Un fs ex H H h h' :=
 ⟨λb ob q _ _ _=>k b ob q,λb ob q _ _ _=>⟨ob.slots,k b ob q⟩,λ_ _ _ n _=>n,λb ob q _=>⟨ob,k b ob q⟩,λ_ _ q=>q,λ_ _ _ q=>q,λ_ ps q=>⟨#[],by rw[q]; simp⟩⟩
theorem Un.refl:Un fs ex H H h h:=Un.kept λ_ _ q=>q
theorem Un.laid(k : ∀ b u,h.get? b=some u->h'.get? b=some u)(hp:h.objs.size<=a)(hn:H a=none):Un fs ex H (upd H a o) h h' where
 keep:=λb u q _ _ _=>k b u q
 slot:=λb u q _ _ _=>⟨u.slots,k b u q⟩
 free:=λb u q n _=>by rw[aw (Nat.ne_of_lt (Nat.lt_of_lt_of_le (Heap.lt_size q) hp))]; exact n
 there:=λb u q _=>⟨u,k b u q⟩
 tups:=λb xs q=>by rw[aw (aH q hn)]; exact q
 frzs:=λb u xs q=>by rw[aw (aH q hn)]; exact q
 tbls:=λb ps q=>⟨#[],by rw[aw (aH q hn),q]; simp⟩
theorem Un.write(mu:nk (H x))(he:e=x\/H e=some (.own x))(k : ∀ b u,b≠e->h.get? b=some u->h'.get? b=some u)(heo : ∃ u,h'.get? e=some u):Un fs ex H (upd H x o) h h':=by
 have hx : ∀ b,H b=none->b≠x:=λb n z=>by subst z; rw[n]at mu; exact mu
 have hb : ∀ b,H b=none->b≠e:=λb n z=>by
  subst z
  rcases he with r | r
  ·exact hx b n r
  ·rw[n]at r; cases r
 have hm : ∀ b u,H b=some u->¬ nk (some u)->b≠x:=λb u q nm z=>by subst z; rw[q]at mu; exact nm mu
 refine⟨λb u q n _ _=>k b u (hb b n) q,λb u q n _ _=>⟨u.slots,k b u (hb b n) q⟩,λb u q n _=>by rw[aw (hx b n)]; exact n,λb u q _=>?_,
  λb xs q=>by rw[aw (hm b _ q λz=>z)]; exact q,λb u xs q=>by rw[aw (hm b _ q λz=>z)]; exact q,λb ps q=>⟨#[],by rw[aw (hm b _ q λz=>z),q]; simp⟩⟩
 by_cases hbe:b=e
 ·subst hbe; exact heo
 ·exact⟨u,k b u hbe q⟩
end
def nC(h:Heap)(H:Hp):List Addr:=(List.range h.objs.size).filter λa=>(H a).isSome
def gW(h:Heap)(H:Hp):Heap:=W.hideAll h (nC h H)
theorem L4(h:Heap)(H:Hp):(gW h H).objs.size=h.objs.size:=W.hideAll_size _ _
theorem L5{h:Heap}{H:Hp}{b:Addr}{o:Obj}(e:h.get? b=some o)(n:H b=none):(gW h H).get? b=some o :=
 W.hideAll_get _ e λhm=>by
  have q:(H b).isSome=true:=(List.mem_filter.mp hm).2
  rw[n]at q; simp at q
theorem JZ{h:Heap}{H:Hp}{b:Addr}{o:Obj}(e:(gW h H).get? b=some o):h.get? b=some o/\H b=none:=by
 have e':h.get? b=some o:=W.of_hideAll (nC h H) e
 refine⟨e',?_⟩
 cases q:H b with
 | none=>rfl
 | some x =>
  have hm:b∈nC h H:=List.mem_filter.mpr ⟨List.mem_range.mpr (Heap.lt_size e'),by simp[q]⟩
  have z:(gW h H).get? b=none:=W.hideAll_none (nC h H) hm
  rw[z]at e; cases e
def Rc(g h:Heap)(L:Addr):List (Addr × Obj):=(List.range h.objs.size).filterMap λa=>if a=L\/(g.get? a).isSome=true then none else (h.get? a).map λo=>(a,o)
def bN(g h:Heap)(L d:Addr):List (Addr × Obj):=(Rc g h L).filter λp=>decide (p.1≠d)
structure Mod (K:W.Frag) (mg:Str->Option Value) (base:Heap):Prop where
 kin:K.In base
 glob:base.Ns mainGlobals mg
 blt : ∃ mb,base.Ns builtinsNs mb/\∀ x:Str,x ≠ "__name__"->mb x=bootBuiltins x
 nolimit:base.NoLimit
structure Cx where
 prog:Program
 w:World
 K:W.Frag
 mg:Str->Option Value
 base:Heap
 A:Around
 N:List Str
 s₀:Shared
 H₀:Hp
 env:Env
 outer:List Env
 stack:List Env
 ex:List Addr
 fn:Str->Bool
 calm:Bool
 pn:List (Addr × Obj)
 xe:Value->Shared->Prop
def cW(l:List Env):List Addr:=l.filterMap (·.frame)
abbrev Cx.fs(X:Cx):List Addr:=cW X.outer
def m7(sc:Scope)(x:Str):Prop:=sc.names.lookup x=some .local\/sc.names.lookup x=some .cell\/sc.names.lookup x=some .free
def iA(sc:Scope)(x:Str):Prop:=sc.names.lookup x=some .local\/sc.names.lookup x=some .cell
def Rj(env:Env)(h:Heap)(m:Str->Option Value)(x:Str)(u:Value):Prop :=
 (env.kindOf x=some .local/\m x=some u)\/((env.kindOf x=some .cell\/env.kindOf x=some .free)/\∃ c,env.cells.lookup x=some c/\h.IsCell c (some u))
structure Cx.Ok (X:Cx):Prop where
 mod:Mod X.K X.mg X.base
 kind:X.env.scope.kind=.function
 glob:X.env.globals=mainGlobals
 blt:X.env.builtins=builtinsNs
 above:X.s₀.heap.objs.size<=X.env.locals
 inj : ∀ x y c,X.env.cells.lookup x=some c->X.env.cells.lookup y=some c->x=y
 has : ∀ x,(X.env.kindOf x=some .cell\/X.env.kindOf x=some .free)->∃ c,X.env.cells.lookup x=some c
 cab : ∀ x c,X.fn x=true->X.env.cells.lookup x=some c->X.s₀.heap.objs.size<=c
 hd:X.calm=true->X.A.handled=none
 frames:X.A.frames=some X.stack
 stk:X.stack=X.outer\/(X.stack=X.env :: X.outer/\X.env.frame=some X.env.locals)
 exf : ∀ b∈X.ex,b≠X.env.locals/\∀ x c,X.env.cells.lookup x=some c->c≠b
 bs : ∀ b o,X.base.get? b=some o->X.s₀.heap.get? b=some o/\X.H₀ b=none
 bsz:X.base.objs.size<=X.s₀.heap.objs.size
 noex : ∀ b o,X.base.get? b=some o->b∉X.ex
 exfs : ∀ b∈X.ex,b∉X.fs
 funs:X.s₀.heap.FunFrames X.base X.outer
 frf : ∀ b∈X.fs,X.H₀ b=none
structure ae (X:Cx) (pins:List (Addr × Obj)) (σ:List (Option V)) (H:Hp) (s:Shared):Prop where
 ok:X.Ok
 os:s.os=X.s₀.os
 bare:AllBare s.gens
 base:Un X.fs X.ex X.H₀ H X.s₀.heap s.heap
 loc : ∃ m,s.heap.Ns X.env.locals m/\∀ (i:Nat) (x:Str) (v:V),X.N[i]? = some x->σ[i]? = some (some v)->m7 X.env.scope x->∃ u,aR v u/\Rj X.env s.heap m x u
 cell : ∀ x c,X.env.cells.lookup x=some c->∃ v,s.heap.IsCell c v
 free:H X.env.locals=none
 freeC : ∀ x c,X.env.cells.lookup x=some c->H c=none
 pin : ∀ p∈X.pn++pins,s.heap.get? p.1=some p.2/\H p.1=none/\p.1≠X.env.locals/\p.1∉X.fs/\∀ v,p.2.data ≠ .cell v
 hok:bw X.prog X.w H s.heap
 len:σ.length=X.N.length
section
variable {X:Cx}{pins:List (Addr × Obj)}{σ:List (Option V)}{H H':Hp}{s:Shared}{h':Heap}
theorem Cx.Ok.nofr(ok:X.Ok){b:Addr}{o:Obj}(e:X.base.get? b=some o):b∉X.fs:=λhb=>by
 have:=(ok.funs.mem hb).1
 rw[e]at this; cases this
theorem ae.bs(I:ae X pins σ H s) : ∀ b o,X.base.get? b=some o->s.heap.get? b=some o/\H b=none:=λb o e =>
 ⟨I.base.keep b o (I.ok.bs b o e).1 (I.ok.bs b o e).2 (I.ok.nofr e) (I.ok.noex b o e),I.base.free b o (I.ok.bs b o e).1 (I.ok.bs b o e).2 (I.ok.noex b o e)⟩
theorem ae.bk(I:ae X pins σ H s) : ∀ b o,X.base.get? b=some o->s.heap.get? b=some o:=λb o e=>(I.bs b o e).1
theorem ae.mod(I:ae X pins σ H s):Mod X.K X.mg X.base:=I.ok.mod
theorem ae.kIn(I:ae X pins σ H s):X.K.In s.heap:=I.ok.mod.kin.keeps I.bk
theorem ae.lt(I:ae X pins σ H s):X.env.locals < s.heap.objs.size:=let ⟨_,hn,_⟩:=I.loc; hn.lt
theorem ae.sz(I:ae X pins σ H s):X.s₀.heap.objs.size<=s.heap.objs.size:=Nat.le_trans I.ok.above (Nat.le_of_lt I.lt)
theorem ae.nofs(I:ae X pins σ H s){a:Addr}(h:s.heap.objs.size<=a):a∉X.fs:=λhb=>by
 obtain⟨_,o,ho,_⟩:=I.ok.funs.mem hb
 exact absurd (Nat.lt_of_lt_of_le (Heap.lt_size ho) (Nat.le_trans I.sz h)) (Nat.lt_irrefl _)
theorem ae.cne(I:ae X pins σ H s) : ∀ x c,X.env.cells.lookup x=some c->c≠X.env.locals:=λx c e z=>by
 obtain⟨v,o,ho,hd⟩:=I.cell x c e
 obtain⟨m,⟨o',es,ep,ho',hd',_⟩,_⟩:=I.loc
 rw[z,ho']at ho; cases ho; rw[hd']at hd; cases hd
theorem ae.funs(I:ae X pins σ H s):s.heap.FunFrames X.base X.outer:=by
 have all : ∀ (l:List Env),(∀ b∈cW l,b∈X.fs)->X.s₀.heap.FunFrames X.base l->s.heap.FunFrames X.base l:=by
  intro l
  induction l with
  | nil=>intro _ _; trivial
  | cons env r ih =>
   intro hs hl
   obtain⟨hk,⟨L,o,hf,hn,ho,hd⟩,hr⟩:=hl
   have hL:L∈X.fs:=hs L (by unfold cW; rw[List.filterMap_cons,hf]; exact List.mem_cons_self)
   obtain⟨sl,e⟩:=I.base.slot L o ho (I.ok.frf L hL) hL λz=>I.ok.exfs L z hL
   exact⟨hk,⟨L,_,hf,hn,e,hd⟩,ih (λb hb=>hs b (by unfold cW; rw[List.filterMap_cons,hf]; exact List.mem_cons_of_mem _ hb)) hr⟩
 exact all X.outer (λ_ hb=>hb) I.ok.funs
theorem ae.stack(I:ae X pins σ H s):s.heap.FunFrames X.base X.stack:=by
 rcases I.ok.stk with e | ⟨e,hf⟩
 ·rw[e]; exact I.funs
 ·rw[e]
  obtain⟨m,hn,_⟩:=I.loc
  refine .cons (by rw[I.ok.kind]; decide) hf hn ?_ I.funs
  exact Heap.get?_none_of_le (Nat.le_trans I.ok.bsz I.ok.above)
theorem ae.stkSub(I:ae X pins σ H s) : ∀ b∈cW X.stack,b∈X.env.locals :: X.fs:=λb hb=>by
 rcases I.ok.stk with e | ⟨e,hf⟩
 ·rw[e]at hb; exact List.mem_cons_of_mem _ hb
 ·rw[e]at hb
  unfold cW at hb
  rw[List.filterMap_cons,hf]at hb
  exact hb
theorem ae.stkFree(I:ae X pins σ H s) : ∀ b∈cW X.stack,H b=none:=λb hb=>by
 rcases List.mem_cons.mp (I.stkSub b hb) with e | hb
 ·rw[e]; exact I.free
 ·obtain⟨_,o,ho,_⟩:=I.ok.funs.mem hb
  exact I.base.free b o ho (I.ok.frf b hb) λz=>I.ok.exfs b z hb
theorem ae.step{g':Array GenState}{t':Nat}{d':Drawn}{ch:List Addr}(I:ae X pins σ H s)
 (hch : ∀ b∈ch,(b∈X.ex\/X.s₀.heap.objs.size<=b)/\b≠X.env.locals/\(∀ x c,X.env.cells.lookup x=some c->c≠b)/\∀ p∈X.pn++pins,p.1≠b)
 (keep : ∀ b o,b≠X.env.locals->b∉X.fs->b∉ch->s.heap.get? b=some o->H b=none->h'.get? b=some o)
 (slot : ∀ b o,b≠X.env.locals->b∈X.fs->b∉ch->s.heap.get? b=some o->H b=none->∃ sl,h'.get? b=some { o with slots:=sl }) (free : ∀ b o,b∉ch->s.heap.get? b=some o->H b=none->H' b=none)
 (there : ∀ b o,b∉ch->s.heap.get? b=some o->∃ o',h'.get? b=some o')
 (tups : ∀ b xs,H b=some (.tup xs)->H' b=some (.tup xs)) (frzs : ∀ b o u,H b=some (.frz o u)->H' b=some (.frz o u)) (tbls : ∀ b ps,H b=some (.tbl ps)->∃ more,H' b=some (.tbl (ps++more)))
 (ns : ∀ m,s.heap.Ns X.env.locals m->h'.Ns X.env.locals m) (hok:bw X.prog X.w H' h') (hg:AllBare g') :
 ae X pins σ H' { s with heap:=h',gens:=g',drawn:=d',toks:=t' }:=by
 have neL : ∀ b o,X.s₀.heap.get? b=some o->b≠X.env.locals:=λb o e=>Nat.ne_of_lt (Nat.lt_of_lt_of_le (Heap.lt_size e) I.ok.above)
 have neC : ∀ b o,X.s₀.heap.get? b=some o->b∉X.ex->b∉ch:=λb o e hx hb=>by
  rcases (hch b hb).1 with z | z
  ·exact hx z
  ·exact absurd (Nat.lt_of_lt_of_le (Heap.lt_size e) z) (Nat.lt_irrefl _)
 have cellK : ∀ x c,X.env.cells.lookup x=some c->∀ v,s.heap.IsCell c v->h'.IsCell c v:=λx c e v ⟨o,ho,hd⟩=>by
  have nch:c∉ch:=λz=>(hch c z).2.2.1 x c e rfl
  by_cases hc:c∈X.fs
  ·obtain⟨sl,q⟩:=slot c o (I.cne x c e) hc nch ho (I.freeC x c e)
   exact⟨_,q,hd⟩
  ·exact⟨o,keep c o (I.cne x c e) hc nch ho (I.freeC x c e),hd⟩
 refine⟨I.ok,I.os,hg,⟨λb o e n hb hx=>?_,λb o e n hb hx=>?_,λb o e n hx=>?_,λb o e hx=>?_,λb xs e=>tups b xs (I.base.tups b xs e),λb o xs e=>frzs b o xs (I.base.frzs b o xs e),λb ps e=>?_⟩,?_,λx c e=>?_,?_,λx c e=>?_,λp hp=>?_,hok,I.len⟩
 ·exact keep b o (neL b o e) hb (neC b o e hx) (I.base.keep b o e n hb hx) (I.base.free b o e n hx)
 ·obtain⟨sl,e1⟩:=I.base.slot b o e n hb hx
  obtain⟨sl',e2⟩:=slot b _ (neL b o e) hb (neC b o e hx) e1 (I.base.free b o e n hx)
  exact⟨sl',e2⟩
 ·obtain⟨o',e1⟩:=I.base.there b o e hx
  exact free b o' (neC b o e hx) e1 (I.base.free b o e n hx)
 ·obtain⟨o',e1⟩:=I.base.there b o e hx
  exact there b o' (neC b o e hx) e1
 ·obtain⟨m1,e1⟩:=I.base.tbls b ps e
  obtain⟨m2,e2⟩:=tbls b _ e1
  exact⟨m1++m2,by rw[e2,Array.append_assoc]⟩
 ·obtain⟨m,hn,hl⟩:=I.loc
  refine⟨m,ns m hn,λi x v e1 e2 e3=>?_⟩
  obtain⟨u,r,l⟩:=hl i x v e1 e2 e3
  refine⟨u,r,?_⟩
  rcases l with l | ⟨k,c,e,z⟩
  ·exact .inl l
  ·exact .inr ⟨k,c,e,cellK x c e _ z⟩
 ·obtain⟨v,z⟩:=I.cell x c e
  exact⟨v,cellK x c e v z⟩
 ·obtain⟨m,⟨o,_,_,ho,_⟩,_⟩:=I.loc
  exact free _ o (λz=>(hch _ z).2.1 rfl) ho I.free
 ·obtain⟨v,o,ho,hd⟩:=I.cell x c e
  exact free c o (λz=>(hch c z).2.2.1 x c e rfl) ho (I.freeC x c e)
 ·obtain⟨e,n,ne,nf,d⟩:=I.pin p hp
  have nch:p.1∉ch:=λz=>(hch p.1 z).2.2.2 p hp rfl
  exact⟨keep p.1 p.2 ne nf nch e n,free p.1 p.2 nch e n,ne,nf,d⟩
theorem ae.un{t':Nat}(I:ae X pins σ H s)(u:Un X.fs [] H H' s.heap h')(hok:bw X.prog X.w H' h'):ae X pins σ H' { s with heap:=h',toks:=t' }:=by
 obtain⟨m,⟨o,es,ep,ho,r⟩,_⟩:=id I.loc
 obtain⟨sl,hL⟩:=u.any ho I.free (by simp)
 exact I.step (g':=s.gens) (d':=s.drawn) (ch:=[]) (λ_ z=>nomatch z) (λb o _ hb _ e n=>u.keep b o e n hb (by simp)) (λb o _ hb _ e n=>u.slot b o e n hb (by simp)) (λb o _ e n=>u.free b o e n (by simp)) (λb o _ e=>u.there b o e (by simp)) u.tups u.frzs u.tbls (λm' hm=>by
  obtain⟨o',es',ep',ho',r'⟩:=hm
  rw[ho]at ho'; cases ho'
  exact⟨_,es',ep',hL,r'⟩) hok I.bare
theorem ae.call{g':Array GenState}{t':Nat}{d':Drawn}{ch:List Addr}(I:ae X pins σ H s)(u:Un (cW X.stack) ch H H' s.heap h')(hok:bw X.prog X.w H' h')(hg:AllBare g')
 (hch : ∀ b∈ch,(b∈X.ex\/X.s₀.heap.objs.size<=b)/\b≠X.env.locals/\(∀ x c,X.env.cells.lookup x=some c->c≠b)/\∀ p∈X.pn++pins,p.1≠b) :
 ae X pins σ H' { s with heap:=h',gens:=g',drawn:=d',toks:=t' }:=by
 obtain⟨m,⟨o,es,ep,ho,r⟩,_⟩:=id I.loc
 obtain⟨sl,hL⟩:=u.any ho I.free λz=>(hch _ z).2.1 rfl
 exact I.step (ch:=ch) hch (λb o hL hb hc e n=>u.keep b o e n (λz=>(List.mem_cons.mp (I.stkSub b z)).elim hL hb) hc) (λb o _ _ hc e n=>u.any e n hc) (λb o hc e n=>u.free b o e n hc) (λb o hc e=>u.there b o e hc) u.tups u.frzs u.tbls (λm' hm=>by
  obtain⟨o',es',ep',ho',r'⟩:=hm
  rw[ho]at ho'; cases ho'
  exact⟨_,es',ep',hL,r'⟩) hok hg
theorem ae.turned{t':Nat}{it:Addr}(I:ae X pins σ H s)(k : ∀ b o,b≠it->s.heap.get? b=some o->h'.get? b=some o)(hn:H it=none)(hL:it≠X.env.locals)
 (h1:it∈X.ex\/X.s₀.heap.objs.size<=it) (h2 : ∀ x c,X.env.cells.lookup x=some c->c≠it) (h3 : ∀ p∈X.pn++pins,p.1≠it):ae X pins σ H { s with heap:=h',toks:=t' }:=by
 have nit : ∀ b u,H b=some u->b≠it:=λb u e z=>by rw[z,hn]at e; cases e
 refine I.step (g':=s.gens) (d':=s.drawn) (ch:=[it]) (λb hb=>?_) (λb o _ _ hc e _=>k b o (λz=>hc (by simp[z])) e) (λb o _ _ hc e _=>⟨o.slots,k b o (λz=>hc (by simp[z])) e⟩) (λ_ _ _ _ n=>n)
  (λb o hc e=>⟨o,k b o (λz=>hc (by simp[z])) e⟩) (λ_ _ e=>e) (λ_ _ _ e=>e) (λb ps e=>⟨#[],by rw[e]; simp⟩) (λm hm=>?_) (λb u e=>?_) I.bare
 ·have e:b=it:=by simpa using hb
  subst e
  exact⟨h1,hL,h2,h3⟩
 ·obtain⟨o,es,ep,ho,r⟩:=hm
  exact⟨o,es,ep,k _ o (Ne.symm hL) ho,r⟩
 ·refine (I.hok b u e).stay (λc v hc q=>k c v ?_ q) (λ_ q=>q) λ_ _ q=>q
  rcases hc with z | z
  ·rw[z]; exact nit b u e
  ·exact nit c _ z
theorem ae.tok(I:ae X pins σ H s)(t:Nat):ae X pins σ H { s with toks:=t }:=I.un (h':=s.heap) (t':=t) Un.refl I.hok
theorem ae.kept{t':Nat}(I:ae X pins σ H s)(k : ∀ b u,s.heap.get? b=some u->h'.get? b=some u):ae X pins σ H { s with heap:=h',toks:=t' }:=I.un (Un.kept k) (I.hok.kept k)
theorem ae.laid{a:Addr}{o:HO}{t':Nat}(I:ae X pins σ H s)(k : ∀ b u,s.heap.get? b=some u->h'.get? b=some u)(hp:s.heap.objs.size<=a)(new:bF X.prog X.w (upd H a o) h' a o) :
 ae X pins σ (upd H a o) { s with heap:=h',toks:=t' }:=I.un (Un.laid k hp (I.hok.fresh hp)) (I.hok.laid k hp new)
theorem ae.write{x e:Addr}{o:HO}{t':Nat}(I:ae X pins σ H s)(mu:nk (H x))(he:e=x\/H e=some (.own x))(k : ∀ b u,b≠e->s.heap.get? b=some u->h'.get? b=some u)(heo : ∃ u,h'.get? e=some u)
 (new:bF X.prog X.w (upd H x o) h' x o):ae X pins σ (upd H x o) { s with heap:=h',toks:=t' }:=I.un (Un.write mu he k heo) (I.hok.write mu he k heo new)
theorem ae.pins_of{pins':List (Addr × Obj)}(I:ae X pins σ H s)(h : ∀ p∈pins',s.heap.get? p.1=some p.2/\H p.1=none/\p.1≠X.env.locals/\p.1∉X.fs/\∀ v,p.2.data ≠ .cell v):ae X pins' σ H s :=
 ⟨I.ok,I.os,I.bare,I.base,I.loc,I.cell,I.free,I.freeC,λp hp=>(List.mem_append.mp hp).elim (λz=>I.pin p (List.mem_append_left _ z)) (h p),I.hok,I.len⟩
theorem A6{N:List Str}(hN:N.Nodup){i j:Nat}{x:Str}(a:N[i]? = some x)(b:N[j]? = some x):i=j:=by
 obtain⟨h1,e1⟩:=List.getElem?_eq_some_iff.mp a
 obtain⟨h2,e2⟩:=List.getElem?_eq_some_iff.mp b
 exact (List.getElem_inj hN).mp (e1.trans e2.symm)
theorem zz{M:Model}{A:Around}{E:Value->Shared->Prop}{i:Nat}{x:Str}{v:V}{u:Value}{Q:Unit->Shared->Prop}(I:ae X pins σ H s)(hN:X.N.Nodup)(hi:X.N[i]? = some x)(hx:iA X.env.scope x)(r:aR v u)
 (h : ∀ s',ae X pins (σ.set i (some v)) H s'->(∃ a,Heap.SameBut a s.heap s'.heap/\(a=X.env.locals\/X.env.cells.lookup x=some a))->Q () s') (hf:X.fn x=true\/X.env.scope.names.lookup x=some .local:=by first | exact .inl rfl | exact .inr rfl | assumption):wpAny M A (storeName X.env x u) Q E s:=by
 obtain⟨m,hn,hl⟩:=id I.loc
 have hcls:(X.env.scope.kind == .class || (X.env.scope.kind == .module && X.env.locals != X.env.globals))=false:=by rw[I.ok.kind]; rfl
 have hiσ:i < σ.length:=by rw[I.len]; exact (List.getElem?_eq_some_iff.mp hi).1
 have cne:=I.cne
 have tracked : ∀ {a:Addr} {h':Heap},(∃ o,s.heap.get? a=some o/\H a=none)->Heap.SameBut a s.heap h'->bw X.prog X.w H h':=λ{a h'} ha hs b ob e=>by
  obtain⟨_,_,hfree⟩:=ha
  refine (I.hok b ob e).stay (λc w' hc q=>(hs.2 c ?_).trans q) (λ_ q=>q) λ_ _ q=>q
  rintro rfl
  rcases hc with rfl | hc
  ·rw[hfree]at e; cases e
  ·rw[hfree]at hc; cases hc
 rcases hx with hk | hk
 ·refine wpAny_storeName_local hk hn (λh' hn' hs=>?_) hcls
  obtain⟨oL,_,_,hoL,_⟩:=id hn
  refine h _ ⟨I.ok,I.os,I.bare,⟨λb o e n hb hx=>?_,λb o e n hb hx=>?_,I.base.free,λb o e hx=>?_,I.base.tups,I.base.frzs,I.base.tbls⟩,⟨_,hn',λj y v' e1 e2 e3=>?_⟩,λy c e=>?_,I.free,I.freeC,λp hp=>?_,tracked ⟨oL,hoL,I.free⟩ hs,by simpa using I.len⟩ ⟨_,hs,.inl rfl⟩
  ·exact (hs.2 b (Nat.ne_of_lt (Nat.lt_of_lt_of_le (Heap.lt_size e) I.ok.above))).trans (I.base.keep b o e n hb hx)
  ·obtain⟨sl,e1⟩:=I.base.slot b o e n hb hx
   exact⟨sl,(hs.2 b (Nat.ne_of_lt (Nat.lt_of_lt_of_le (Heap.lt_size e) I.ok.above))).trans e1⟩
  ·obtain⟨o',e1⟩:=I.base.there b o e hx
   exact⟨o',(hs.2 b (Nat.ne_of_lt (Nat.lt_of_lt_of_le (Heap.lt_size e) I.ok.above))).trans e1⟩
  ·by_cases hj:j=i
   ·subst hj
    rw[hi]at e1; cases e1
    rw[List.getElem?_set_self hiσ]at e2
    cases e2
    exact⟨u,r,.inl ⟨hk,by simp⟩⟩
   ·rw[List.getElem?_set_ne (Ne.symm hj)]at e2
    obtain⟨u',r',q⟩:=hl j y v' e1 e2 e3
    refine⟨u',r',?_⟩
    rcases q with ⟨k,e⟩ | ⟨k,c,e,z⟩
    ·refine .inl ⟨k,?_⟩
     have:y≠x:=λe=>hj (A6 hN e1 (e ▸ hi))
     simp[this,e]
    ·exact .inr ⟨k,c,e,z.sameBut hs (cne y c e)⟩
  ·obtain⟨w',z⟩:=I.cell y c e
   exact⟨w',z.sameBut hs (cne y c e)⟩
  ·obtain⟨e,n,ne,nf,d⟩:=I.pin p hp
   exact⟨(hs.2 p.1 ne).trans e,n,ne,nf,d⟩
 ·have hfn:X.fn x=true:=by
   rcases hf with z | z
   ·exact z
   ·rw[z]at hk; cases hk
  obtain⟨c,hc⟩:=I.ok.has x (.inl hk)
  obtain⟨w',z⟩:=I.cell x c hc
  refine wpAny_storeName_cell I.ok.kind hk hc z (λh' hc' hs=>?_)
  obtain⟨oc,hoc,hocd⟩:=id z
  refine h { s with heap:=h' } ⟨I.ok,I.os,I.bare,⟨λb o e n hb hx=>?_,λb o e n hb hx=>?_,I.base.free,λb o e hx=>?_,I.base.tups,I.base.frzs,I.base.tbls⟩,⟨m,hn.sameBut hs (Ne.symm (cne x c hc)),λj y v' e1 e2 e3=>?_⟩,λy c' e=>?_,I.free,I.freeC,λp hp=>?_,tracked ⟨oc,hoc,I.freeC x c hc⟩ hs,by simpa using I.len⟩ ⟨c,hs,.inr hc⟩
  ·exact (hs.2 b (Nat.ne_of_lt (Nat.lt_of_lt_of_le (Heap.lt_size e) (I.ok.cab x c hfn hc)))).trans (I.base.keep b o e n hb hx)
  ·obtain⟨sl,e1⟩:=I.base.slot b o e n hb hx
   exact⟨sl,(hs.2 b (Nat.ne_of_lt (Nat.lt_of_lt_of_le (Heap.lt_size e) (I.ok.cab x c hfn hc)))).trans e1⟩
  ·obtain⟨o',e1⟩:=I.base.there b o e hx
   exact⟨o',(hs.2 b (Nat.ne_of_lt (Nat.lt_of_lt_of_le (Heap.lt_size e) (I.ok.cab x c hfn hc)))).trans e1⟩
  ·by_cases hj:j=i
   ·subst hj
    rw[hi]at e1; cases e1
    rw[List.getElem?_set_self hiσ]at e2
    cases e2
    exact⟨u,r,.inr ⟨.inl hk,c,hc,hc'⟩⟩
   ·rw[List.getElem?_set_ne (Ne.symm hj)]at e2
    obtain⟨u',r',q⟩:=hl j y v' e1 e2 e3
    refine⟨u',r',?_⟩
    rcases q with q | ⟨k,c',e,z'⟩
    ·exact .inl q
    ·refine .inr ⟨k,c',e,z'.sameBut hs ?_⟩
     rintro rfl
     exact hj (A6 hN e1 (I.ok.inj _ _ _ e hc ▸ hi))
  ·by_cases hcc:c'=c
   ·subst hcc; exact⟨_,hc'⟩
   ·obtain⟨w2,z2⟩:=I.cell y c' e
    exact⟨w2,z2.sameBut hs hcc⟩
  ·obtain⟨e,n,ne,nf,d⟩:=I.pin p hp
   refine⟨(hs.2 p.1 ?_).trans e,n,ne,nf,d⟩
   intro q
   rw[q,hoc]at e
   have q':oc=p.2:=Option.some.inj e
   exact d w' (by rw[<- q']; exact hocd)
theorem zA{M:Model}{A:Around}{E:Value->Shared->Prop}{i:Nat}{x:Str}{v:V}{u:Value}{Q:Unit->Shared->Prop}(I:ae X pins σ H s)(hN:X.N.Nodup)(hi:X.N[i]? = some x)(hx:iA X.env.scope x)(r:aR v u)
 (h : ∀ s',ae X pins (σ.set i (some v)) H s'->Q () s') (hf:X.fn x=true\/X.env.scope.names.lookup x=some .local:=by first | exact .inl rfl | exact .inr rfl | assumption):wpAny M A (storeName X.env x u) Q E s :=
 zz I hN hi hx r (λs' I' _=>h s' I') hf
theorem ae.call'{s':Shared}{ch:List Addr}(I:ae X pins σ H s)(ho:s'.os=s.os)(u:Un (cW X.stack) ch H H' s.heap s'.heap)(hok:bw X.prog X.w H' s'.heap)(hg:AllBare s'.gens)
 (hch : ∀ b∈ch,(b∈X.ex\/X.s₀.heap.objs.size<=b)/\b≠X.env.locals/\(∀ x c,X.env.cells.lookup x=some c->c≠b)/\∀ p∈X.pn++pins,p.1≠b):ae X pins σ H' s':=by
 obtain⟨h',g',d',t',o'⟩:=s'
 have e:o'=s.os:=ho
 subst e
 exact I.call (g':=g') (t':=t') (d':=d') u hok hg hch
end
abbrev XK:=Value->Option Addr->Hp->Prop
abbrev St:=List (Option V)
abbrev VK:=V->Hp->Prop
abbrev TE:=St->Hp->VK->Prop
abbrev TT:=St->Hp->(Bool->Hp->Prop)->Prop
abbrev TA:=St->Hp->(List V->Hp->Prop)->Prop
structure gf where
 nx:St->Hp->Prop
 rt:VK
 bk:St->Hp->Prop:=λ_ _=>False
 ct:St->Hp->Prop:=λ_ _=>False
abbrev TS:=gf->St->Hp->Prop
def EP(X:Cx)(pins:List (Addr × Obj))(σ:St)(Q:VK)(u:Value)(s':Shared):Prop:=∃ v H',ae X pins σ H' s'/\aR v u/\Q v H'
def TP(X:Cx)(pins:List (Addr × Obj))(σ:St)(Q:Bool->Hp->Prop)(b:Bool)(s':Shared):Prop:=∃ H',ae X pins σ H' s'/\Q b H'
def AP(X:Cx)(pins:List (Addr × Obj))(σ:St)(Q:List V->Hp->Prop)(us:List Value)(s':Shared):Prop:=∃ vs H',ae X pins σ H' s'/\aI vs us/\Q vs H'
def SP(X:Cx)(pins:List (Addr × Obj))(D:gf)(f:Flow)(s':Shared):Prop :=
 match f with
 | .next=>∃ σ' H',ae X pins σ' H' s'/\D.nx σ' H'
 | .brk=>∃ σ' H',ae X pins σ' H' s'/\D.bk σ' H'
 | .cont=>∃ σ' H',ae X pins σ' H' s'/\D.ct σ' H'
 | .ret u=>∃ v σ' H',ae X pins σ' H' s'/\aR v u/\D.rt v H'
def PE(X:Cx)(e:Expr)(t:TE):Prop :=
 ∀ (pins:List (Addr × Obj)) (s:Shared) (σ:St) (H:Hp) (Q:VK),ae X pins σ H s->t σ H Q->wpAny (model X.prog X.w) X.A (eval e X.env) (EP X pins σ Q) X.xe s
def PT(X:Cx)(e:Expr)(t:TT):Prop :=
 ∀ (pins:List (Addr × Obj)) (s:Shared) (σ:St) (H:Hp) (Q:Bool->Hp->Prop),ae X pins σ H s->t σ H Q->wpAny (model X.prog X.w) X.A (isTrue e X.env (eval e X.env)) (TP X pins σ Q) X.xe s
def PW(X:Cx)(e:Expr)(t:TT):Prop :=
 ∀ (whole:Sem Value) (pins:List (Addr × Obj)) (s:Shared) (σ:St) (H:Hp) (Q:Bool->Hp->Prop),ae X pins σ H s->t σ H Q->wpAny (model X.prog X.w) X.A (isTrue e X.env whole) (TP X pins σ Q) X.xe s
theorem PW.pt{X:Cx}{e:Expr}{t:TT}(h:PW X e t):PT X e t:=h _
def PA(X:Cx)(es:List Expr)(t:TA):Prop :=
 ∀ (pos:Pos) (pins:List (Addr × Obj)) (s:Shared) (σ:St) (H:Hp) (Q:List V->Hp->Prop),ae X pins σ H s->t σ H Q->wpAny (model X.prog X.w) X.A (spliced (backTo pos (starEach es X.env))) (AP X pins σ Q) X.xe s
def PS(X:Cx)(st:Stmt)(t:TS):Prop :=
 ∀ (pins:List (Addr × Obj)) (s:Shared) (σ:St) (H:Hp) (D:gf),ae X pins σ H s->t D σ H->wpAny (model X.prog X.w) X.A (exec st X.env) (SP X pins D) X.xe s
def eZ(X:Cx)(st:List Stmt)(t:TS):Prop :=
 ∀ (pins:List (Addr × Obj)) (s:Shared) (σ:St) (H:Hp) (D:gf),ae X pins σ H s->t D σ H->wpAny (model X.prog X.w) X.A (execs st X.env) (SP X pins D) X.xe s
theorem ax{α:Type}{t:Sem α}{Q Q':α->Shared->Prop}{M:Model}{A:Around}{E:Value->Shared->Prop}{s:Shared}(h:wpAny M A t Q E s)(hQ : ∀ a s,Q a s->Q' a s):wpAny M A t Q' E s:=wpAny_mono h hQ λ_ _ x=>x
section
variable {X:Cx}
def za(i:Nat):TE:=λσ H Q=>∃ v,σ[i]? = some (some v)/\Q v H
def tC(v:V):TE:=λ_ H Q=>Q v H
theorem AO {i:Nat} {x:Str} {pos:Pos} (hN:X.N[i]? = some x) (hv:m7 X.env.scope x) (hd:(x == ("__debug__" : Str))=false:=by decide) (hcd:(x == ("__classdict__" : Str))=false:=by decide):PE X (.Name x pos) (za i):=by
 intro pins s σ H Q I h
 obtain⟨v,e,h⟩:=h
 obtain⟨m,hn,hl⟩:=I.loc
 obtain⟨u,r,l⟩:=hl i x v hN e hv
 have fin:EP X pins σ Q u s:=⟨v,H,I,r,h⟩
 rcases l with ⟨hk,hm⟩ | ⟨hk,c,hc,hcell⟩
 ·exact wpAny_Name (wpAny_loadName_local I.ok.kind hk hn hm fin) hd
 ·rcases hk with hk | hk
  ·exact wpAny_Name (wpAny_loadName_cell I.ok.kind hk hc hcell fin) hd
  ·exact wpAny_Name (wpAny_loadName_free I.ok.kind hk hc hcell fin hcd) hd
theorem nX{i j pos}:PE X (.Constant (.int i) j pos) (tC (.int i)):=λ_ _ _ H _ I h=>wpAny_Constant_int ⟨.int i,H,I.tok _,⟨_,rfl⟩,h⟩
theorem AU{b j pos}:PE X (.Constant (.bool b) j pos) (tC (.bl b)):=λ_ _ _ H _ I h=>Constant_bool ⟨.bl b,H,I,rfl,h⟩
theorem AR{j pos}:PE X (.Constant .none j pos) (tC .non):=λ_ _ _ H _ I h=>Constant_none ⟨.non,H,I,rfl,h⟩
theorem AQ{x j pos}:PE X (.Constant (.str x) j pos) (tC (.str x)):=λ_ _ _ H _ I h=>Calls.Constant_str ⟨.str x,H,I.tok _,⟨_,rfl⟩,h⟩
def Gl(X:Cx)(x:Str):Prop:=X.env.kindOf x=some .globalImplicit
theorem mm{E:Value->Shared->Prop}{pins:List (Addr × Obj)}{s:Shared}{σ:St}{H:Hp}{x:Str}{u:Value}{pos:Pos}{Q:Value->Shared->Prop}(I:ae X pins σ H s)(hg:Gl X x)(hm:X.mg x=some u)(h:Q u s)
 (hd:(x == ("__debug__" : Str))=false:=by decide):wpAny (model X.prog X.w) X.A (eval (.Name x pos) X.env) Q E s :=
 Calls.Name_function_global I.ok.kind hg (Calls.loadGlobal_global (by rw[I.ok.glob]; exact I.mod.glob.keeps I.bk) hm h) hd
theorem gv{E:Value->Shared->Prop}{pins:List (Addr × Obj)}{s:Shared}{σ:St}{H:Hp}{x:Str}{u:Value}{pos:Pos}{Q:Value->Shared->Prop}(I:ae X pins σ H s)(hg:Gl X x)(hm:X.mg x=none)(hv:bootBuiltins x=some u)(h:Q u s)
 (hn:x ≠ "__name__":=by decide) (hd:(x == ("__debug__" : Str))=false:=by decide):wpAny (model X.prog X.w) X.A (eval (.Name x pos) X.env) Q E s:=by
 obtain⟨mb,h1,h2⟩:=I.mod.blt
 exact Calls.Name_function_global I.ok.kind hg (Calls.loadGlobal_builtin (by rw[I.ok.glob]; exact I.mod.glob.keeps I.bk) hm (by rw[I.ok.blt]; exact h1.keeps I.bk) ((h2 x hn).trans hv) h) hd
theorem AT {x:Str} {v:V} {u:Value} {pos:Pos} (hg:Gl X x) (hm:X.mg x=some u) (r:aR v u) (hd:(x == ("__debug__" : Str))=false:=by decide):PE X (.Name x pos) (tC v) :=
 λ_ _ _ H _ I h=>mm I hg hm ⟨v,H,I,r,h⟩ hd
theorem Jr {x:Str} {v:V} {u:Value} {pos:Pos} (hg:Gl X x) (hm:X.mg x=none) (hv:bootBuiltins x=some u) (r:aR v u) (hn:x ≠ "__name__":=by decide) (hd:(x == ("__debug__" : Str))=false:=by decide):PE X (.Name x pos) (tC v) :=
 λ_ _ _ H _ I h=>gv I hg hm hv ⟨v,H,I,r,h⟩ hn hd
variable {a b:Expr}{ta tb:TE}{pos:Pos}
variable {tA tB':TT}{bN:List Expr}
def zw(t u:TT):TT:=λσ H Q=>t σ H λc H1=>if c=true then u σ H1 Q else Q false H1
def zg(t u:TT):TT:=λσ H Q=>t σ H λc H1=>if c=true then Q true H1 else u σ H1 Q
def zh(t:TT):TT:=λσ H Q=>t σ H λc H1=>Q (!c) H1
theorem Ic(ha:PT X a tA):PW X (.BoolOp .And [a] pos) tA:=by
 intro wh pins s σ H Q I h
 refine isTrue_and (ax (ha pins s σ H Q I h) λc s1 e=>?_)
 cases c with
 | true=>exact isTrue_and_nil e
 | false=>exact e
theorem Ia(ha:PT X a tA):PW X (.BoolOp .Or [a] pos) tA:=by
 intro wh pins s σ H Q I h
 refine isTrue_or (ax (ha pins s σ H Q I h) λc s1 e=>?_)
 cases c with
 | false=>exact isTrue_or_nil e
 | true=>exact e
theorem Id(ha:PT X a tA)(hb:PW X (.BoolOp .And (b :: bN) pos) tB'):PW X (.BoolOp .And (a :: b :: bN) pos) (zw tA tB'):=by
 intro wh pins s σ H Q I h
 refine isTrue_and (ax (ha pins s σ H _ I h) λc s1 ⟨H1,I1,q1⟩=>?_)
 cases c with
 | true=>exact hb wh pins s1 σ H1 Q I1 q1
 | false=>exact⟨H1,I1,q1⟩
theorem Ib(ha:PT X a tA)(hb:PW X (.BoolOp .Or (b :: bN) pos) tB'):PW X (.BoolOp .Or (a :: b :: bN) pos) (zg tA tB'):=by
 intro wh pins s σ H Q I h
 refine isTrue_or (ax (ha pins s σ H _ I h) λc s1 ⟨H1,I1,q1⟩=>?_)
 cases c with
 | true=>exact⟨H1,I1,q1⟩
 | false=>exact hb wh pins s1 σ H1 Q I1 q1
theorem Ii(ha:PT X a tA):PT X (.UnaryOp .Not a pos) (zh tA):=by
 intro pins s σ H Q I h
 exact isTrue_not (ha pins s σ H (λc H1=>Q (!c) H1) I h)
theorem I0{op}{t:TE}(h:PE X a t):PE X (.BoolOp op [a] pos) t:=λpins s σ H Q I hw=>BoolOp_one (h pins s σ H Q I hw)
def zn(t:TT)(ta tb:TE):TE:=λσ H Q=>t σ H λc H1=>if c=true then ta σ H1 Q else tb σ H1 Q
theorem Jd{c:Expr}(hc:PT X c tA)(ha:PE X a ta)(hb:PE X b tb):PE X (.IfExp c a b pos) (zn tA ta tb):=by
 intro pins s σ H Q I h
 refine wpAny_IfExp (ax (hc pins s σ H _ I h) λd s1 ⟨H1,I1,q1⟩=>?_)
 cases d with
 | true=>exact ha pins s1 σ H1 Q I1 q1
 | false=>exact hb pins s1 σ H1 Q I1 q1
end
def aE(K:W.Frag)(H:Hp)(a:Addr)(xs:List V):Prop :=
 Rd H a (.lst xs) \/
  ∃ (o:Obj) (its:Array Value) (n:Nat),K.lookup a=some o/\o.cls=.type "list"/\o.dict=none/\o.data=.seq its n/\its.size<=sizeLine/\aI xs its.toList
def bd(K:W.Frag)(H:Hp)(a:Addr)(xs:List V):Prop :=
 Rd H a (.tup xs) \/
  ∃ (o:Obj) (its:Array Value) (n:Nat),K.lookup a=some o/\o.cls=.type "tuple"/\o.data=.seq its n/\its.size<=sizeLine/\aI xs its.toList
def Rf:Value->Option V
 | .none=>some .non
 | .bool b=>some (.bl b)
 | .int i _=>some (.int i)
 | .str x _=>some (.str x)
 | .bytes b _=>some (.byt b)
 | .float b _=>some (.flt b)
 | .ref a=>some (.ref a)
 | .type n=>some (.ty n)
 | _=>none
theorem aR.abs{x:V}{u:Value}(r:aR x u):Rf u=some x:=by
 cases x with
 | non=>cases r; rfl
 | bl _=>cases r; rfl
 | int _=>obtain⟨t,rfl⟩:=r; rfl
 | str _=>obtain⟨t,rfl⟩:=r; rfl
 | byt _=>obtain⟨t,rfl⟩:=r; rfl
 | flt _=>obtain⟨t,rfl⟩:=r; rfl
 | ref _=>cases r; rfl
 | ty _=>cases r; rfl
theorem aR.inj{x y:V}{u:Value}(r:aR x u)(q:aR y u):x=y:=Option.some.inj (r.abs.symm.trans q.abs)
theorem aI.inj : ∀ {xs ys:List V} {us:List Value},aI xs us->aI ys us->xs=ys
 | _,_,_,.nil,.nil=>rfl
 | _,_,_,.cons r t,.cons r' t'=>by rw[r.inj r',aI.inj t t']
section
variable {X:Cx}{pins:List (Addr × Obj)}{σ:St}{H:Hp}{s:Shared}{a:Addr}{xs ys:List V}
theorem aE.of{K:W.Frag}(h:H a=some (.lst xs)):aE K H a xs:=.inl (.inl h)
theorem bd.of{K:W.Frag}(h:H a=some (.tup xs)):bd K H a xs:=.inl (.inl h)
theorem ae.list(I:ae X pins σ H s)(h:aE X.K H a xs) : ∃ its:List Value,aI xs its/\PlainL s.heap a its.toArray/\xs.length<=sizeLine:=by
 rcases h with h | ⟨o,its,n,hk,hc,hd,hs,hz,r⟩
 ·obtain⟨z,its,n,r,e⟩:=h.ok I.hok
  exact⟨its,r,⟨_,n,e,rfl,rfl,rfl⟩,z⟩
 ·refine⟨its.toList,r,⟨o,n,I.kIn a o hk,hc,hd,by simpa using hs⟩,?_⟩
  have e:=r.length
  simp only [Array.length_toList]at e
  omega
theorem ae.tuple(I:ae X pins σ H s)(h:bd X.K H a xs) : ∃ its:List Value,aI xs its/\IsTup s.heap a its.toArray/\xs.length<=sizeLine:=by
 rcases h with h | ⟨o,its,n,hk,hc,hs,hz,r⟩
 ·obtain⟨z,its,r,p⟩:=h.ok I.hok
  exact⟨its,r,p,z⟩
 ·refine⟨its.toList,r,⟨o,I.kIn a o hk,hc,n,by simpa using hs⟩,?_⟩
  have e:=r.length
  simp only [Array.length_toList]at e
  omega
theorem ae.list_inj(I:ae X pins σ H s)(h:aE X.K H a xs)(h':aE X.K H a ys):xs=ys:=by
 obtain⟨its,r,⟨o,n,e,_,_,d⟩,_⟩:=I.list h
 obtain⟨its',r',⟨o',n',e',_,_,d'⟩,_⟩:=I.list h'
 rw[e]at e'; cases e'
 rw[d]at d'
 injection d' with d1 _
 have:its=its':=by simpa using congrArg Array.toList d1
 subst this
 exact r.inj r'
theorem ae.tuple_inj(I:ae X pins σ H s)(h:bd X.K H a xs)(h':bd X.K H a ys):xs=ys:=by
 obtain⟨its,r,⟨o,e,_,n,d⟩,_⟩:=I.tuple h
 obtain⟨its',r',⟨o',e',_,n',d'⟩,_⟩:=I.tuple h'
 rw[e]at e'; cases e'
 rw[d]at d'
 injection d' with d1 _
 have:its=its':=by simpa using congrArg Array.toList d1
 subst this
 exact r.inj r'
end
abbrev Cx.wish(X:Cx)(E:Value->Shared->Prop):Cx:={ X with xe:=E }
abbrev Cx.nox(X:Cx):Cx:=X.wish λ_ _=>False
theorem Cx.Ok.wish{X:Cx}(ok:X.Ok)(E:Value->Shared->Prop):(X.wish E).Ok :=
 ⟨ok.mod,ok.kind,ok.glob,ok.blt,ok.above,ok.inj,ok.has,ok.cab,ok.hd,ok.frames,ok.stk,ok.exf,ok.bs,ok.bsz,ok.noex,ok.exfs,ok.funs,ok.frf⟩
theorem Cx.Ok.unwish{X:Cx}{E:Value->Shared->Prop}(ok:(X.wish E).Ok):X.Ok :=
 ⟨ok.mod,ok.kind,ok.glob,ok.blt,ok.above,ok.inj,ok.has,ok.cab,ok.hd,ok.frames,ok.stk,ok.exf,ok.bs,ok.bsz,ok.noex,ok.exfs,ok.funs,ok.frf⟩
section
variable {X:Cx}{pins:List (Addr × Obj)}{σ:St}{H:Hp}{s:Shared}{E:Value->Shared->Prop}
theorem ae.wish(I:ae X pins σ H s)(E:Value->Shared->Prop):ae (X.wish E) pins σ H s:=⟨I.ok.wish E,I.os,I.bare,I.base,I.loc,I.cell,I.free,I.freeC,I.pin,I.hok,I.len⟩
theorem ae.unwish(I:ae (X.wish E) pins σ H s):ae X pins σ H s:=⟨I.ok.unwish,I.os,I.bare,I.base,I.loc,I.cell,I.free,I.freeC,I.pin,I.hok,I.len⟩
theorem SP.unwish{D:gf}{f:Flow}{s':Shared}(h:SP (X.wish E) pins D f s'):SP X pins D f s':=by
 cases f with
 | next=>obtain⟨σ',H',I,q⟩:=h; exact⟨σ',H',I.unwish,q⟩
 | brk=>obtain⟨σ',H',I,q⟩:=h; exact⟨σ',H',I.unwish,q⟩
 | cont=>obtain⟨σ',H',I,q⟩:=h; exact⟨σ',H',I.unwish,q⟩
 | ret u=>obtain⟨v,σ',H',I,r,q⟩:=h; exact⟨v,σ',H',I.unwish,r,q⟩
theorem eZ.nox{st:List Stmt}{t:TS}(h:eZ X.nox st t):eZ X st t:=λpins s σ H D I hw =>
 wpAny_mono (h pins s σ H D (I.wish _) hw) (λ_ _ q=>q.unwish) λ_ _ z=>False.elim z
end
section
variable {X:Cx}{st:Stmt}{bN:List Stmt}{t u:TS}{e:Expr}{te:TE}{pos:Pos}
def nH:TS:=λD σ H=>D.nx σ H
def rM(t u:TS):TS:=λD σ H=>t { D with nx:=u D } σ H
theorem Ik:eZ X [] nH:=λ_ _ σ H _ I h=>wpAny_execs_nil ⟨σ,H,I,h⟩
theorem Il(h1:PS X st t)(h2:eZ X bN u):eZ X (st :: bN) (rM t u):=by
 intro pins s σ H D I h
 refine wpAny_execs_cons (ax (h1 pins s σ H { D with nx:=u D } I h) λf s1 q=>?_)
 cases f with
 | next =>
  obtain⟨σ',H',I',q⟩:=q
  exact h2 pins s1 σ' H' D I' q
 | ret v=>exact q
 | brk=>exact q
 | cont=>exact q
theorem Ij(h1:PS X st t):eZ X [st] t:=by
 intro pins s σ H D I h
 refine wpAny_execs_cons (ax (h1 pins s σ H D I h) λf s1 q=>?_)
 cases f with
 | next=>exact wpAny_execs_nil q
 | ret v=>exact q
 | brk=>exact q
 | cont=>exact q
def zv:TS:=λD σ H=>D.bk σ H
theorem IA:PS X (.Break pos) zv:=λ_ _ σ H _ I h=>wpAny_Break ⟨σ,H,I,h⟩
theorem ae.quiet{pins:List (Addr × Obj)}{σ:St}{H:Hp}{s:Shared}(I:ae X pins σ H s):interactive X.env=false:=by simp[interactive,I.ok.kind]
def zq(te:TE):TS:=λD σ H=>te σ H λ_ H1=>D.nx σ H1
theorem Iy(he:PE X e te)(hs:swapsWith e none pos.line X.env=pure false:=by rfl):PS X (.Expr e pos) (zq te):=by
 intro pins s σ H D I h
 exact wpAny_Expr_any (ax (he pins s σ H _ I h) λv s1 ⟨x,H1,I1,r1,q1⟩=>⟨σ,H1,I1,q1⟩) I.quiet hs
def ze(te:TE):TS:=λD σ H=>te σ H D.rt
theorem Iq(he:PE X e te):PS X (.Return (some e) pos) (ze te):=by
 intro pins s σ H D I h
 exact wpAny_Return_some (ax (he pins s σ H _ I h) λv s1 ⟨x,H1,I1,r1,q1⟩=>⟨x,σ,H1,I1,r1,q1⟩)
def zm(c:TT)(t u:TS):TS:=λD σ H=>c σ H λb H1=>if b=true then t D σ H1 else u D σ H1
theorem Iu{c:Expr}{a b:List Stmt}{tc:TT}(hc:PT X c tc)(ha:eZ X a t)(hb:eZ X b u):PS X (.If c a b pos) (zm tc t u):=by
 intro pins s σ H D I h
 refine wpAny_If (ax (hc pins s σ H _ I h) λd s1 ⟨H1,I1,q1⟩=>?_)
 cases d with
 | true=>exact ha pins s1 σ H1 D I1 q1
 | false=>exact hb pins s1 σ H1 D I1 q1
def zj:TS:=λ_ _ _=>False
theorem Ir:PS X st zj:=λ_ _ _ _ _ _ h=>h.elim
end
abbrev TG:=V->St->Hp->(St->Hp->Prop)->Prop
abbrev gC:=List V->St->Hp->(St->Hp->Prop)->Prop
def PG(X:Cx)(target:Expr)(t:TG):Prop :=
 ∀ (pins:List (Addr × Obj)) (s:Shared) (σ:St) (H:Hp) (v:V) (u:Value) (Q:St->Hp->Prop),ae X pins σ H s->aR v u->t v σ H Q ->
  wpAny (model X.prog X.w) X.A (assign target X.env u) (λ_ s'=>∃ σ' H',ae X pins σ' H' s'/\Q σ' H') X.xe s
def ni(X:Cx)(ts:List Expr)(t:gC):Prop :=
 ∀ (pins:List (Addr × Obj)) (s:Shared) (σ:St) (H:Hp) (vs:List V) (us:List Value) (Q:St->Hp->Prop),ae X pins σ H s->aI vs us->t vs σ H Q ->
  wpAny (model X.prog X.w) X.A (assignInOrder ((assignEach ts X.env).map (·.2)) us) (λ_ s'=>∃ σ' H',ae X pins σ' H' s'/\Q σ' H') X.xe s
section
variable {X:Cx}{pos:Pos}
def cO(i:Nat):TG:=λv σ H Q=>Q (σ.set i (some v)) H
theorem IW{i:Nat}{x:Str}(hN:X.N.Nodup)(hi:X.N[i]? = some x)(hx:iA X.env.scope x)(hf:X.fn x=true\/X.env.scope.names.lookup x=some .local:=by first | exact .inl rfl | exact .inr rfl | assumption):PG X (.Name x pos) (cO i):=by
 intro pins s σ H v u Q I r h
 exact wpAny_assign_Name (zA I hN hi hx r (λs' I'=>⟨_,H,I',h⟩) hf)
def tf:gC:=λvs σ H Q=>vs=[]/\Q σ H
def oZ(t:TG)(u:gC):gC:=λvs σ H Q=>∃ v r,vs=v :: r/\t v σ H λσ' H'=>u r σ' H' Q
theorem IT:ni X [] tf:=by
 intro pins s σ H vs us Q I r h
 obtain⟨e,h⟩:=h
 subst e
 cases r
 exact assignInOrder_nil ⟨σ,H,I,h⟩
theorem IU{e:Expr}{es:List Expr}{t:TG}{u:gC}(h1:PG X e t)(h2:ni X es u)
 (hs:(assignEach (e :: es) X.env).map (·.2)=assign e X.env :: (assignEach es X.env).map (·.2):=by rfl):ni X (e :: es) (oZ t u):=by
 intro pins s σ H vs us Q I r h
 obtain⟨v,vr,e1,h⟩:=h
 subst e1
 cases r with
 | cons r rr =>
  rw[hs]
  refine assignInOrder_cons (ax (h1 pins s σ H _ _ _ I r h) λ_ s1 ⟨σ1,H1,I1,q1⟩=>?_)
  exact h2 pins s1 σ1 H1 _ _ Q I1 rr q1
def oX(K:W.Frag)(n:Nat)(t:gC):TG:=λv σ H Q=>∃ a xs,v=.ref a/\bd K H a xs/\xs.length=n/\t xs σ H Q
theorem IV{es:List Expr}{k:Nat}{t:gC}{n:Nat}(hc:X.calm=true)(h:ni X es t)
 (hn:(assignEach es X.env).length=n:=by rfl) (hst:(assignEach es X.env).findIdx? (·.1)=none:=by rfl):PG X (.Tuple es k pos) (oX X.K n t):=by
 intro pins s σ H v u Q I r hw
 obtain⟨a,xs,e1,hq,hl,hw⟩:=hw
 subst e1
 cases r
 obtain⟨its,rv,ht,hz⟩:=I.tuple hq
 refine assign_Tuple_tuple (I.ok.hd hc) ht (by simp[hn,<- hl,rv.length]) hst λh' hx=>?_
 have I1:ae X pins σ H { s with heap:=h' }:=I.kept (t':=s.toks) λb o e=>hx b o (Nat.ne_of_lt (Heap.lt_size e)) e
 exact h pins _ σ H xs _ Q I1 (by simpa using rv) hw
def jh(te:TE)(g:TG):TS:=λD σ H=>te σ H λx H1=>g x σ H1 D.nx
theorem IB{tg e:Expr}{te:TE}{g:TG}(he:PE X e te)(hg:PG X tg g)(hs:swapsWithSole [tg] e pos.line X.env=pure false:=by rfl)(hw:swappedStores [tg] e X.env=pure none:=by rfl)
 (h1:(assignEach [tg] X.env).map (·.2)=[assign tg X.env]:=by rfl):PS X (.Assign [tg] e pos) (jh te g):=by
 intro pins s σ H D I h
 refine wpAny_Assign_stores (ax (he pins s σ H _ I h) λv s1 ⟨x,H1,I1,r1,q1⟩=>?_) hs hw
 rw[h1]
 exact ax (hg pins s1 σ H1 x v _ I1 r1 q1) λ_ s2 q=>q
theorem Ip{i:Nat}{x:Str}{e:Expr}{te:TE}{pos':Pos}(hN:X.N.Nodup)(hi:X.N[i]? = some x)(hx:iA X.env.scope x)(he:PE X e te)(hs:swapsWith e (some (.Name x pos')) pos.line X.env=pure false:=by rfl)(hf:X.fn x=true\/X.env.scope.names.lookup x=some .local:=by first | exact .inl rfl | exact .inr rfl | assumption) :
 PS X (.Assign [.Name x pos'] e pos) (jh te (cO i)):=by
 intro pins s σ H D I h
 refine wpAny_Assign_Name (ax (he pins s σ H _ I h) λv s1 ⟨y,H1,I1,r1,q1⟩=>?_) hs
 exact zA I1 hN hi hx r1 (λs2 I2=>⟨_,H1,I2,q1⟩) hf
end
section
variable {X:Cx}{pos:Pos}
def y9(c:TT)(tb:TS):TS:=λD σ H=>∃ W:Nat->St->Hp->Prop,(∃ m,W m σ H)/\∀ m σ H,W m σ H ->
 c σ H λb H1=>if b=true then ∃ N:St->Hp->Prop,(∀ σ' H',N σ' H'->∃ m',m' < m/\W m' σ' H')/\tb { D with nx:=N,ct:=N,bk:=D.nx } σ H1 else D.nx σ H1
theorem Im{c:Expr}{body:List Stmt}{tc:TT}{tb:TS}(hp:PassesOwn (model X.prog X.w) X.A X.env X.xe)(hc:PT X c tc)(hb:eZ X body tb):PS X (.While c body [] pos) (y9 tc tb):=by
 intro pins s σ H D I h
 obtain⟨W,⟨m0,w0⟩,turn⟩:=h
 refine wpAny_While (codeAny_whileLoop (λn s'=>∃ σ' H',ae X pins σ' H' s'/\W n σ' H') ?_ m0 ⟨σ,H,I,w0⟩)
 rintro n s1 ⟨σ1,H1,I1,w1⟩
 refine wpAny_passesOwn hp (ax (hc pins s1 σ1 H1 _ I1 (turn n σ1 H1 w1)) λb s2 ⟨H2,I2,q2⟩=>?_)
 cases b with
 | true =>
  obtain⟨N,hN,q2⟩:=q2
  rw[if_pos rfl]
  refine wpAny_passesOwn hp (ax (hb pins s2 σ1 H2 _ I2 q2) λf s3 q3=>?_)
  cases f with
  | next =>
   obtain⟨σ3,H3,I3,n3⟩:=q3
   obtain⟨m',hm,w3⟩:=hN σ3 H3 n3
   exact⟨m',hm,σ3,H3,I3,w3⟩
  | cont =>
   obtain⟨σ3,H3,I3,n3⟩:=q3
   obtain⟨m',hm,w3⟩:=hN σ3 H3 n3
   exact⟨m',hm,σ3,H3,I3,w3⟩
  | brk=>exact q3
  | ret v=>exact q3
 | false =>
  rw[if_neg Bool.false_ne_true]
  exact wpAny_execs_nil ⟨σ1,H2,I2,q2⟩
end
structure It where
 go:Nat->Hp->Prop
 yld:Nat->Hp->V->Hp->Prop
 stop:Nat->Hp->Prop
def fD(X:Cx)(pins:List (Addr × Obj))(H:Hp)(b:Addr):Prop :=
 H b=none/\b≠X.env.locals/\b∉X.fs/\(b∈X.ex\/X.s₀.heap.objs.size<=b)/\(∀ x c,X.env.cells.lookup x=some c->c≠b)/\∀ p∈X.pn++pins,p.1≠b
theorem ae.fpOk{X:Cx}{pins:List (Addr × Obj)}{σ:St}{H H':Hp}{s:Shared}{b:Addr}(I:ae X pins σ H s)(hb:s.heap.objs.size<=b)(hn:H' b=none):fD X pins H' b:=by
 refine⟨hn,Nat.ne_of_gt (Nat.lt_of_lt_of_le I.lt hb),I.nofs hb,.inr (Nat.le_trans I.sz hb),λx c e z=>?_,λp hp z=>?_⟩
 ·obtain⟨v,q⟩:=I.cell x c e
  exact absurd (Nat.lt_of_lt_of_le q.lt (by rw[z]; exact hb)) (Nat.lt_irrefl _)
 ·exact absurd (Nat.lt_of_lt_of_le (Heap.lt_size (I.pin p hp).1) (by rw[z]; exact hb)) (Nat.lt_irrefl _)
structure iu (P:Program) (w:World) (K:W.Frag) (tg:Expr) (J:It) (fp:List Addr) (it:Addr) (tn:Nat->Heap->Prop):Prop where
 mem:it∈fp
 obj : ∀ i h,tn i h->∀ b∈fp,∃ o,h.get? b=some o/\∀ v,o.data ≠ .cell v
 keep : ∀ i h h',tn i h->(∀ b∈fp,∀ o,h.get? b=some o->h'.get? b=some o)->tn i h'
 item : ∀ (X:Cx),X.prog=P->X.w=w->X.K=K->X.calm=true->∀ (i:Nat) (pins:List (Addr × Obj)) (s:Shared) (σ:St) (H:Hp) (E:Value->Shared->Prop),ae X pins σ H s->(∀ b∈fp,fD X pins H b)->tn i s.heap->J.go i H ->
  wpAny (model P w) X.A (pyNext (.ref it)) (λr s1=>∃ u,r=some u /\
   wpAny (model P w) X.A (letOwnedTupleGo tg (.ref it) u) (λ_ s2=>∃ x H',ae X pins σ H' s2/\aR x u/\J.yld i H x H'/\tn (i+1) s2.heap/\∀ b∈fp,H' b=none) E s1) E s
 done : ∀ (X:Cx),X.prog=P->X.w=w->X.K=K->X.calm=true->∀ (i:Nat) (pins:List (Addr × Obj)) (s:Shared) (σ:St) (H:Hp) (E:Value->Shared->Prop),ae X pins σ H s->(∀ b∈fp,fD X pins H b)->tn i s.heap->J.stop i H ->
  wpAny (model P w) X.A (pyNext (.ref it)) (λr s1=>r=none/\ae X pins σ H s1) E s
 self : ∀ (A:Around) (i:Nat) (s:Shared) (Q:Value->Shared->Prop) (E:Value->Shared->Prop),tn i s.heap->Q (.ref it) s->wpAny (model P w) A (pyIter (.ref it)) Q E s
abbrev TI:=St->Hp->(It->Hp->Prop)->Prop
def Dx(X:Cx)(pins:List (Addr × Obj))(σ:St)(tg:Expr)(R:It->Hp->Prop)(itv:Value)(s2:Shared):Prop :=
 ∃ (it:Addr) (fp:List Addr) (tn:Nat->Heap->Prop) (J:It) (H':Hp),itv=.ref it/\ae X pins σ H' s2/\iu X.prog X.w X.K tg J fp it tn/\tn 0 s2.heap/\(∀ b∈fp,fD X pins H' b)/\R J H'
def PI(X:Cx)(tg iter:Expr)(wi:TI):Prop :=
 ∀ (pins:List (Addr × Obj)) (s:Shared) (σ:St) (H:Hp) (R:It->Hp->Prop),ae X pins σ H s->wi σ H R ->
  wpAny (model X.prog X.w) X.A (eval iter X.env) (λv s1=>wpAny (model X.prog X.w) X.A (pyIter v) (Dx X pins σ tg R) X.xe s1) X.xe s
theorem oN{M:Model}{A:Around}{E:Value->Shared->Prop}{s:Shared}{tg:Expr}{it:Addr}{u:Value}{o:Obj}{n:String}{vs:Array Value}{Q:Unit->Shared->Prop}(ho:s.heap.get? it=some o)(hc:o.cls=.type n)(hd:o.data=.fields vs)
 (hn:["enumerate", "zip", "dict_itemiterator", "dict_reverseitemiterator", "odict_iterator", "itertools.zip_longest", "itertools.pairwise"].contains n=false) (hQ:Q () s):wpAny M A (letOwnedTupleGo tg (.ref it) u) Q E s:=by
 unfold letOwnedTupleGo
 cases tg <;> first
  | exact wpAny_pure hQ
  | (cases u <;> first
      | exact wpAny_pure hQ
      | (refine wpAny_bind (wpAny_load ho ?_)
         rw[hc,hd]
         show wpAny M A (if (["enumerate", "zip", "dict_itemiterator", "dict_reverseitemiterator", "odict_iterator", "itertools.zip_longest", "itertools.pairwise"].contains n && vs[0]? == some (rawInt _))=true then _ else _) Q E s
         rw[if_neg (by intro h; rw[hn,Bool.false_and]at h; cases h)]
         exact wpAny_pure hQ))
def jc(K:W.Frag)(a:Addr):It :=
 ⟨λi H=>∃ xs x,aE K H a xs/\xs[i]? = some x,λi H x H'=>H'=H/\∀ xs,aE K H a xs->xs[i]? = some x,λi H=>∃ xs,aE K H a xs/\xs.length<=i⟩
def nl(K:W.Frag)(a:Addr):It :=
 ⟨λi H=>∃ xs x,bd K H a xs/\xs[i]? = some x,λi H x H'=>H'=H/\∀ xs,bd K H a xs->xs[i]? = some x,λi H=>∃ xs,bd K H a xs/\xs.length<=i⟩
def hW(lo:Int)(n:Nat):It:=⟨λi _=>i < n,λi H x H'=>H'=H/\x=.int (lo+i),λi _=>n<=i⟩
theorem E2{P:Program}{w:World}{K:W.Frag}{tg:Expr}(a it:Addr):iu P w K tg (jc K a) [it] it (λi h=>h.IsListIter it a i) where
 mem:=by simp
 obj:=λi h st b hb=>by
  have e:b=it:=by simpa using hb
  subst e
  obtain⟨o,e,c,d⟩:=st
  exact⟨o,e,λv z=>by rw[d]at z; cases z⟩
 keep:=λi h h' st k=>st.at λo e=>k it (by simp) o e
 item:=by
  intro X hP hw hK hc i pins s σ H E I hf st hg
  subst hP hw hK
  obtain⟨xs,x,hq,hx⟩:=hg
  obtain⟨its,rv,p,hz⟩:=I.list hq
  obtain⟨u,hu,ru⟩:=rv.get hx
  obtain⟨f0,f1,f2,f3,f4,f5⟩:=hf it (by simp)
  refine wpAny_pyNext_list_item st p.isList (x:=u) (by simpa using hu) λh' st' sb=>?_
  have I1:ae X pins σ H { s with heap:=h' }:=I.turned (t':=s.toks) (λb o hb e=>(sb.2 b hb).trans e) f0 f1 f3 f4 f5
  obtain⟨o,e,c,d⟩:=id st'
  exact⟨u,rfl,oN (s:={ s with heap:=h' }) e c d (by decide) ⟨x,H,I1,ru,⟨rfl,λys hy=>by rw[I.list_inj hy hq]; exact hx⟩,st',λb hb=>(hf b hb).1⟩⟩
 done:=by
  intro X hP hw hK hc i pins s σ H E I hf st hg
  subst hP hw hK
  obtain⟨xs,hq,hx⟩:=hg
  obtain⟨its,rv,p,hz⟩:=I.list hq
  obtain⟨f0,f1,f2,f3,f4,f5⟩:=hf it (by simp)
  have hl:=rv.length
  exact wpAny_pyNext_list_end (I.ok.hd hc) st p.isList (by simp; omega) λh' eb=>⟨rfl,I.turned (t':=s.toks) (λb o hb e=>eb b o hb e) f0 f1 f3 f4 f5⟩
 self:=λ_ _ _ _ _ st h=>wpAny_pyIter_listiter st h
theorem EY{P:Program}{w:World}{K:W.Frag}{tg:Expr}(a it:Addr):iu P w K tg (nl K a) [it] it (λi h=>h.IsTupleIter it a i) where
 mem:=by simp
 obj:=λi h st b hb=>by
  have e:b=it:=by simpa using hb
  subst e
  obtain⟨o,e,c,d⟩:=st
  exact⟨o,e,λv z=>by rw[d]at z; cases z⟩
 keep:=λi h h' st k=>st.at λo e=>k it (by simp) o e
 item:=by
  intro X hP hw hK hc i pins s σ H E I hf st hg
  subst hP hw hK
  obtain⟨xs,x,hq,hx⟩:=hg
  obtain⟨its,rv,p,hz⟩:=I.tuple hq
  obtain⟨u,hu,ru⟩:=rv.get hx
  obtain⟨f0,f1,f2,f3,f4,f5⟩:=hf it (by simp)
  refine wpAny_pyNext_tuple_item st (show s.heap.IsTuple a its.toArray from p) (x:=u) (by simpa using hu) λh' st' sb=>?_
  have I1:ae X pins σ H { s with heap:=h' }:=I.turned (t':=s.toks) (λb o hb e=>(sb.2 b hb).trans e) f0 f1 f3 f4 f5
  obtain⟨o,e,c,d⟩:=id st'
  exact⟨u,rfl,oN (s:={ s with heap:=h' }) e c d (by decide) ⟨x,H,I1,ru,⟨rfl,λys hy=>by rw[I.tuple_inj hy hq]; exact hx⟩,st',λb hb=>(hf b hb).1⟩⟩
 done:=by
  intro X hP hw hK hc i pins s σ H E I hf st hg
  subst hP hw hK
  obtain⟨xs,hq,hx⟩:=hg
  obtain⟨its,rv,p,hz⟩:=I.tuple hq
  obtain⟨f0,f1,f2,f3,f4,f5⟩:=hf it (by simp)
  have hl:=rv.length
  exact wpAny_pyNext_tuple_end (I.ok.hd hc) st (show s.heap.IsTuple a its.toArray from p) (by simp; omega) λh' eb=>⟨rfl,I.turned (t':=s.toks) (λb o hb e=>eb b o hb e) f0 f1 f3 f4 f5⟩
 self:=λ_ _ _ _ _ st h=>wpAny_pyIter_tupleiter st h
theorem E1{P:Program}{w:World}{K:W.Frag}{tg:Expr}(it:Addr)(lo:Int)(n:Nat):iu P w K tg (hW lo n) [it] it (λi h=>IsRangeIter h it (lo+(i:Nat)*1) ((n:Int) - (i:Nat)) 1) where
 mem:=by simp
 obj:=λi h st b hb=>by
  have e:b=it:=by simpa using hb
  subst e
  exact⟨_,st,λv z=>by
   have z':Data.fields _=Data.cell v:=z
   cases z'⟩
 keep:=λi h h' st k=>k it (by simp) _ st
 item:=by
  intro X hP hw hK hc i pins s σ H E I hf st hg
  subst hP hw hK
  obtain⟨f0,f1,f2,f3,f4,f5⟩:=hf it (by simp)
  have W:=Walks.range (prog:=X.prog) (w:=X.w) (I.ok.hd hc) it lo 1 n
  refine W.item i s _ _ hg st λv h' tk hv st' kk=>?_
  obtain⟨t,rfl⟩:=hv
  have I1:ae X pins σ H { s with heap:=h',toks:=tk }:=I.turned (λb o hb e=>kk b o (by simpa using hb) e) f0 f1 f3 f4 f5
  refine⟨_,rfl,oN (s:={ s with heap:=h',toks:=tk }) (n := "range_iterator") st' rfl rfl (by decide) ⟨.int (lo+i),H,I1,⟨t,?_⟩,⟨rfl,rfl⟩,st',λb hb=>(hf b hb).1⟩⟩
  rw[Int.mul_one]
 done:=by
  intro X hP hw hK hc i pins s σ H E I hf st hg
  subst hP hw hK
  obtain⟨f0,f1,f2,f3,f4,f5⟩:=hf it (by simp)
  exact wpAny_pyNext_range_end (I.ok.hd hc) st (by have:n<=i:=hg; omega) λh' eb=>⟨rfl,I.turned (t':=s.toks) (λb o hb e=>eb b o hb e) f0 f1 f3 f4 f5⟩
 self:=λ_ _ _ _ _ st h=>wpAny_pyIter_rangeiter st h
section
variable {X:Cx}{tg:Expr}
def sN(K:W.Frag)(tl:TE):TI:=λσ H R=>tl σ H λx H1=>∃ a,x=.ref a/\(∃ xs,aE K H1 a xs)/\R (jc K a) H1
def sM(K:W.Frag)(tl:TE):TI:=λσ H R=>tl σ H λx H1=>∃ a,x=.ref a/\(∃ xs,bd K H1 a xs)/\R (nl K a) H1
theorem IR{l:Expr}{tl:TE}(hl:PE X l tl):PI X tg l (sN X.K tl):=by
 intro pins s σ H R I h
 refine ax (hl pins s σ H _ I h) λv s1 ⟨x,H1,I1,r1,q1⟩=>?_
 obtain⟨a,e,⟨xs,hq⟩,q⟩:=q1
 subst e
 cases r1
 obtain⟨its,rv,p,hz⟩:=I1.list hq
 refine wpAny_pyIter_list p.isList ?_
 refine⟨s1.heap.objs.size,[s1.heap.objs.size],_,_,H1,rfl,I1.kept (t':=s1.toks) λb o e=>Heap.get?_push_of_some _ e,E2 a _,⟨_,Heap.get?_push_size _ rfl,rfl,rfl⟩,λb hb=>?_,q⟩
 have e:b=s1.heap.objs.size:=by simpa using hb
 subst e
 exact I1.fpOk (Nat.le_refl _) (I1.hok.fresh (Nat.le_refl _))
theorem IN{l:Expr}{tl:TE}(hl:PE X l tl):PI X tg l (sM X.K tl):=by
 intro pins s σ H R I h
 refine ax (hl pins s σ H _ I h) λv s1 ⟨x,H1,I1,r1,q1⟩=>?_
 obtain⟨a,e,⟨xs,hq⟩,q⟩:=q1
 subst e
 cases r1
 obtain⟨its,rv,p,hz⟩:=I1.tuple hq
 refine wpAny_pyIter_tuple (show s1.heap.IsTuple a its.toArray from p) ?_
 refine⟨s1.heap.objs.size,[s1.heap.objs.size],_,_,H1,rfl,I1.kept (t':=s1.toks) λb o e=>Heap.get?_push_of_some _ e,EY a _,⟨_,Heap.get?_push_size _ rfl,rfl,rfl⟩,λb hb=>?_,q⟩
 have e:b=s1.heap.objs.size:=by simpa using hb
 subst e
 exact I1.fpOk (Nat.le_refl _) (I1.hok.fresh (Nat.le_refl _))
theorem Az{pins:List (Addr × Obj)}{σ:St}{H:Hp}{s:Shared}{R:It->Hp->Prop}{E:Value->Shared->Prop}{lo hi:Int}{t u v:Tok}{tk:Nat}(I:ae X pins σ H s)(h1 : -(2 ^ 62)<=lo)(h2:lo < 2 ^ 62)(h3 : -(2 ^ 62)<=hi)(h4:hi < 2 ^ 62)
 (q:R (hW lo (hi - lo).toNat) H):wpAny (model X.prog X.w) X.A (pyIter (.ref s.heap.objs.size)) (Dx X pins σ tg R) E { s with heap:=s.heap.push { cls:=.type "range",data:=.fields #[.int lo t,.int hi u,.int 1 v] },toks:=tk }:=by
 refine wpAny_pyIter_range (IsRange.new ..) (small_one h1 h2 h3 h4) ?_
 have I1:ae X pins σ H { s with heap:=s.heap.push { cls:=.type "range",data:=.fields #[.int lo t,.int hi u,.int 1 v] },toks:=tk }:=I.kept λb o e=>Heap.get?_push_of_some _ e
 refine⟨(s.heap.push { cls:=.type "range",data:=.fields #[.int lo t,.int hi u,.int 1 v] }).objs.size,[(s.heap.push { cls:=.type "range",data:=.fields #[.int lo t,.int hi u,.int 1 v] }).objs.size],_,_,H,rfl,
  I1.kept (t':=tk) λb o e=>Heap.get?_push_of_some _ e,E1 _ lo (hi - lo).toNat,?_,λb hb=>?_,q⟩
 ·have e1:lo+((0:Nat):Int)*1=lo:=by simp
  have e2:(((hi - lo).toNat:Nat):Int) - ((0:Nat):Int)=Builtin.Range.rangeSize lo hi 1:=by rw[rangeSize_one]; split <;> omega
  show IsRangeIter _ _ (lo+((0:Nat):Int)*1) ((((hi - lo).toNat:Nat):Int) - ((0:Nat):Int)) 1
  rw[e1,e2]
  exact Heap.get?_push_size _ rfl
 ·have e:b=(s.heap.push { cls:=.type "range",data:=.fields #[.int lo t,.int hi u,.int 1 v] }).objs.size:=by simpa using hb
  subst e
  exact I1.fpOk (Nat.le_refl _) (I1.hok.fresh (Nat.le_refl _))
def BD(ta:TA):TI:=λσ H R=>ta σ H λvs H1=>∃ j:Int,vs=[.int j]/\-(2 ^ 62)<=j/\j < 2 ^ 62/\R (hW 0 j.toNat) H1
def BC(ta:TA):TI:=λσ H R=>ta σ H λvs H1=>∃ i j:Int,vs=[.int i,.int j]/\(-(2 ^ 62)<=i/\i < 2 ^ 62/\-(2 ^ 62)<=j/\j < 2 ^ 62)/\R (hW i (j - i).toNat) H1
theorem IQ {a:Expr} {ta:TA} {p pos:Pos} (hg:Gl X "range") (hm:X.mg "range" = none) (ha:PA X [a] ta) (hs:starEach [a] X.env=[(false,eval a X.env)]:=by rfl):PI X tg (.Call (.Name "range" p) [a] [] pos) (BD ta):=by
 intro pins s σ H R I h
 refine Call_ (gv I hg hm boot_range (PyProof.Rows.callWith_type1 (ax (ha pos pins s σ H _ I h) λus s1 ⟨vs,H1,I1,r1,q1⟩=>?_) hs rfl))
 obtain⟨j,e,q1,q2,q⟩:=q1
 subst e
 cases r1 with
 | cons r rr =>
  cases rr
  obtain⟨t,rfl⟩:=r
  exact call_range_1 (Az I1 (by omega) (by omega) q1 q2 (by simpa using q))
theorem IP {a b:Expr} {ta:TA} {p pos:Pos} (hg:Gl X "range") (hm:X.mg "range" = none) (ha:PA X [a,b] ta) (hs:starEach [a,b] X.env=[(false,eval a X.env),(false,eval b X.env)]:=by rfl) (hs2:starEach [b] X.env=[(false,eval b X.env)]:=by rfl) :
 PI X tg (.Call (.Name "range" p) [a,b] [] pos) (BC ta):=by
 intro pins s σ H R I h
 refine Call_ (gv I hg hm boot_range (PyProof.Rows.callWith_type1 (ax (ha pos pins s σ H _ I h) λus s1 ⟨vs,H1,I1,r1,q1⟩=>?_) (by rw[hs,hs2]) (by rw[hs2]; rfl)))
 obtain⟨i,j,e,⟨q1,q2,q3,q4⟩,q⟩:=q1
 subst e
 cases r1 with
 | cons r rr =>
  cases rr with
  | cons r' rr =>
   cases rr
   obtain⟨t,rfl⟩:=r
   obtain⟨t',rfl⟩:=r'
   exact call_range_2 (Az I1 q1 q2 q3 q4 q)
def zo(wi:TI)(g:TG)(tb:TS):TS:=λD σ H=>wi σ H λJ H1=>∃ W:Nat->Nat->St->Hp->Prop,(∃ m,W 0 m σ H1)/\∀ i m σ H,W i m σ H ->
 (J.stop i H/\D.nx σ H)\/(J.go i H/\∃ N:St->Hp->Prop,(∀ σ' H',N σ' H'->∃ m',m' < m/\W (i+1) m' σ' H')/\∀ x H',J.yld i H x H'->g x σ H' λσ2 H2=>tb { D with nx:=N,ct:=N,bk:=D.nx } σ2 H2)
def lZ(fp:List Addr)(h:Heap):List (Addr × Obj):=fp.filterMap λb=>(h.get? b).map λo=>(b,o)
theorem ol{fp:List Addr}{h:Heap}{b:Addr}{o:Obj}(hb:b∈fp)(e:h.get? b=some o):(b,o)∈lZ fp h:=List.mem_filterMap.mpr ⟨b,hb,by rw[e]; rfl⟩
theorem JY{fp:List Addr}{h:Heap}{p:Addr × Obj}(hp:p∈lZ fp h):p.1∈fp/\h.get? p.1=some p.2:=by
 obtain⟨b,hb,e⟩:=List.mem_filterMap.mp hp
 cases q:h.get? b with
 | none=>rw[q]at e; cases e
 | some o =>
  rw[q]at e
  have e':(b,o)=p:=Option.some.inj e
  subst e'
  exact⟨hb,q⟩
theorem ae.pinned{pins:List (Addr × Obj)}{σ:St}{H:Hp}{s:Shared}{fp:List Addr}(I:ae X pins σ H s)(hf : ∀ b∈fp,fD X pins H b)(ho : ∀ b∈fp,∃ o,s.heap.get? b=some o/\∀ v,o.data ≠ .cell v):ae X (pins++lZ fp s.heap) σ H s :=
 I.pins_of λp hp=>(List.mem_append.mp hp).elim (λz=>I.pin p (List.mem_append_right _ z)) λz=>by
  obtain⟨hb,e⟩:=JY z
  obtain⟨f0,f1,f2,_⟩:=hf p.1 hb
  obtain⟨o,e',d⟩:=ho p.1 hb
  rw[e]at e'; cases e'
  exact⟨e,f0,f1,f2,d⟩
theorem ae.unpinned{pins pl:List (Addr × Obj)}{σ:St}{H:Hp}{s:Shared}(I:ae X (pins++pl) σ H s):ae X pins σ H s:=I.pins_of λp hp=>I.pin p (List.mem_append_right _ (List.mem_append_left _ hp))
theorem Iv{iter:Expr}{body:List Stmt}{wi:TI}{g:TG}{tb:TS}{pos:Pos}(hp:PassesOwn (model X.prog X.w) X.A X.env X.xe)(hc:X.calm=true)(hi:PI X tg iter wi)(hg:PG X tg g)(hb:eZ X body tb)
 (hs : ∀ x,foldedSetIterable iter X.env x=pure x:=by intro _; rfl):PS X (.For tg iter body [] pos) (zo wi g tb):=by
 intro pins s σ H D I h
 refine wpAny_For (ax (hi pins s σ H _ I h) λv s1 h1=>ax h1 λitv s2 h2=>?_) hs
 obtain⟨it,fp,tn,J,H2,e,I2,T,st2,f2,W,⟨m0,w0⟩,turn⟩:=h2
 subst e
 have stat : ∀ {H':Hp},(∀ b∈fp,H' b=none)->∀ b∈fp,fD X pins H' b:=λhn b hb=>⟨hn b hb,(f2 b hb).2⟩
 refine codeAny_forLoop_any (λn s'=>∃ i σ' H',ae X pins σ' H' s'/\tn i s'.heap/\(∀ b∈fp,H' b=none)/\W i n σ' H') ?_ m0 ⟨0,σ,H2,I2,st2,λb hb=>(f2 b hb).1,w0⟩
 rintro n s3 ⟨i,σ3,H3,I3,st3,fr3,w3⟩
 rcases turn i n σ3 H3 w3 with ⟨stop,qn⟩ | ⟨go,N,hN,step⟩
 ·refine wpAny_passesOwn hp (ax (T.done X rfl rfl rfl hc i pins s3 σ3 H3 X.xe I3 (stat fr3) st3 stop) λr s4 ⟨hr,I4⟩=>?_)
  subst hr
  exact wpAny_execs_nil ⟨σ3,H3,I4,qn⟩
 ·refine wpAny_passesOwn hp (ax (T.item X rfl rfl rfl hc i pins s3 σ3 H3 X.xe I3 (stat fr3) st3 go) λr s4 ⟨u,hr,h4⟩=>?_)
  subst hr
  refine wpAny_passesOwn hp (ax h4 λ_ s5 ⟨x,H5,I5,r5,y5,st5,fr5⟩=>?_)
  have I5':=I5.pinned (stat fr5) (T.obj _ _ st5)
  refine wpAny_passesOwn hp (ax (hg _ s5 σ3 H5 x u _ I5' r5 (step x H5 y5)) λ_ s6 ⟨σ6,H6,I6,q6⟩=>?_)
  refine wpAny_passesOwn hp (ax (hb _ s6 σ6 H6 _ I6 q6) λf s7 q7=>?_)
  have again : ∀ {σ7:St} {H7:Hp},ae X (pins++lZ fp s5.heap) σ7 H7 s7->N σ7 H7->∃ m,m < n/\∃ i σ' H',ae X pins σ' H' s7/\tn i s7.heap/\(∀ b∈fp,H' b=none)/\W i m σ' H':=λ{σ7 H7} I7 n7=>by
   obtain⟨m',hm,w7⟩:=hN σ7 H7 n7
   refine⟨m',hm,i+1,σ7,H7,I7.unpinned,T.keep _ _ _ st5 λb hb o e=>(I7.pin (b,o) (List.mem_append_right _ (List.mem_append_right _ (ol hb e)))).1,λb hb=>?_,w7⟩
   obtain⟨o,e,d⟩:=T.obj _ _ st5 b hb
   exact (I7.pin (b,o) (List.mem_append_right _ (List.mem_append_right _ (ol hb e)))).2.1
  cases f with
  | next=>obtain⟨σ7,H7,I7,n7⟩:=q7; exact again I7 n7
  | cont=>obtain⟨σ7,H7,I7,n7⟩:=q7; exact again I7 n7
  | brk=>obtain⟨σ7,H7,I7,q7⟩:=q7; exact⟨σ7,H7,I7.unpinned,q7⟩
  | ret v=>obtain⟨x7,σ7,H7,I7,r7,q7⟩:=q7; exact⟨x7,σ7,H7,I7.unpinned,r7,q7⟩
end
theorem iY{K:W.Frag}{a:Addr}{xs:List V}{g:TG}{tb:TS}{D:gf}{σ:St}{H:Hp}(Pv:Nat->St->Hp->Prop)(h0:Pv 0 σ H)(hl : ∀ i σ H,i<=xs.length->Pv i σ H->aE K H a xs)
 (hs : ∀ i x σ H,xs[i]? = some x->Pv i σ H->g x σ H λσ2 H2=>tb { D with nx:=Pv (i+1),ct:=Pv (i+1),bk:=D.nx } σ2 H2) (hd : ∀ σ H,Pv xs.length σ H->D.nx σ H) :
 ∃ W:Nat->Nat->St->Hp->Prop,(∃ m,W 0 m σ H)/\∀ i m σ H,W i m σ H ->
  ((jc K a).stop i H/\D.nx σ H)\/((jc K a).go i H/\∃ N:St->Hp->Prop,(∀ σ' H',N σ' H'->∃ m',m' < m/\W (i+1) m' σ' H')/\∀ x H',(jc K a).yld i H x H'->g x σ H' λσ2 H2=>tb { D with nx:=N,ct:=N,bk:=D.nx } σ2 H2):=by
 refine⟨λi m σ H=>m=xs.length - i/\i<=xs.length/\Pv i σ H,⟨xs.length,by simp,Nat.zero_le _,h0⟩,?_⟩
 rintro i m σ H ⟨rfl,hi,p⟩
 have q:=hl i σ H hi p
 by_cases hlt:i < xs.length
 ·refine .inr ⟨⟨xs,xs[i],q,by simp[hlt]⟩,Pv (i+1),λσ' H' p'=>⟨xs.length - (i+1),by omega,rfl,hlt,p'⟩,λx H' y=>?_⟩
  obtain⟨e,y⟩:=y
  subst e
  exact hs i x σ _ (y xs q) p
 ·have e:i=xs.length:=by omega
  subst e
  exact .inl ⟨⟨xs,q,Nat.le_refl _⟩,hd σ H p⟩
theorem Oi{K:W.Frag}{a:Addr}{xs:List V}{g:TG}{tb:TS}{D:gf}{σ:St}{H:Hp}(Pv:Nat->St->Hp->Prop)(h0:Pv 0 σ H)(hl : ∀ i σ H,i<=xs.length->Pv i σ H->bd K H a xs)
 (hs : ∀ i x σ H,xs[i]? = some x->Pv i σ H->g x σ H λσ2 H2=>tb { D with nx:=Pv (i+1),ct:=Pv (i+1),bk:=D.nx } σ2 H2) (hd : ∀ σ H,Pv xs.length σ H->D.nx σ H) :
 ∃ W:Nat->Nat->St->Hp->Prop,(∃ m,W 0 m σ H)/\∀ i m σ H,W i m σ H ->
  ((nl K a).stop i H/\D.nx σ H)\/((nl K a).go i H/\∃ N:St->Hp->Prop,(∀ σ' H',N σ' H'->∃ m',m' < m/\W (i+1) m' σ' H')/\∀ x H',(nl K a).yld i H x H'->g x σ H' λσ2 H2=>tb { D with nx:=N,ct:=N,bk:=D.nx } σ2 H2):=by
 refine⟨λi m σ H=>m=xs.length - i/\i<=xs.length/\Pv i σ H,⟨xs.length,by simp,Nat.zero_le _,h0⟩,?_⟩
 rintro i m σ H ⟨rfl,hi,p⟩
 have q:=hl i σ H hi p
 by_cases hlt:i < xs.length
 ·refine .inr ⟨⟨xs,xs[i],q,by simp[hlt]⟩,Pv (i+1),λσ' H' p'=>⟨xs.length - (i+1),by omega,rfl,hlt,p'⟩,λx H' y=>?_⟩
  obtain⟨e,y⟩:=y
  subst e
  exact hs i x σ _ (y xs q) p
 ·have e:i=xs.length:=by omega
  subst e
  exact .inl ⟨⟨xs,q,Nat.le_refl _⟩,hd σ H p⟩
theorem o0{lo:Int}{n:Nat}{g:TG}{tb:TS}{D:gf}{σ:St}{H:Hp}(Pv:Nat->St->Hp->Prop)(h0:Pv 0 σ H)
 (hs : ∀ i σ H,i < n->Pv i σ H->g (.int (lo+i)) σ H λσ2 H2=>tb { D with nx:=Pv (i+1),ct:=Pv (i+1),bk:=D.nx } σ2 H2) (hd : ∀ σ H,Pv n σ H->D.nx σ H) :
 ∃ W:Nat->Nat->St->Hp->Prop,(∃ m,W 0 m σ H)/\∀ i m σ H,W i m σ H ->
  ((hW lo n).stop i H/\D.nx σ H)\/((hW lo n).go i H/\∃ N:St->Hp->Prop,(∀ σ' H',N σ' H'->∃ m',m' < m/\W (i+1) m' σ' H')/\∀ x H',(hW lo n).yld i H x H'->g x σ H' λσ2 H2=>tb { D with nx:=N,ct:=N,bk:=D.nx } σ2 H2):=by
 refine⟨λi m σ H=>m=n - i/\i<=n/\Pv i σ H,⟨n,by simp,Nat.zero_le _,h0⟩,?_⟩
 rintro i m σ H ⟨rfl,hi,p⟩
 by_cases hlt:i < n
 ·refine .inr ⟨hlt,Pv (i+1),λσ' H' p'=>⟨n - (i+1),by omega,rfl,hlt,p'⟩,λx H' y=>?_⟩
  obtain⟨e,y⟩:=y
  subst e y
  exact hs i σ _ hlt p
 ·have e:i=n:=by omega
  subst e
  exact .inl ⟨Nat.le_refl _,hd σ H p⟩
abbrev R2:=V->V->Hp->VK->Prop
def aW(X:Cx)(f:Value->Value->Sem Value)(r:R2):Prop :=
 ∀ (pins:List (Addr × Obj)) (s:Shared) (σ:St) (H:Hp) (x y:V) (v u:Value) (Q:VK),ae X pins σ H s->aR x v->aR y u->r x y H Q ->
  wpAny (model X.prog X.w) X.A (f v u) (EP X pins σ Q) X.xe s
def cL(X:Cx)(f:Value)(r:List V->Hp->VK->Prop):Prop :=
 ∀ (pins:List (Addr × Obj)) (s:Shared) (σ:St) (H:Hp) (xs:List V) (us:List Value) (Q:VK),ae X pins σ H s->aI xs us->r xs H Q ->
  wpAny (model X.prog X.w) X.A (call f us) (EP X pins σ Q) X.xe s
def Rh(X:Cx)(r:V->Hp->(Bool->Hp->Prop)->Prop):Prop :=
 ∀ (pins:List (Addr × Obj)) (s:Shared) (σ:St) (H:Hp) (x:V) (v:Value) (Q:Bool->Hp->Prop),ae X pins σ H s->aR x v->r x H Q ->
  wpAny (model X.prog X.w) X.A (truthy v) (TP X pins σ Q) X.xe s
def fW(r:R2)(ta tb:TE):TE:=λσ H Q=>ta σ H λx H1=>tb σ H1 λy H2=>r x y H2 Q
def rI(C:Int->Int->Prop)(g:Int->Int->V):R2:=λx y H Q=>∃ i j,x=.int i/\y=.int j/\C i j/\Q (g i j) H
def gO(g:Int->Int->V):R2:=λx y H Q=>∃ i j,x=.int i/\y=.int j/\Q (g i j) H
section
variable {X:Cx}{a b c:Expr}{ta tb tc:TE}{pos:Pos}
theorem xi(ha:PE X a ta)(hb:PE X b tb){pins:List (Addr × Obj)}{s:Shared}{σ:St}{H:Hp}{R:V->V->Hp->Prop}(I:ae X pins σ H s)
 (h:ta σ H λx H1=>tb σ H1 λy H2=>R x y H2) {Q:Value->Shared->Prop} {f:Value->Value->Sem Value}
 (hf : ∀ v u s2 x y H2,ae X pins σ H2 s2->aR x v->aR y u->R x y H2->wpAny (model X.prog X.w) X.A (f v u) Q X.xe s2) :
 wpAny (model X.prog X.w) X.A (eval a X.env) (λv s₁=>wpAny (model X.prog X.w) X.A (eval b X.env) (λu s₂=>wpAny (model X.prog X.w) X.A (f v u) Q X.xe s₂) X.xe s₁) X.xe s:=by
 refine ax (ha pins s σ H _ I h) λv s1 ⟨x,H1,I1,r1,q1⟩=>?_
 refine ax (hb pins s1 σ H1 _ I1 q1) λu s2 ⟨y,H2,I2,r2,q2⟩=>?_
 exact hf v u s2 x y H2 I2 r1 r2 q2
theorem IZ{op:Operator}{r:R2}(ho:aW X (binaryOp op) r)(ha:PE X a ta)(hb:PE X b tb):PE X (.BinOp a op b pos) (fW r ta tb):=by
 intro pins s σ H Q I h
 exact wpAny_BinOp (xi ha hb I h λv u s2 x y H2 I2 rx ry q=>ho pins s2 σ H2 x y v u Q I2 rx ry q)
theorem l7{f:Value->Value->Sem Value}{C:Int->Int->Prop}{g:Int->Int->Int}
 (rule : ∀ (i j:Int) (t u:Tok) (s:Shared) (Q:Value->Shared->Prop) (E:Value->Shared->Prop),C i j->Q (.int (g i j) s.toks) { s with toks:=s.toks+1 }->wpAny (model X.prog X.w) X.A (f (.int i t) (.int j u)) Q E s) :
 aW X f (rI C λi j=>.int (g i j)):=by
 intro pins s σ H x y v u Q I rx ry h
 obtain⟨i,j,rfl,rfl,hc,q⟩:=h
 obtain⟨t,rfl⟩:=rx
 obtain⟨t',rfl⟩:=ry
 exact rule i j t t' s _ _ hc ⟨.int (g i j),H,I.tok _,⟨_,rfl⟩,q⟩
theorem A4{f:Value->Value->Sem Value}{g:Int->Int->Int}
 (rule : ∀ (i j:Int) (t u:Tok) (s:Shared) (Q:Value->Shared->Prop) (E:Value->Shared->Prop),Q (.int (g i j) s.toks) { s with toks:=s.toks+1 }->wpAny (model X.prog X.w) X.A (f (.int i t) (.int j u)) Q E s) :
 aW X f (gO λi j=>.int (g i j)):=by
 intro pins s σ H x y v u Q I rx ry h
 obtain⟨i,j,rfl,rfl,q⟩:=h
 obtain⟨t,rfl⟩:=rx
 obtain⟨t',rfl⟩:=ry
 exact rule i j t t' s _ _ ⟨.int (g i j),H,I.tok _,⟨_,rfl⟩,q⟩
theorem nZ{f:Value->Value->Sem Value}{g:Int->Int->Bool}
 (rule : ∀ (i j:Int) (t u:Tok) (s:Shared) (Q:Value->Shared->Prop) (E:Value->Shared->Prop),Q (.bool (g i j)) s->wpAny (model X.prog X.w) X.A (f (.int i t) (.int j u)) Q E s) :
 aW X f (gO λi j=>.bl (g i j)):=by
 intro pins s σ H x y v u Q I rx ry h
 obtain⟨i,j,rfl,rfl,q⟩:=h
 obtain⟨t,rfl⟩:=rx
 obtain⟨t',rfl⟩:=ry
 exact rule i j t t' s _ _ ⟨.bl (g i j),H,I,rfl,q⟩
def R7(i j:Int):Prop:=0 < j/\j < 1073741824
def rC(i j:Int):Prop:=(-(2 ^ 64) < i/\i < 2 ^ 64)\/(-(2 ^ 64) < j/\j < 2 ^ 64)
theorem rC.ok{i j:Int}(h:rC i j):IntMulOk i j:=by
 rcases h with ⟨h1,h2⟩ | ⟨h1,h2⟩
 ·exact .of_left (intBits_le_64 h1 h2)
 ·exact .of_right (intBits_le_64 h1 h2)
theorem EV(k:Nat):(0:Int)<=2 ^ k:=by
 rw[two_pow_cast]
 exact Int.natCast_nonneg _
theorem JH:aW X (binaryOp .Add) (gO λi j=>.int (i+j)):=A4 λ_ _ _ _ _ _ _ q=>add_int q
theorem Ju:aW X (binaryOp .Sub) (gO λi j=>.int (i - j)):=A4 λ_ _ _ _ _ _ _ q=>sub_int q
theorem Jz:aW X (binaryOp .Mult) (rI rC λi j=>.int (i*j)):=l7 λ_ _ _ _ _ _ _ hc q=>mul_int q hc.ok
theorem JG:aW X (binaryOp .FloorDiv) (rI R7 λi j=>.int (i / j)):=l7 λi j _ _ _ _ _ hc q=>by
 have h1:(0:Int) < j:=hc.1
 have h2:j < 1073741824:=hc.2
 exact floordiv_int (by omega) (by rw[Int.fdiv_eq_ediv_of_nonneg i (by omega)]; exact q) (.inl (PyProof.noPylong_small (by omega)))
theorem A2:aW X (binaryOp .Mod) (rI (λ_ j=>0 < j) λi j=>.int (i%j)):=l7 λi j _ _ _ _ _ hc q=>by
 have h1:(0:Int) < j:=hc
 exact mod_int' (by omega) (by rw[Int.fmod_eq_emod_of_nonneg i (by omega)]; exact q)
theorem Jv:aW X (binaryOp .RShift) (rI (λ_ j=>0<=j) λi j=>.int (i / 2 ^ j.toNat)):=l7 λi j _ _ _ _ _ hc q =>
 rshift_int hc (by rw[Int.fdiv_eq_ediv_of_nonneg i (EV _)]; exact q)
end
def Aa:V->V->Bool
 | .non,.non=>true | .non,.int _=>true | .int _,.non=>true | .non,.bl _=>true | .bl _,.non=>true | .non,.str _=>true | .str _,.non=>true
 | .int _,.int _=>true | .bl _,.bl _=>true | .str _,.str _=>true | .byt _,.byt _=>true
 | .int _,.str _=>true | .str _,.int _=>true | .bl _,.str _=>true | .str _,.bl _=>true
 | _,_=>false
def HG:R2:=λx y H Q=>Aa x y=true/\Q (.bl (decide (x=y))) H
def Hz:R2:=λx y H Q=>Aa x y=true/\Q (.bl (!decide (x=y))) H
theorem CO{i j:Int}:decide (V.int i=V.int j)=(i == j):=by
 rw[Bool.eq_iff_iff]
 simp
theorem pJ{i j:Bool}:decide (V.bl i=V.bl j)=(i == j):=by
 rw[Bool.eq_iff_iff]
 simp
theorem CM{i j:Str}:decide (V.str i=V.str j)=(i == j):=by
 rw[Bool.eq_iff_iff]
 simp
theorem CP{i j:Array UInt8}:decide (V.byt i=V.byt j)=(i.toList == j.toList):=by
 rw[Bool.eq_iff_iff]
 cases i
 cases j
 simp
section
variable {X:Cx}{a b c:Expr}{ta tb tc:TE}{pos:Pos}
theorem bQ{pins:List (Addr × Obj)}{σ:St}{H:Hp}{s:Shared}{Q:VK}{k k':Bool}(I:ae X pins σ H s)(q:Q (.bl k) H)(e:k=k'):EP X pins σ Q (.bool k') s:=by
 subst e
 exact⟨.bl k,H,I,rfl,q⟩
theorem A3:aW X (compareOp .Eq) HG:=by
 intro pins s σ H x y v u Q I rx ry h
 obtain⟨hs,q⟩:=h
 cases x with
 | non =>
  cases rx
  cases y with
  | non=>cases ry; exact PySem.EqNone.eq_none_none (bQ I q (by simp))
  | bl j=>cases ry; exact PySem.EqNone.eq_none_bool (bQ I q (by simp))
  | int j=>obtain⟨t',rfl⟩:=ry; exact PySem.EqNone.eq_none_int (bQ I q (by simp))
  | str j=>obtain⟨t',rfl⟩:=ry; exact PySem.EqNone.eq_none_str (bQ I q (by simp))
  | _=>exact absurd (show false=true from hs) Bool.false_ne_true
 | bl i =>
  cases rx
  cases y with
  | non=>cases ry; exact PySem.EqNone.eq_bool_none (bQ I q (by simp))
  | bl j=>cases ry; exact eq_bool (bQ I q pJ)
  | str j=>obtain⟨t',rfl⟩:=ry; exact PySem.EqMixed.eq_bool_str (bQ I q (by simp))
  | _=>exact absurd (show false=true from hs) Bool.false_ne_true
 | int i =>
  obtain⟨t,rfl⟩:=rx
  cases y with
  | non=>cases ry; exact PySem.EqNone.eq_int_none (bQ I q (by simp))
  | int j=>obtain⟨t',rfl⟩:=ry; exact eq_int (bQ I q CO)
  | str j=>obtain⟨t',rfl⟩:=ry; exact PySem.EqMixed.eq_int_str (bQ I q (by simp))
  | _=>exact absurd (show false=true from hs) Bool.false_ne_true
 | str i =>
  obtain⟨t,rfl⟩:=rx
  cases y with
  | non=>cases ry; exact PySem.EqNone.eq_str_none (bQ I q (by simp))
  | bl j=>cases ry; exact PySem.EqMixed.eq_str_bool (bQ I q (by simp))
  | int j=>obtain⟨t',rfl⟩:=ry; exact PySem.EqMixed.eq_str_int (bQ I q (by simp))
  | str j=>obtain⟨t',rfl⟩:=ry; exact eq_str (bQ I q CM)
  | _=>exact absurd (show false=true from hs) Bool.false_ne_true
 | byt i =>
  obtain⟨t,rfl⟩:=rx
  cases y with
  | byt j=>obtain⟨t',rfl⟩:=ry; exact W.eq_bytes (bQ I q CP)
  | _=>exact absurd (show false=true from hs) Bool.false_ne_true
 | _=>cases y <;> exact absurd (show false=true from hs) Bool.false_ne_true
theorem A1:aW X (compareOp .NotEq) Hz:=by
 intro pins s σ H x y v u Q I rx ry h
 obtain⟨hs,q⟩:=h
 cases x with
 | non =>
  cases rx
  cases y with
  | non=>cases ry; exact PySem.EqNone.ne_none_none (bQ I q (by simp))
  | bl j=>cases ry; exact PySem.EqNone.ne_none_bool (bQ I q (by simp))
  | int j=>obtain⟨t',rfl⟩:=ry; exact PySem.EqNone.ne_none_int (bQ I q (by simp))
  | str j=>obtain⟨t',rfl⟩:=ry; exact PySem.EqNone.ne_none_str (bQ I q (by simp))
  | _=>exact absurd (show false=true from hs) Bool.false_ne_true
 | bl i =>
  cases rx
  cases y with
  | non=>cases ry; exact PySem.EqNone.ne_bool_none (bQ I q (by simp))
  | bl j=>cases ry; exact ne_bool (bQ I q (congrArg not pJ))
  | str j=>obtain⟨t',rfl⟩:=ry; exact PySem.EqMixed.ne_bool_str (bQ I q (by simp))
  | _=>exact absurd (show false=true from hs) Bool.false_ne_true
 | int i =>
  obtain⟨t,rfl⟩:=rx
  cases y with
  | non=>cases ry; exact PySem.EqNone.ne_int_none (bQ I q (by simp))
  | int j=>obtain⟨t',rfl⟩:=ry; exact ne_int (bQ I q (congrArg not CO))
  | str j=>obtain⟨t',rfl⟩:=ry; exact PySem.EqMixed.ne_int_str (bQ I q (by simp))
  | _=>exact absurd (show false=true from hs) Bool.false_ne_true
 | str i =>
  obtain⟨t,rfl⟩:=rx
  cases y with
  | non=>cases ry; exact PySem.EqNone.ne_str_none (bQ I q (by simp))
  | bl j=>cases ry; exact PySem.EqMixed.ne_str_bool (bQ I q (by simp))
  | int j=>obtain⟨t',rfl⟩:=ry; exact PySem.EqMixed.ne_str_int (bQ I q (by simp))
  | str j=>obtain⟨t',rfl⟩:=ry; exact ne_str (bQ I q (congrArg not CM))
  | _=>exact absurd (show false=true from hs) Bool.false_ne_true
 | byt i =>
  obtain⟨t,rfl⟩:=rx
  cases y with
  | byt j=>obtain⟨t',rfl⟩:=ry; exact W.ne_bytes (bQ I q (congrArg not CP))
  | _=>exact absurd (show false=true from hs) Bool.false_ne_true
 | _=>cases y <;> exact absurd (show false=true from hs) Bool.false_ne_true
theorem JA:aW X (compareOp .Lt) (gO λi j=>.bl (decide (i < j))):=nZ λ_ _ _ _ _ _ _ q=>lt_int q
theorem JB:aW X (compareOp .LtE) (gO λi j=>.bl (decide (i<=j))):=nZ λ_ _ _ _ _ _ _ q=>le_int q
theorem JE:aW X (compareOp .Gt) (gO λi j=>.bl (decide (j < i))):=nZ λ_ _ _ _ _ _ _ q=>gt_int q
theorem JF:aW X (compareOp .GtE) (gO λi j=>.bl (decide (j<=i))):=nZ λ_ _ _ _ _ _ _ q=>ge_int q
theorem JC:aW X (compareOp .Is) (λx y H Q=>y=.non/\Q (.bl (decide (x=.non))) H):=by
 intro pins s σ H x y v u Q I rx ry h
 obtain⟨rfl,q⟩:=h
 cases ry
 refine is_none_gen (bQ I q ?_)
 cases x <;> first
  | (cases rx; rfl)
  | (obtain⟨t,rfl⟩:=rx; rfl)
theorem Jx:aW X (compareOp .IsNot) (λx y H Q=>y=.non/\Q (.bl (!decide (x=.non))) H):=by
 intro pins s σ H x y v u Q I rx ry h
 obtain⟨rfl,q⟩:=h
 cases ry
 refine isnot_none_gen (bQ I q ?_)
 cases x <;> first
  | (cases rx; rfl)
  | (obtain⟨t,rfl⟩:=rx; rfl)
theorem aD(b:Expr){op:CmpOp}(h:op ≠ .In:=by decide)(h2:op ≠ .NotIn:=by decide):behindInMarks op b=false:=by
 have e1:(op == CmpOp.In)=false:=by cases op <;> first | rfl | exact absurd rfl h
 have e2:(op == CmpOp.NotIn)=false:=by cases op <;> first | rfl | exact absurd rfl h2
 cases b <;> simp[behindInMarks,e1,e2]
theorem Jl{op:CmpOp}{r:R2}(ho:aW X (compareOp op) r)(ha:PE X a ta)(hb:PE X b tb)(hm:behindInMarks op b=false):PE X (.Compare a [op] [b] pos) (fW r ta tb):=by
 intro pins s σ H Q I h
 exact wpAny_Compare1 (xi ha hb I h λv u s2 x y H2 I2 rx ry q=>ho pins s2 σ H2 x y v u Q I2 rx ry q) hm
def Rg(K:W.Frag)(x:V)(H:Hp)(k:Bool):Prop :=
 match x with
 | .non=>k=false
 | .bl b=>k=b
 | .int i=>k=(i != 0)
 | .str y=>y.length<=sizeLine/\k=((y.length:Int) != 0)
 | .byt y=>y.size<=sizeLine/\k=((y.size:Int) != 0)
 | .ref p=>(∃ xs,aE K H p xs/\k = !xs.isEmpty)\/(∃ xs,bd K H p xs/\k = !xs.isEmpty)\/∃ kvs,H p=some (.dK kvs)/\k = !kvs.isEmpty
 | _=>False
theorem LJ{κ:Type}{kvs:List (κ × V)}{vs:List (κ × Value)}(r:KV kvs vs):(!vs.isEmpty) = !kvs.isEmpty:=by
 cases r <;> rfl
theorem Bw{xs:List V}{its:List Value}(r:aI xs its):(!its.toArray.isEmpty) = !xs.isEmpty:=by
 cases r <;> simp
theorem ow:(sizeLine:Nat) < 2 ^ 63:=by rw[sizeLine_eq]; decide
theorem lO:Rh X (λx H Q=>∃ k,Rg X.K x H k/\Q k H):=by
 intro pins s σ H x v Q I rx h
 obtain⟨k,e,q⟩:=h
 have hl:=ow
 have hs:sizeLine=16777216:=sizeLine_eq
 cases x with
 | non =>
  cases rx
  have e':k=false:=e
  subst e'
  exact truthy_none ⟨H,I,q⟩
 | bl b =>
  cases rx
  have e':k=b:=e
  subst e'
  exact wpAny_truthy_bool ⟨H,I,q⟩
 | int i =>
  obtain⟨t,rfl⟩:=rx
  have e':k=(i != 0):=e
  subst e'
  exact PySem.P.truthy_int ⟨H,I,q⟩
 | str y =>
  obtain⟨t,rfl⟩:=rx
  obtain⟨hy,e'⟩:y.length<=sizeLine/\k=((y.length:Int) != 0):=e
  subst e'
  exact PySem.P.truthy_str (by omega) ⟨H,I.tok _,q⟩
 | byt y =>
  obtain⟨t,rfl⟩:=rx
  obtain⟨hy,e'⟩:y.size<=sizeLine/\k=((y.size:Int) != 0):=e
  subst e'
  exact W.truthy_bytes (by omega) ⟨H,I.tok _,q⟩
 | ref p =>
  cases rx
  have e':(∃ xs,aE X.K H p xs/\k = !xs.isEmpty)\/(∃ xs,bd X.K H p xs/\k = !xs.isEmpty)\/∃ kvs,H p=some (.dK kvs)/\k = !kvs.isEmpty:=e
  rcases e' with ⟨xs,hx,e'⟩ | ⟨xs,hx,e'⟩ | ⟨kvs,hx,e'⟩
  ·subst e'
   obtain⟨its,r,pl,hz⟩:=I.list hx
   have hlen:=r.length
   exact wpAny_truthy_list pl.isList (by simp only [List.size_toArray]; omega) ⟨H,I.tok _,by rw[Bw r]; exact q⟩
  ·subst e'
   obtain⟨its,r,pl,hz⟩:=I.tuple hx
   have hlen:=r.length
   exact truthy_tuple pl (by simp only [List.size_toArray]; omega) ⟨H,I.tok _,by rw[Bw r]; exact q⟩
  ·subst e'
   obtain⟨hz,hS,vs,r,m⟩:kvs.length<=sizeLine/\(p == sysModules)=false/\∃ vs,KV kvs vs/\s.heap.DictOf (cr X.prog X.w) p vs:=I.hok p _ hx
   have hlen:kvs.length=vs.length:=Paired.length r
   exact wpAny_truthy_dict hS m (by omega) ⟨H,I.tok _,by rw[LJ r]; exact q⟩
 | _=>exact (show False from e).elim
theorem je{x:V}{us:List Value}(r:aI [x] us) : ∃ u,us=[u]/\aR x u:=by
 cases r with
 | cons r1 r2=>cases r2; exact⟨_,rfl,r1⟩
theorem yW{x y:V}{us:List Value}(r:aI [x,y] us) : ∃ u w',us=[u,w']/\aR x u/\aR y w':=by
 cases r with
 | cons r1 r2 =>
  cases r2 with
  | cons r3 r4=>cases r4; exact⟨_,_,rfl,r1,r3⟩
end
structure jb (h:Heap) (x dx C:Addr) (mA:Str->Option Value):Prop where
 obj:h.get? x=some (W.instObj C dx)
 ns:h.Ns1 dx mA
 ne:dx≠x
theorem Lc{h:Heap}{dx:Addr}{mA:Str->Option Value}(n:h.Ns1 dx mA) : ∃ od,h.get? dx=some od/\∀ name,W.lookIn name od=some (mA name):=by
 obtain⟨o,es,ep,ho,hd,hk,_,hm⟩:=n
 refine⟨o,ho,λname=>?_⟩
 have e:=hm name
 unfold nsFind findBy at e
 rw[<- Array.find?_toList]at e
 unfold W.lookIn
 rw[hd]
 dsimp only
 split
 ·rename_i y q
  rw[q]at e
  exact congrArg some e
 ·rename_i q
  rw[q]at e
  have a:es.toList.any (·.refKey)=false:=by
   rw[List.any_eq_false]
   intro y hy
   obtain⟨z,t,hkey⟩:=hk y (Array.mem_toList_iff.mp hy)
   simp[DictEntry.refKey,hkey]
  have a' : ¬ es.toList.any (·.refKey)=true:=by rw[a]; exact Bool.false_ne_true
  rw[if_neg a']
  exact congrArg some e
theorem jb.look{h:Heap}{x dx C:Addr}{mA:Str->Option Value}(I:jb h x dx C mA) : ∃ od,W.InstAt h x (W.instObj C dx) C (some od)/\∀ name,W.lookIn name od=some (mA name) :=
 let ⟨od,ho,hl⟩:=Lc I.ns
 ⟨od,⟨I.obj,rfl,rfl,ho⟩,hl⟩
section
variable {prog:Program}{w:World}{A:Around}{E:Value->Shared->Prop}{s:Shared}{K:W.Frag}{x dx C f:Addr}{mA:Str->Option Value}{name:Str}{v:Value}
theorem M3{expr:Bool}{Q:Value->Shared->Prop}(X:K.In s.heap)(I:jb s.heap x dx C mA)(hg:W.plainGet K C name=true)(hh:W.hasDictIn K C=true)
 (ha:W.findIn K (.ref C) name=some none) (hv:mA name=some v) (hv':W.handedIn v=true) (h:Q v { s with toks:=s.toks+1 }) :
 wpAny (model prog w) A (getAttr (.ref x) name expr) Q E s:=by
 obtain⟨od,J,hl⟩:=I.look
 exact W.get_value X J (W.plainGet_of hg).1 (W.findObj_own hh ha rfl (by rw[hl,hv])) hv' h
theorem M0{pl:Sem Bool}{Q:Value × List Value->Shared->Prop}(X:K.In s.heap)(I:jb s.heap x dx C mA)(hg:W.plainGet K C name=true)
 (hf:W.findIn K (.ref C) name=some (some (.ref f))) (ht:W.isFn K (.ref f)=true) (hv:mA name=none) (h:Q (.ref f,[.ref x]) s) :
 wpAny (model prog w) A (getMethod (.ref x) name pl) Q E s:=by
 obtain⟨od,J,hl⟩:=I.look
 exact W.method_fn X J (W.plainGet_of hg).1 (W.plainGet_of hg).2 hf (beq_iff_eq.mp ht) (by show (W.lookIn name od).map (·.isSome)=some false; rw[hl,hv]; rfl) h
theorem Gu{ns:List Str}{Q:Unit->Shared->Prop}(X:K.In s.heap)(I:jb s.heap x dx C mA)
 (hs:W.findIn K (.ref C) "__setattr__" = some (some (.builtin "object.__setattr__"))) (hp:W.plainOver K C=true) (ht:W.takerIn K C name=some none) (hh:W.hasDictIn K C=true)
 (hw:PySem.Within mA ns) (hsz:ns.length<=sizeLine)
 (h : ∀ h',jb h' x dx C (λy=>if y=name then some v else mA y)->Heap.SameBut dx s.heap h'->Q () { s with heap:=h',toks:=s.toks+2 }) :
 wpAny (model prog w) A (setAttr (.ref x) name v) Q E s:=by
 obtain⟨od,J,hl⟩:=I.look
 refine W.set_plain X J hs (W.osa_open (s:={ s with toks:=s.toks+1 }) (r:=none) X J hp ht λb=>?_)
 obtain⟨cd,hc,hd'⟩:=W.any_some hh
 have hx:s.heap.get? x=some ⟨.ref C,some dx,.plain,#[]⟩:=I.obj
 refine wpAny_bind (wpAny_pure (wpAny_bind (wpAny_bind (wpAny_loadPart hx (wpAny_bind (W.Looks.here (s:={ s with toks:=s.toks+1 }) (W.looks_clsIn X hc) ?_))))))
 rw[hd']
 refine wpAny_pure (a:=some dx) (wpAny_bind (wpAny_pure (wpAny_bind ?_)))
 refine wpAny_nsSet1 (s:={ s with toks:=s.toks+1 }) I.ns λh' hn2 hs2=>?_
 obtain⟨oD,esD,epD,hoD,hdD,hcD⟩:=hn2.count (PySem.Within.cons name v hw)
 refine wpAny_bind (wpAny_lookBehind hoD (by rw[hdD]; exact pastItsLine_dict (Nat.le_trans hcD (by rw[List.length_cons]; omega))) ?_)
 exact wpAny_pure (h _ ⟨(hs2.2 _ (Ne.symm I.ne)).trans I.obj,hn2,I.ne⟩ hs2)
theorem K9{R:Result->Shared->Prop}{vs:List Value}{kw:List (Str × Value)}(X:K.In s.heap)(hm:W.makesIn K C=true)
 (hi:W.findIn K (.ref C) "__init__" = some (some (.ref f))) (hf:W.typeIn K (.ref f)=some (.type "function"))
 (h:codeAny (model prog w) (A.under (.builtin "type.__call__" ⟨.ref C :: vs,kw⟩)) (.call (.ref f) ⟨.ref (s.heap.objs.size+1) :: vs,kw⟩) (W.InitBack (s.heap.objs.size+1) R)
   { s with heap:=(s.heap.push W.emptyDict).push (W.instObj C s.heap.objs.size) }) :
 codeAny (model prog w) A (.call (.ref C) ⟨vs,kw⟩) R s:=by
 obtain⟨hh,g,d,t,os⟩:=s
 exact W.make_core (W.makes_of X hm) (W.looks_findIn X hi) (λself=>W.bind_fn X self hf) (.inl rfl) h
theorem K8{R:Result->Shared->Prop}(X:K.In s.heap)(hm:W.makesIn K C=true)
 (hi:W.findIn K (.ref C) "__init__" = some (some (.builtin "object.__init__")))
 (hb : ∀ self,W.Looks (model prog w) s.heap (bindSpecial (.builtin "object.__init__") self) (.builtin "object.__init__",[self]))
 (h:codeAny (model prog w) (A.under (.builtin "type.__call__" ⟨[.ref C],[]⟩)) (.call (.builtin "object.__init__") ⟨[.ref (s.heap.objs.size+1)],[]⟩) (W.InitBack (s.heap.objs.size+1) R)
   { s with heap:=(s.heap.push W.emptyDict).push (W.instObj C s.heap.objs.size) }) :
 codeAny (model prog w) A (.call (.ref C) ⟨[],[]⟩) R s:=by
 obtain⟨hh,g,d,t,os⟩:=s
 exact W.make_core (W.makes_of X hm) (W.looks_findIn X hi) hb (.inr ⟨rfl,rfl⟩) h
end
def ck(f:Str)(v:V):List (Str × V)->List (Str × V)
 | []=>[(f,v)]
 | (g,x) :: r=>if g=f then (g,v) :: r else (g,x) :: ck f v r
theorem Bo(f g:Str)(v:V) : ∀ fs:List (Str × V),(ck f v fs).lookup g=if g=f then some v else fs.lookup g
 | []=>by
  show List.lookup g [(f,v)]=_
  by_cases h:g=f
  ·have hb:(g == f)=true:=beq_iff_eq.mpr h
   simp only [List.lookup,hb,if_pos h]
  ·have hb:(g == f)=false:=beq_eq_false_iff_ne.mpr h
   simp only [List.lookup,hb,if_neg h]
 | (k,x) :: r=>by
  have ih:=Bo f g v r
  rw[show ck f v ((k,x) :: r)=(if k=f then (k,v) :: r else (k,x) :: ck f v r) from rfl]
  by_cases hk:k=f
  ·rw[if_pos hk]
   by_cases h:g=k
   ·have hb:(g == k)=true:=beq_iff_eq.mpr h
    simp only [List.lookup,hb,if_pos (h.trans hk)]
   ·have hb:(g == k)=false:=beq_eq_false_iff_ne.mpr h
    simp only [List.lookup,hb,if_neg (λe:g=f=>h (e.trans hk.symm))]
  ·rw[if_neg hk]
   by_cases h:g=k
   ·have hb:(g == k)=true:=beq_iff_eq.mpr h
    simp only [List.lookup,hb,if_neg (λe:g=f=>hk (h.symm.trans e))]
   ·have hb:(g == k)=false:=beq_eq_false_iff_ne.mpr h
    simp only [List.lookup,hb]
    exact ih
theorem sH(f:Str)(v:V) : ∀ fs:List (Str × V),f∈(ck f v fs).map (·.1)/\∀ g,g∈fs.map (·.1)->g∈(ck f v fs).map (·.1)
 | []=>⟨by simp[ck],λg h=>by simp at h⟩
 | (k,x) :: r=>by
  obtain⟨i1,i2⟩:=sH f v r
  rw[show ck f v ((k,x) :: r)=(if k=f then (k,v) :: r else (k,x) :: ck f v r) from rfl]
  by_cases hk:k=f
  ·rw[if_pos hk]
   subst hk
   exact⟨by simp,λg h=>by simpa using h⟩
  ·rw[if_neg hk]
   refine⟨?_,λg h=>?_⟩
   ·rw[List.map_cons]
    exact List.mem_cons_of_mem _ i1
   ·rw[List.map_cons]at h ⊢
    rcases List.mem_cons.mp h with e | e
    ·exact List.mem_cons.mpr (.inl e)
    ·exact List.mem_cons_of_mem _ (i2 g e)
theorem Bq(f:Str)(v:V) : ∀ fs:List (Str × V),(ck f v fs).length<=fs.length+1
 | []=>by simp[ck]
 | (k,x) :: r=>by
  have ih:=Bq f v r
  rw[show ck f v ((k,x) :: r)=(if k=f then (k,v) :: r else (k,x) :: ck f v r) from rfl]
  by_cases hk:k=f
  ·rw[if_pos hk,List.length_cons,List.length_cons]; omega
  ·rw[if_neg hk,List.length_cons,List.length_cons]; omega
theorem dB.some_of{v:V}{o:Option Value}(r:dB (some v) o) : ∃ u,o=some u/\aR v u:=by
 cases o with
 | none=>exact (show False from r).elim
 | some u=>exact⟨u,rfl,r⟩
theorem dB.none_of{o:Option Value}(r:dB none o):o=none:=by
 cases o with
 | none=>rfl
 | some u=>exact (show False from r).elim
theorem Ma{v:V}{u:Value}(r:aR v u):W.handedIn u=true:=by
 cases v with
 | non=>cases (show u=Value.none from r); rfl
 | bl b=>cases (show u=Value.bool b from r); rfl
 | int i=>obtain⟨t,e⟩:=(show ∃ t,u=Value.int i t from r); cases e; rfl
 | str x=>obtain⟨t,e⟩:=(show ∃ t,u=Value.str x t from r); cases e; rfl
 | byt b=>obtain⟨t,e⟩:=(show ∃ t,u=Value.bytes b t from r); cases e; rfl
 | flt b=>obtain⟨t,e⟩:=(show ∃ t,u=Value.float b t from r); cases e; rfl
 | ref a=>cases (show u=Value.ref a from r); rfl
 | ty n=>cases (show u=Value.type n from r); rfl
section
variable {P:Program}{w:World}{H H':Hp}{h h':Heap}{a C dx:Addr}{fs fs':List (Str × V)}
theorem oC(hok:bw P w H h)(e:H a=some (.ins C dx fs)) : ∃ mA,jb h a dx C mA/\(∀ f,dB (fs.lookup f) (mA f))/\PySem.Within mA (fs.map (·.1))/\fs.length<=1000/\H dx=some (.own a):=by
 obtain⟨d,z,ne,ob,mA,n,r,q⟩:=(show bF P w H h a (.ins C dx fs) from hok a _ e)
 exact⟨mA,⟨ob,n,ne⟩,r,q,z,d⟩
end
structure cA (K:W.Frag) (C:Addr):Prop where
 pg:W.plainGet K C Str.empty=true
 hd:W.hasDictIn K C=true
 po:W.plainOver K C=true
 sa:W.findIn K (.ref C) "__setattr__" = some (some (.builtin "object.__setattr__"))
theorem cA.get{K:W.Frag}{C:Addr}(c:cA K C)(f:Str):W.plainGet K C f=true:=c.pg
def cy(K:W.Frag)(C:Addr)(f:Str):Prop:=W.findIn K (.ref C) f=some none
theorem cy.taker{K:W.Frag}{C:Addr}{f:Str}(n:cy K C f):W.takerIn K C f=some none:=by
 unfold W.takerIn
 rw[show W.findIn K (.ref C) f=some none from n]
 rfl
structure SW (K:W.Frag) (C:Addr) (f:Str) (v:V) (u:Value):Prop where
 at_:W.findIn K (.ref C) f=some (some u)
 rel:aR v u
 get:W.specialIn K u "__get__" = some none
 cp:W.copiedNames.contains f=false
structure be (K:W.Frag) (C:Addr) (m:Str) (f:Addr):Prop where
 at_:W.findIn K (.ref C) m=some (some (.ref f))
 fn:W.isFn K (.ref f)=true
 kp:W.keepIn K (.ref f)=true
section
variable {X:Cx}{pins:List (Addr × Obj)}{σ:St}{H:Hp}{s:Shared}{a C dx:Addr}{fs:List (Str × V)}{f:Str}{v:V}{A:Around}{E:Value->Shared->Prop}
theorem Ck{b:Bool}{Q:Value->Shared->Prop}(I:ae X pins σ H s)(e:H a=some (.ins C dx fs))(c:cA X.K C)(n:cy X.K C f)(l:fs.lookup f=some v)
 (h : ∀ u s',ae X pins σ H s'->aR v u->Q u s'):wpAny (model X.prog X.w) A (getAttr (.ref a) f b) Q E s:=by
 obtain⟨mA,O,r,_,_,_⟩:=oC I.hok e
 obtain⟨u,hu,ru⟩:=dB.some_of (v:=v) (o:=mA f) (by rw[<- l]; exact r f)
 exact M3 I.kIn O (c.get f) c.hd n hu (Ma ru) (h u _ (I.tok _) ru)
theorem Cj{m:Str}{g:Addr}{pl:Sem Bool}{Q:Value × List Value->Shared->Prop}(I:ae X pins σ H s)(e:H a=some (.ins C dx fs))(c:cA X.K C)(k:be X.K C m g)(l:fs.lookup m=none)
 (h:Q (.ref g,[.ref a]) s):wpAny (model X.prog X.w) A (getMethod (.ref a) m pl) Q E s:=by
 obtain⟨mA,O,r,_,_,_⟩:=oC I.hok e
 have hn:mA m=none:=dB.none_of (by rw[<- l]; exact r m)
 exact M0 I.kIn O (c.get m) k.at_ k.fn hn h
theorem zY{y:V}{u:Value}{Q:Unit->Shared->Prop}(I:ae X pins σ H s)(e:H a=some (.ins C dx fs))(c:cA X.K C)(n:cy X.K C f)(hl:fs.length < 1000)(ry:aR y u)
 (h : ∀ s',ae X pins σ (upd H a (.ins C dx (ck f y fs))) s'->Q () s'):wpAny (model X.prog X.w) A (setAttr (.ref a) f u) Q E s:=by
 obtain⟨mA,O,r,wi,_,ho⟩:=oC I.hok e
 have hz:(fs.map (·.1)).length<=sizeLine:=by rw[List.length_map,sizeLine_eq]; omega
 refine Gu I.kIn O c.sa c.po n.taker c.hd wi hz λh' O' sb=>h _ ?_
 have hd : ∃ o,h'.get? dx=some o:=let ⟨o,_,_,e',_⟩:=O'.ns; ⟨o,e'⟩
 refine I.write (x:=a) (e:=dx) (by rw[e]; exact True.intro) (.inr ho) (λb q hb z=>(sb.2 b hb).trans z) hd ?_
 refine⟨by rw[aw O.ne]; exact ho,?_,O.ne,O'.obj,_,O'.ns,λg=>?_,λg hg=>?_⟩
 ·have:=Bq f y fs; omega
 ·show dB ((ck f y fs).lookup g) (if g=f then some u else mA g)
  rw[Bo]
  by_cases q:g=f
  ·rw[if_pos q,if_pos q]; exact ry
  ·rw[if_neg q,if_neg q]; exact r g
 ·by_cases q:g=f
  ·rw[q]; exact (sH f y fs).1
  ·refine (sH f y fs).2 g (wi g λz=>hg ?_)
   show (if g=f then some u else mA g)=none
   rw[if_neg q]; exact z
theorem ae.made(I:ae X pins σ H s):ae X pins σ (upd (upd H s.heap.objs.size (.own (s.heap.objs.size+1))) (s.heap.objs.size+1) (.ins C s.heap.objs.size []))
 { s with heap:=(s.heap.push W.emptyDict).push (W.instObj C s.heap.objs.size) }:=by
 have e1:(s.heap.push W.emptyDict).get? s.heap.objs.size=some W.emptyDict:=Heap.get?_push_size s.heap rfl
 have e2:((s.heap.push W.emptyDict).push (W.instObj C s.heap.objs.size)).get? (s.heap.objs.size+1)=some (W.instObj C s.heap.objs.size):=by
  have:=Heap.get?_push_size (s.heap.push W.emptyDict) (o:=W.instObj C s.heap.objs.size) rfl
  rwa [Heap.size_push]at this
 have e3:(s.heap.push W.emptyDict).Ns s.heap.objs.size (λ_=>none):=⟨W.emptyDict,#[],_,e1,rfl,(λe he=>absurd he (by simp)),λ_=>rfl⟩
 have I1:=I.laid (a:=s.heap.objs.size) (o:=.own (s.heap.objs.size+1)) (h':=s.heap.push W.emptyDict) (t':=s.toks) (λb u q=>Heap.get?_push_of_some _ q) (Nat.le_refl _) ⟨_,e1⟩
 refine I1.laid (a:=s.heap.objs.size+1) (o:=.ins C s.heap.objs.size []) (t':=s.toks) (λb u q=>Heap.get?_push_of_some _ q) (Nat.le_of_eq (Heap.size_push _ _)) ?_
 have ne:s.heap.objs.size≠s.heap.objs.size+1:=Nat.ne_of_lt (Nat.lt_succ_self _)
 refine⟨by rw[aw ne,aQ],Nat.zero_le _,ne,e2,λ_=>none,(Heap.Ns1.of_empty e3).at λo q=>Heap.get?_push_of_some _ q,λ_=>True.intro,λy hy=>absurd rfl hy⟩
theorem Ra{prog:Program}{w:World}{env:Env}{e:Expr}{f:Str}{pos:Pos}{s:Shared}{Q:Value->Shared->Prop}(hb:attributeBase e f env (eval e env)=eval e env)
 (h:wpAny (model prog w) A (eval e env) (λo s₁=>wpAny (model prog w) A (getAttr o f true) Q E s₁) E s):wpAny (model prog w) A (eval (.Attribute e f pos) env) Q E s :=
 Attribute_any_ h (by rw[arm_eval_Attribute,hb])
end
def zp(K:W.Frag)(ta:TE)(f:Str):TE:=λσ H Q=>ta σ H λx H1=>∃ a C dx fs v,x=.ref a/\H1 a=some (.ins C dx fs)/\cA K C/\cy K C f/\fs.lookup f=some v/\Q v H1
def Ar(K:W.Frag)(ta tv:TE)(f:Str):TS:=λD σ H=>tv σ H λy H1=>ta σ H1 λx H2=>∃ a C dx fs,x=.ref a/\H2 a=some (.ins C dx fs)/\cA K C/\cy K C f/\fs.length < 1000 /\
 D.nx σ (upd H2 a (.ins C dx (ck f y fs)))
def DA(X:Cx)(op:Operator)(rd:V->V->Hp->VK->Prop):Prop :=
 ∀ (pins:List (Addr × Obj)) (s:Shared) (σ:St) (H:Hp) (x y:V) (u v:Value) (Q:VK),ae X pins σ H s->aR x u->aR y v->rd x y H Q->wpAny (model X.prog X.w) X.A (inplaceOp op u v) (EP X pins σ Q) X.xe s
def Aq(K:W.Frag)(ta tv:TE)(rd:V->V->Hp->VK->Prop)(f:Str):TS:=λD σ H=>ta σ H λx H1=>∃ a C dx fs v,x=.ref a/\H1 a=some (.ins C dx fs)/\cA K C/\cy K C f/\fs.lookup f=some v /\
 tv σ H1 λy H2=>rd v y H2 λz H3=>∃ dx' fs',H3 a=some (.ins C dx' fs')/\fs'.length < 1000/\D.nx σ (upd H3 a (.ins C dx' (ck f z fs')))
section
variable {X:Cx}{o e value:Expr}{f:Str}{pos pos' tpos:Pos}{ta tv:TE}
theorem Je(he:PE X e ta)(hb:attributeBase e f X.env (eval e X.env)=eval e X.env):PE X (.Attribute e f pos) (zp X.K ta f):=by
 intro pins s σ H Q I h
 refine Ra hb (ax (he pins s σ H _ I h) λu s1 ⟨x,H1,I1,rx,a,C,dx,fs,v,ex,ea,c,n,l,q⟩=>?_)
 subst ex
 obtain rfl:u=Value.ref a:=rx
 exact Ck I1 ea c n l λu' s2 I2 ru=>⟨v,H1,I2,ru,q⟩
theorem Ix(ha:PE X o ta)(hv:PE X value tv)(hs:swapsWith value (some (.Attribute o f pos')) pos.line X.env=pure false):PS X (.Assign [.Attribute o f pos'] value pos) (Ar X.K ta tv f):=by
 intro pins s σ H D I h
 refine plainObj_wpAny_Assign_Attribute (ax (hv pins s σ H _ I h) λu s1 ⟨y,H1,I1,ry,q⟩=>ax (ha pins s1 σ H1 _ I1 q) λov s2 ⟨x,H2,I2,rx,a,C,dx,fs,ex,ea,c,n,l,q2⟩=>?_) hs
 subst ex
 obtain rfl:ov=Value.ref a:=rx
 exact zY I2 ea c n l ry λs3 I3=>⟨σ,_,I3,q2⟩
theorem Iw{op:Operator}{rd:V->V->Hp->VK->Prop}(ha:PE X o ta)(hv:PE X value tv)(hop:DA X op rd):PS X (.AugAssign (.Attribute o f tpos) op value pos) (Aq X.K ta tv rd f):=by
 intro pins s σ H D I h
 refine wpAny_AugAssign_AttributeAny (ax (ha pins s σ H _ I h) λov s1 ⟨x,H1,I1,rx,a,C,dx,fs,v,ex,ea,c,n,l,q⟩=>?_)
 subst ex
 obtain rfl:ov=Value.ref a:=rx
 refine Ck I1 ea c n l λu s2 I2 ru=>ax (hv pins s2 σ H1 _ I2 q) λw3 s3 ⟨y,H2,I3,ry,q3⟩=>ax (hop pins s3 σ H2 v y u w3 _ I3 ru ry q3) λw4 s4 ⟨z,H3,I4,rz,dx',fs',ea',l',q4⟩=>?_
 exact zY I4 ea' c n l' rz λs5 I5=>⟨σ,_,I5,q4⟩
def AB:V->V->Hp->VK->Prop:=λx y H Q=>∃ i j,x=.int i/\y=.int j/\Q (.int (i+j)) H
theorem LR:DA X .Add AB:=by
 rintro pins s σ H x y u v Q I rx ry ⟨i,j,rfl,rfl,q⟩
 obtain⟨t,rfl⟩:=(show ∃ t,u=Value.int i t from rx)
 obtain⟨t',rfl⟩:=(show ∃ t',v=Value.int j t' from ry)
 exact PyProof.Rows.iadd_int ⟨.int (i+j),H,I.tok _,⟨_,rfl⟩,q⟩
end
section
variable {X:Cx}{pins:List (Addr × Obj)}{σ:St}{H:Hp}{s:Shared}{A:Around}{E:Value->Shared->Prop}{Q:Value->Shared->Prop}{c:Value}{b:Bool}
inductive ce (K:W.Frag) (H:Hp):V->Value->Prop where
 | non:ce K H .non (.type "NoneType")
 | bl (x:Bool):ce K H (.bl x) (.type "bool")
 | int (i:Int):ce K H (.int i) (.type "int")
 | str (x:Str):ce K H (.str x) (.type "str")
 | flt (x:UInt64):ce K H (.flt x) (.type "float")
 | lst {a:Addr} {xs:List V} (e:H a=some (.lst xs)):ce K H (.ref a) (.type "list")
 | frz {a:Addr} {o:Obj} {xs:List V} (e:H a=some (.frz o (.lst xs))):ce K H (.ref a) (.type "list")
 | tup {a:Addr} {xs:List V} (e:H a=some (.tup xs)):ce K H (.ref a) (.type "tuple")
 | dK {a:Addr} {kvs:List (aP × V)} (e:H a=some (.dK kvs)):ce K H (.ref a) (.type "dict")
 | dT {a:Addr} {kvs:List (List aP × V)} (e:H a=some (.dT kvs)):ce K H (.ref a) (.type "dict")
 | ins {a C dx:Addr} {fs:List (Str × V)} (e:H a=some (.ins C dx fs)) (cl:cA K C) (ha:W.findIn K (.ref C) "__class__" = some (some (.builtin "object.__class__")))
  (hn:W.specialIn K (.builtin "object.__class__") "__get__" = some (some (.builtin "getset_descriptor.__get__"))) (htk:W.takesIn K (.builtin "object.__class__")=some true)
  (hm:W.mroIn K C (.type "object")=some true):ce K H (.ref a) (.ref C)
theorem Bv{x:V}{u t:Value}(I:ae X pins σ H s)(rx:aR x u)(ty:ce X.K H x t)(e:W.kitOne X.K t c=some b)(h : ∀ tk,Q (.bool b) { s with toks:=tk }) :
 wpAny (model X.prog X.w) A (call (.builtin "isinstance") [u,c]) Q E s:=by
 cases ty with
 | non=>cases (show u=Value.none from rx); exact W.kia_one W.kitx_none I.kIn True.intro e (λz=>nomatch z) h
 | bl y=>cases (show u=Value.bool y from rx); exact W.kia_one W.kitx_bool I.kIn True.intro e (λz=>nomatch z) h
 | int i=>obtain⟨t,q⟩:=(show ∃ t,u=Value.int i t from rx); cases q; exact W.kia_one W.kitx_int I.kIn True.intro e (λz=>nomatch z) h
 | str y=>obtain⟨t,q⟩:=(show ∃ t,u=Value.str y t from rx); cases q; exact W.kia_one W.kitx_str I.kIn True.intro e (λz=>nomatch z) h
 | flt y=>obtain⟨t,q⟩:=(show ∃ t,u=Value.float y t from rx); cases q; exact W.kia_one W.kitx_float I.kIn True.intro e (λz=>nomatch z) h
 | @lst a xs ea =>
  cases (show u=Value.ref a from rx)
  obtain⟨_,_,n,_,h1⟩:=(show bF X.prog X.w H s.heap a (.lst xs) from I.hok a _ ea)
  exact W.kia_one W.kitx_list I.kIn ⟨_,h1,rfl⟩ e (λz=>nomatch z) h
 | @frz a ob xs ea =>
  cases (show u=Value.ref a from rx)
  obtain⟨_,_,_,n,_,h1⟩:=(show bF X.prog X.w H s.heap a (.frz ob (.lst xs)) from I.hok a _ ea)
  exact W.kia_one W.kitx_list I.kIn ⟨_,h1,rfl⟩ e (λz=>nomatch z) h
 | @tup a xs ea =>
  cases (show u=Value.ref a from rx)
  obtain⟨_,_,_,p⟩:=(show bF X.prog X.w H s.heap a (.tup xs) from I.hok a _ ea)
  obtain⟨o,h1,h2,_⟩:=p
  exact W.kia_one W.kitx_tuple I.kIn ⟨o,h1,h2⟩ e (λz=>nomatch z) h
 | @dK a kvs ea =>
  cases (show u=Value.ref a from rx)
  obtain⟨_,_,vs,_,p⟩:=(show bF X.prog X.w H s.heap a (.dK kvs) from I.hok a _ ea)
  obtain⟨o,es,ep,h1,h2,_⟩:=p
  exact W.kia_one W.kitx_dict I.kIn ⟨o,h1,h2.1⟩ e (λz=>nomatch z) h
 | @dT a kvs ea =>
  cases (show u=Value.ref a from rx)
  obtain⟨_,_,xs,_,o,es,ep,h1,h2,_⟩:=(show bF X.prog X.w H s.heap a (.dT kvs) from I.hok a _ ea)
  exact W.kia_one W.kitx_dict I.kIn ⟨o,h1,h2.1⟩ e (λz=>nomatch z) h
 | @ins a C dx fs ea cl ha hn htk hm =>
  cases (show u=Value.ref a from rx)
  obtain⟨mA,O,_⟩:=oC I.hok ea
  obtain⟨od,J,_⟩:=O.look
  exact W.kia_one (W.kitx_own (cl.get _) cl.hd ha hn htk hm) I.kIn J e (λz=>nomatch z) h
end
structure bM (k:Nat) (A:Around):Prop where
 hd:A.handled=none
 dp:A.depth+3*k+5 < recursionLimit
 un:A.units+16*k+200 < cLine
theorem bM.mono{j k:Nat}{A:Around}(r:bM k A)(h:j<=k):bM j A:=⟨r.hd,by have:=r.dp; omega,by have:=r.un; omega⟩
theorem bM.deeper{k:Nat}{A:Around}(r:bM (k+1) A)(env:Env):bM k (A.deeper env) :=
 ⟨r.hd,by have:=r.dp; show A.depth+1+3*k+5 < _; omega,by have:=r.un; show A.units+3+16*k+200 < _; omega⟩
theorem La {A:Around} {C:Addr} {us:List Value} {kw:List (Str × Value)}:(A.under (.builtin "type.__call__" ⟨.ref C :: us,kw⟩)).depth=A.depth+1:=by
 first | rfl | simp[Around.under,Code.weight,Code.isCreation,Code.isGuard,Code.isCaller,Code.frames,Code.isFrame,guardIds]
theorem K7 {A:Around} {C:Addr} {us:List Value} {kw:List (Str × Value)}:(A.under (.builtin "type.__call__" ⟨.ref C :: us,kw⟩)).units=A.units+1:=by
 first | rfl | simp[Around.under,Code.cUnits,Code.frames,Code.isFrame]
theorem bM.make {k:Nat} {A:Around} (r:bM (k+1) A) (C:Addr) (us:List Value) (kw:List (Str × Value)):bM k (A.under (.builtin "type.__call__" ⟨.ref C :: us,kw⟩)) :=
 ⟨r.hd,by have:=r.dp; rw[La]; omega,by have:=r.un; rw[K7]; omega⟩
theorem bM.depth{k:Nat}{A:Around}(r:bM k A):A.depth < recursionLimit:=by have:=r.dp; omega
theorem bM.units{k:Nat}{A:Around}(r:bM k A):A.units+64 < cLine:=by have:=r.un; omega
def iD:TA:=λ_ H Q=>Q [] H
def jf(ta:TE)(tr:TA):TA:=λσ H Q=>ta σ H λx H1=>tr σ H1 λxs H2=>Q (x :: xs) H2
section
variable {X:Cx}{e:Expr}{es:List Expr}{te:TE}{t:TA}{pos:Pos}
theorem AX:PA X [] iD:=λ_ _ _ _ H Q I h=>Calls.spliced_nil ⟨[],H,I,.nil,h⟩
theorem Js(ha:PE X e te)(hr:PA X es t)(hs:starEach (e :: es) X.env=(false,eval e X.env) :: starEach es X.env:=by rfl):PA X (e :: es) (jf te t):=by
 intro pos pins s σ H Q I h
 rw[hs]
 show wpAny _ _ (spliced ((false,eval e X.env) :: backTo pos (starEach es X.env))) _ _ s
 refine Calls.spliced_cons (ax (ha pins s σ H _ I h) λu s1 ⟨x,H1,I1,r1,q1⟩=>?_)
 exact ax (hr pos pins s1 σ H1 _ I1 q1) λus s2 ⟨xs,H2,I2,r2,q2⟩=>⟨x :: xs,H2,I2,.cons r1 r2,q2⟩
end
abbrev Sp:=List V->Hp->VK->XK->Prop
abbrev fR:=List Env->Hp->Shared->XK->Value->Shared->Prop
structure iB (P:Program) (w:World) (K:W.Frag) (mg:Str->Option Value) (base:Heap) (A:Around) (outer:List Env) (s:Shared) (H:Hp):Prop where
 frames:A.frames=some outer
 mod:Mod K mg base
 bs : ∀ b o,base.get? b=some o->s.heap.get? b=some o/\H b=none
 bsz:base.objs.size<=s.heap.objs.size
 funs:s.heap.FunFrames base outer
 frf : ∀ b∈cW outer,H b=none
 hok:bw P w H s.heap
 bare:AllBare s.gens
def CE(outer:List Env)(P:Program)(w:World)(H:Hp)(s:Shared)(Q:VK)(u:Value)(s':Shared):Prop :=
 ∃ v H',s'.os=s.os/\AllBare s'.gens/\Un (cW outer) [] H H' s.heap s'.heap/\bw P w H' s'.heap/\aR v u/\Q v H'
def CR(CX:fR)(outer:List Env)(P:Program)(w:World)(H:Hp)(s:Shared)(Q:VK)(E:XK)(r:Result)(s':Shared):Prop :=
 match r with
 | .ok (.ret u)=>CE outer P w H s Q u s'
 | .ok _=>False
 | .error e=>CX outer H s E e s'
structure bv (P:Program) (w:World) (K:W.Frag) (mg:Str->Option Value) (base:Heap) (CX:fR) (k:Nat) (f:Addr) (fd:FuncData) (ps:List Str) (sp:Sp):Prop where
 len : ∀ vs H Q E,sp vs H Q E->vs.length=ps.length
 run : ∀ (A:Around) (outer:List Env) (s:Shared) (H:Hp) (args:Args) (us:List Value) (vs:List V) (Q:VK) (E:XK),bM k A->iB P w K mg base A outer s H->BindsTo s fd args (ps.zip us)->aI vs us->sp vs H Q E ->
  codeAny (model P w) A (.call (.ref f) args) (CR CX outer P w H s Q E) s
theorem iB.make{P:Program}{w:World}{K:W.Frag}{mg:Str->Option Value}{base:Heap}{A:Around}{outer:List Env}{s:Shared}{H:Hp}(e:iB P w K mg base A outer s H)(C:Addr)(us:List Value)(kw:List (Str × Value)) :
 iB P w K mg base (A.under (.builtin "type.__call__" ⟨.ref C :: us,kw⟩)) outer s H:=⟨by first | exact e.frames | (simpa [Around.under,Code.envs,Code.isFrame,pushEnvs] using e.frames),e.mod,e.bs,e.bsz,e.funs,e.frf,e.hok,e.bare⟩
section
variable {X:Cx}{pins:List (Addr × Obj)}{σ:St}{H:Hp}{s s':Shared}
theorem ae.env0(I:ae X pins σ H s):iB X.prog X.w X.K X.mg X.base X.A X.stack s H :=
 ⟨I.ok.frames,I.ok.mod,I.bs,Nat.le_trans I.ok.bsz I.sz,I.stack,I.stkFree,I.hok,I.bare⟩
theorem ae.after{Q:VK}{u:Value}(I:ae X pins σ H s)(h:CE X.stack X.prog X.w H s Q u s'):EP X pins σ Q u s':=by
 obtain⟨v,H',os,bare,un,hok,r,q⟩:=h
 obtain⟨hh,g,d,t,os'⟩:=s'
 obtain rfl:os'=s.os:=os
 exact⟨v,H',I.call (h':=hh) (g':=g) (d':=d) (t':=t) (ch:=[]) un hok bare (λb z=>absurd z (by simp)),r,q⟩
end
def lQ(sp:Sp)(dvs:List V)(E:XK)(t:TA):TE:=λσ H Q=>t σ H λvs H1=>sp (vs++dvs) H1 Q E
def lP(C:Addr)(m:Str)(sp:Sp)(dvs:List V)(E:XK)(ta:TE)(t:TA):TE:=λσ H Q=>ta σ H λx H1=>∃ a dx fs,x=.ref a/\H1 a=some (.ins C dx fs)/\fs.lookup m=none /\
 t σ H1 λvs H2=>sp (x :: (vs++dvs)) H2 Q E
def zl(C:Addr)(sp:Sp)(dvs:List V)(E:XK)(t:TA):TE:=λσ H Q=>t σ H λvs H1=>∀ x dx,H1 x=none->H1 dx=none->dx≠x ->
 sp (.ref x :: (vs++dvs)) (upd (upd H1 dx (.own x)) x (.ins C dx [])) (λv H2=>v=.non/\Q (.ref x) H2) E
def ao(K:W.Frag)(fd:FuncData)(ps:List Str)(ds:List Value):Prop :=
 ∀ (s:Shared) (us:List Value),K.In s.heap->(us++ds).length=ps.length->BindsTo s fd ⟨us,[]⟩ (ps.zip (us++ds))
theorem ao.all{K:W.Frag}{fd:FuncData}{ps:List Str}(h : ∀ us:List Value,us.length=ps.length->bindArgs fd ⟨us,[]⟩=pure (ps.zip us)):ao K fd ps []:=λs us _ hl=>by
 rw[List.append_nil]at hl ⊢
 exact .of_eq (h us hl)
def iz(CX:fR)(X:Cx)(E:XK):Prop:=∀ (pins:List (Addr × Obj)) (σ:St) (H:Hp) (s:Shared) (e:Value) (s':Shared),ae X pins σ H s->CX X.stack H s E e s'->X.xe e s'
section
variable {X:Cx}{CX:fR}{k:Nat}{f C:Addr}{fd:FuncData}{ps:List Str}{sp:Sp}{dvs:List V}{ds:List Value}{E:XK}{x m:Str}{p pos apos:Pos}{e o:Expr}{es:List Expr}{ta:TE}{t:TA}
theorem nR{pins:List (Addr × Obj)}{σ:St}{H:Hp}{s:Shared}{Q:VK}{us:List Value}{vs:List V}(F:bv X.prog X.w X.K X.mg X.base CX k f fd ps sp)(hr:bM k X.A)(hb:ao X.K fd ps ds)(hd:aI dvs ds)(hx:iz CX X E)
 (I:ae X pins σ H s) (r:aI vs us) (h:sp (vs++dvs) H Q E):wpAny (model X.prog X.w) X.A (call (.ref f) us) (EP X pins σ Q) X.xe s:=by
 have r2:aI (vs++dvs) (us++ds):=r.append hd
 have hl:(us++ds).length=ps.length:=by rw[<- r2.length]; exact F.len _ _ _ _ h
 refine wpAny_call (codeAny_mono (F.run X.A X.stack s H ⟨us,[]⟩ (us++ds) (vs++dvs) Q E hr I.env0 (hb s us I.kIn hl) r2 h) λr s' hq=>?_)
 cases r with
 | error e=>exact hx pins σ H s e s' I hq
 | ok fl =>
  cases fl with
  | ret u=>exact I.after hq
  | next=>exact False.elim hq
  | brk=>exact False.elim hq
  | cont=>exact False.elim hq
theorem Jo(F:bv X.prog X.w X.K X.mg X.base CX k f fd ps sp)(hr:bM k X.A)(hg:Gl X x)(hm:X.mg x=some (.ref f))(hk:W.keepIn X.K (.ref f)=true)(hb:ao X.K fd ps ds)(hd:aI dvs ds)(hx:iz CX X E)
 (ha:PA X (e :: es) t) (hdb:(x == ("__debug__" : Str))=false:=by decide) (he:starEach (e :: es) X.env=(false,eval e X.env) :: starEach es X.env:=by rfl) (hpl:(backTo pos (starEach es X.env)).any (·.1)=false:=by rfl) :
 PE X (.Call (.Name x p) (e :: es) [] pos) (lQ sp dvs E t):=by
 intro pins s σ H Q I h
 refine wpAny_Call_Name_kw (mm I hg hm ?_ hdb)
 refine W.callWith_K (h₀:=X.base) I.ok.mod.kin hk (ax (ha pos pins s σ H _ I h) λus s1 ⟨vs,H1,I1,r,q⟩=>⟨I1.kIn,?_⟩) he hpl
 exact nR F hr hb hd hx I1 r q
theorem AS{pl:Sem Bool}(he:PE X o ta)(c:cA X.K C)(hm:be X.K C m f)(F:bv X.prog X.w X.K X.mg X.base CX k f fd ps sp)(hr:bM k X.A)(hb:ao X.K fd ps ds)(hd:aI dvs ds)(hx:iz CX X E)(ha:PA X (e :: es) t)
 (hst:starEach (e :: es) X.env=(false,eval e X.env) :: starEach es X.env:=by rfl) (hpl:(backTo pos (starEach es X.env)).any (·.1)=false:=by rfl)
 (ht:eval (.Call (.Attribute o m apos) (e :: es) [] pos) X.env=(do
   let ov <- eval o X.env
   standAt apos.atName
   let (f,first) <- holding [ov] (getMethod ov m pl)
   callWith pos f first (backTo pos (starEach (e :: es) X.env)) (backToKw pos (keywordEach [] X.env))):=by rfl) :
 PE X (.Call (.Attribute o m apos) (e :: es) [] pos) (lP C m sp dvs E ta t):=by
 intro pins s σ H Q I h
 refine W.methodCall_KW (pl:=pl) (ax (he pins s σ H _ I h) λu s1 ⟨x,H1,I1,rx,a,dx,fs,ex,ea,l,q⟩=>?_) ht
 subst ex
 obtain rfl:u=Value.ref a:=rx
 refine Cj I1 ea c hm l ?_
 refine W.callWith_K (first:=[.ref a]) (h₀:=X.base) I.ok.mod.kin hm.kp (ax (ha pos pins s1 σ H1 _ I1 q) λus s2 ⟨vs,H2,I2,r,q2⟩=>⟨I2.kIn,?_⟩) hst hpl
 exact nR (us:=.ref a :: us) (vs:=.ref a :: vs) F hr hb hd hx I2 (.cons rfl r) q2
theorem Ja{pl:Sem Bool}(he:PE X o ta)(c:cA X.K C)(hm:be X.K C m f)(F:bv X.prog X.w X.K X.mg X.base CX k f fd ps sp)(hr:bM k X.A)(hb:ao X.K fd ps ds)(hd:aI dvs ds)(hx:iz CX X E)
 (ht:eval (.Call (.Attribute o m apos) [] [] pos) X.env=(do
   let ov <- eval o X.env
   standAt apos.atName
   let (f,first) <- holding [ov] (getMethod ov m pl)
   callWith pos f first (backTo pos (starEach [] X.env)) (backToKw pos (keywordEach [] X.env))):=by rfl) :
 PE X (.Call (.Attribute o m apos) [] [] pos) (lP C m sp dvs E ta iD):=by
 intro pins s σ H Q I h
 refine W.methodCall_KW (pl:=pl) (ax (he pins s σ H _ I h) λu s1 ⟨x,H1,I1,rx,a,dx,fs,ex,ea,l,q⟩=>?_) ht
 subst ex
 obtain rfl:u=Value.ref a:=rx
 refine Cj I1 ea c hm l ?_
 exact W.callWith_K0 (first:=[.ref a]) I1.kIn hm.kp (nR (us:=[.ref a]) (vs:=[.ref a]) F hr hb hd hx I1 (.cons rfl .nil) q)
structure Mk (K:W.Frag) (C f:Addr):Prop where
 makes:W.makesIn K C=true
 init:W.findIn K (.ref C) "__init__" = some (some (.ref f))
 fn:W.isFn K (.ref f)=true
 kp:W.keepIn K (.ref C)=true
theorem Hs{pins:List (Addr × Obj)}{σ:St}{H:Hp}{s:Shared}{Q:VK}{us:List Value}{vs:List V}(M:Mk X.K C f)(F:bv X.prog X.w X.K X.mg X.base CX k f fd ps sp)(hr:bM (k+1) X.A)(hb:ao X.K fd ps ds)(hd:aI dvs ds)
 (hx:iz CX X E) (I:ae X pins σ H s) (r:aI vs us)
 (h : ∀ x dx,H x=none->H dx=none->dx≠x->sp (.ref x :: (vs++dvs)) (upd (upd H dx (.own x)) x (.ins C dx [])) (λv H2=>v=.non/\Q (.ref x) H2) E) :
 wpAny (model X.prog X.w) X.A (call (.ref C) us) (EP X pins σ Q) X.xe s:=by
 have hq:=h (s.heap.objs.size+1) s.heap.objs.size (I.hok.fresh (Nat.le_succ _)) (I.hok.fresh (Nat.le_refl _)) (Nat.ne_of_lt (Nat.lt_succ_self _))
 have I2:=ae.made (C:=C) I
 have r2:aI (V.ref (s.heap.objs.size+1) :: (vs++dvs)) (Value.ref (s.heap.objs.size+1) :: (us++ds)):=.cons rfl (r.append hd)
 have hl:(Value.ref (s.heap.objs.size+1) :: us++ds).length=ps.length:=by
  have e:=r2.length
  rw[F.len _ _ _ _ hq]at e
  exact e.symm
 refine wpAny_call (K9 (f:=f) I.kIn M.makes M.init (beq_iff_eq.mp M.fn) (codeAny_mono (F.run _ X.stack _ _ ⟨Value.ref (s.heap.objs.size+1) :: us,[]⟩ (Value.ref (s.heap.objs.size+1) :: (us++ds)) _ _ E (hr.make C us [])
  (I2.env0.make C us []) (hb _ (Value.ref (s.heap.objs.size+1) :: us) I2.kIn hl) r2 hq) λr s' hq'=>?_))
 cases r with
 | error e=>exact hx pins σ _ _ e s' I2 hq'
 | ok fl =>
  cases fl with
  | ret u =>
   obtain⟨v,H',I3,rv,ev,q3⟩:=I2.after hq'
   subst ev
   exact⟨rv,⟨V.ref (s.heap.objs.size+1),H',I3,rfl,q3⟩⟩
  | next=>exact False.elim hq'
  | brk=>exact False.elim hq'
  | cont=>exact False.elim hq'
theorem Jb(M:Mk X.K C f)(F:bv X.prog X.w X.K X.mg X.base CX k f fd ps sp)(hr:bM (k+1) X.A)(hg:Gl X x)(hm:X.mg x=some (.ref C))(hb:ao X.K fd ps ds)(hd:aI dvs ds)(hx:iz CX X E)
 (ha:PA X (e :: es) t) (hdb:(x == ("__debug__" : Str))=false:=by decide) (he:starEach (e :: es) X.env=(false,eval e X.env) :: starEach es X.env:=by rfl) (hpl:(backTo pos (starEach es X.env)).any (·.1)=false:=by rfl) :
 PE X (.Call (.Name x p) (e :: es) [] pos) (zl C sp dvs E t):=by
 intro pins s σ H Q I h
 refine wpAny_Call_Name_kw (mm I hg hm ?_ hdb)
 refine W.callWith_K (h₀:=X.base) I.ok.mod.kin M.kp (ax (ha pos pins s σ H _ I h) λus s1 ⟨vs,H1,I1,r,q⟩=>⟨I1.kIn,?_⟩) he hpl
 exact Hs M F hr hb hd hx I1 r q
end
section
variable {X:Cx}{CX:fR}{k:Nat}{f C:Addr}{fd:FuncData}{ps ks:List Str}{sp:Sp}{E:XK}{x m:Str}{p pos apos kpos:Pos}{e o:Expr}{es:List Expr}{kws:List Keyword}{te ta:TE}{t tk:TA}{nm:Option Str}
structure SL (K:W.Frag) (fd:FuncData) (ps ks:List Str) (g:List Value->List Value->List Value) (gV:List V->List V->List V):Prop where
 to : ∀ (s:Shared) (us ws:List Value),K.In s.heap->(g us ws).length=ps.length->BindsTo s fd ⟨us,ks.zip ws⟩ (ps.zip (g us ws))
 rel : ∀ {vs:List V} {us:List Value} {zs:List V} {ws:List Value},aI vs us->aI zs ws->aI (gV vs zs) (g us ws)
variable {g:List Value->List Value->List Value}{gV:List V->List V->List V}
end
structure aB (N P:List Str) (sc:Scope):Prop where
 kind:sc.kind=.function
 co:sc.isCoroutine=false
 gen:sc.isGenerator=false
 nd:N.Nodup
 pre:N.take P.length=P
 par : ∀ x∈P,sc.names.lookup x=some .local\/sc.names.lookup x=some .cell
 nofree : ∀ y∈sc.names,y.2 ≠ .free
theorem Dj{kindOf:Str->Option NameKind}{x:Str} : ∀ {binds:List (Str × Value)} {m:Str->Option Value},(∀ v,(x,v)∉binds)->bindL kindOf binds m x=m x
 | [],_,_=>rfl
 | (n,v) :: r,m,h=>by
  unfold bindL
  rw[Dj λw hw=>h w (List.mem_cons_of_mem _ hw)]
  split
  ·have:x≠n:=by rintro rfl; exact h v List.mem_cons_self
   simp[this]
  ·rfl
theorem Dl{kindOf:Str->Option NameKind}{x:Str} : ∀ {binds:List (Str × Value)} {m:Str->Option Value},(∀ v,(x,v)∉binds)->bindC kindOf binds m x=m x
 | [],_,_=>rfl
 | (n,v) :: r,m,h=>by
  unfold bindC
  rw[Dl λw hw=>h w (List.mem_cons_of_mem _ hw)]
  split
  ·rfl
  ·have:x≠n:=by rintro rfl; exact h v List.mem_cons_self
   simp[this]
theorem Dk{kindOf:Str->Option NameKind}{x:Str}{v:Value} : ∀ {P:List Str} {vs:List Value} {i:Nat} {m:Str->Option Value},P.Nodup->P[i]? = some x->vs[i]? = some v->kindOf x=some .local ->
 bindL kindOf (P.zip vs) m x=some v
 | [],_,_,_,_,h,_,_=>by simp at h
 | _ :: _,[],_,_,_,_,h,_=>by simp at h
 | p :: P,w :: vs,0,m,nd,h1,h2,hk=>by
  simp at h1 h2; subst h1; subst h2
  show bindL kindOf ((p,w) :: P.zip vs) m p=_
  unfold bindL
  rw[Dj λv hv=>(List.nodup_cons.mp nd).1 (List.of_mem_zip hv).1,if_pos hk]
  simp
 | p :: P,w :: vs,i+1,m,nd,h1,h2,hk=>by
  show bindL kindOf ((p,w) :: P.zip vs) m x=_
  unfold bindL
  exact Dk (i:=i) (List.nodup_cons.mp nd).2 (by simpa using h1) (by simpa using h2) hk
theorem Dn{kindOf:Str->Option NameKind}{x:Str}{v:Value} : ∀ {P:List Str} {vs:List Value} {i:Nat} {m:Str->Option Value},P.Nodup->P[i]? = some x->vs[i]? = some v->kindOf x≠some .local ->
 bindC kindOf (P.zip vs) m x=some v
 | [],_,_,_,_,h,_,_=>by simp at h
 | _ :: _,[],_,_,_,_,h,_=>by simp at h
 | p :: P,w :: vs,0,m,nd,h1,h2,hk=>by
  simp at h1 h2; subst h1; subst h2
  show bindC kindOf ((p,w) :: P.zip vs) m p=_
  unfold bindC
  rw[Dl λv hv=>(List.nodup_cons.mp nd).1 (List.of_mem_zip hv).1,if_neg hk]
  simp
 | p :: P,w :: vs,i+1,m,nd,h1,h2,hk=>by
  show bindC kindOf ((p,w) :: P.zip vs) m x=_
  unfold bindC
  exact Dn (i:=i) (List.nodup_cons.mp nd).2 (by simpa using h1) (by simpa using h2) hk
def gj(N:List Str)(vs:List V):St:=vs.map some++List.replicate (N.length - vs.length) none
def ip(CX:fR)(P:Program)(w:World)(K:W.Frag)(mg:Str->Option Value)(base:Heap)(N:List Str)(qual:Str)(scope:Scope)(f:Addr)(cd:Value)(A:Around)(outer:List Env)(s:Shared)(H:Hp)(E:XK):Cx where
 prog:=P
 w:=w
 K:=K
 mg:=mg
 base:=base
 A:=A.deeper (envOfC qual scope s.heap.objs.size f cd)
 N:=N
 s₀:=s
 H₀:=H
 env:=envOfC qual scope s.heap.objs.size f cd
 outer:=outer
 stack:=envOfC qual scope s.heap.objs.size f cd :: outer
 ex:=[]
 calm:=true
 fn:=λ_=>true
 pn:=[]
 xe:=λe s'=>wpAny (model P w) (A.deeper (envOfC qual scope s.heap.objs.size f cd)) (leaving (envOfC qual scope s.heap.objs.size f cd) e) (λ_ s''=>CX outer H s E e s'') (λe' s''=>CX outer H s E e' s'') s'
theorem C6{sc:Scope}{n:Nat}{x:Str}(h:sc.names.lookup x=some .cell) : ∃ c,(cellsFrom n sc.names []).lookup x=some c:=by
 have q:=W.cellsFrom_some sc.names n [] (.inl h)
 exact Option.isSome_iff_exists.mp q
theorem LL{CX:fR}{P:Program}{w:World}{K:W.Frag}{mg:Str->Option Value}{base:Heap}{N ps:List Str}{qual:Str}{scope:Scope}{f:Addr}{cd:Value}{A:Around}{outer:List Env}{s s1:Shared}{H:Hp}{E:XK}{us:List Value}{vs:List V}
 (S:aB N ps scope) (hd:A.handled=none) (e0:iB P w K mg base A outer s H) (hl:vs.length=ps.length) (r:aI vs us)
 (x:InCallC s s.heap.objs.size (bindL (envOfC qual scope s.heap.objs.size f cd).kindOf (ps.zip us) λ_=>none) (cellsFrom (s.heap.objs.size+1) scope.names []) (bindC (envOfC qual scope s.heap.objs.size f cd).kindOf (ps.zip us) λ_=>none) s1) :
 ae (ip CX P w K mg base N qual scope f cd A outer s H E) [] (gj N vs) H s1:=by
 have hpl:ps.length<=N.length:=by have:=congrArg List.length S.pre; rw[List.length_take]at this; omega
 obtain⟨h1,tk,rfl,hk⟩:=x.done
 have noA : ∀ b:Addr,b∉(ip CX P w K mg base N qual scope f cd A outer s H E).ex:=λb z=>absurd (show b∈([]:List Addr) from z) (by simp)
 refine⟨⟨e0.mod,S.kind,rfl,rfl,Nat.le_refl _,λy z c h1 h2=>?_,λy hy=>?_,λy c _ h=>?_,λ_=>hd,Around.frames_deeper e0.frames,.inr ⟨rfl,rfl⟩,λb z=>absurd z (noA b),e0.bs,e0.bsz,λb _ _=>noA b,λb z=>absurd z (noA b),e0.funs,e0.frf⟩,
  rfl,e0.bare,Un.kept hk,⟨_,x.toInCall.ns,λi y v h1 h2 h3=>?_⟩,λy c h=>⟨_,x.cell y c h⟩,e0.hok.fresh (Nat.le_refl _),λy c h=>?_,λp hp=>absurd (show p∈([]:List (Addr × Obj)) from hp) (by simp),e0.hok.kept hk,?_⟩
 ·exact name_of_addr x.apart (PySem.mem_of_lookup h1) (PySem.mem_of_lookup h2)
 ·have hy:scope.names.lookup y=some .cell\/scope.names.lookup y=some .free:=hy
  rcases hy with hy | hy
  ·exact C6 hy
  ·exact absurd rfl (S.nofree _ (PySem.mem_of_lookup hy))
 ·exact Nat.le_of_lt (x.above y c (PySem.mem_of_lookup h))
 ·have hi:i < vs.length:=by
   unfold gj at h2
   by_cases hi:i < vs.length
   ·exact hi
   ·rw[List.getElem?_append_right (by simpa using hi)]at h2
    rw[List.getElem?_replicate]at h2
    split at h2 <;> cases h2
  have ha:vs[i]? = some v:=by
   unfold gj at h2
   rw[List.getElem?_append_left (by simpa using hi),List.getElem?_map]at h2
   cases e:vs[i]? with
   | none=>rw[e]at h2; cases h2
   | some a=>rw[e]at h2; cases h2; rfl
  obtain⟨u,hu,rv⟩:=r.get ha
  have hp:ps[i]? = some y:=by
   rw[<- S.pre,List.getElem?_take_of_lt (by omega)]; exact h1
  have ndP:ps.Nodup:=by rw[<- S.pre]; exact S.nd.sublist (List.take_sublist _ _)
  refine⟨u,rv,?_⟩
  rcases S.par y (List.mem_of_getElem? hp) with k | k
  ·exact .inl ⟨k,Dk ndP hp hu k⟩
  ·obtain⟨c,e⟩:=C6 (n:=s.heap.objs.size+1) k
   refine .inr ⟨.inl k,c,e,?_⟩
   have q:=x.cell y c e
   rw[Dn ndP hp hu (by show scope.names.lookup y≠_; rw[k]; decide)]at q
   exact q
 ·exact e0.hok.fresh (Nat.le_of_lt (x.above y c (PySem.mem_of_lookup h)))
 ·unfold gj
  show _=N.length
  rw[List.length_append,List.length_map,List.length_replicate]
  omega
theorem CF{CX:fR}{P:Program}{w:World}{K:W.Frag}{mg:Str->Option Value}{base:Heap}{k:Nat}{f:Addr}{name qual:Str}{params:Arguments}{body:List Stmt}{scope:Scope}{dV kV doc pm cdv ct oc:Value}{an od:Option Addr}
 {osl:Array (Option Value)} {N ps:List Str} {sp:Sp} (lk:K.lookup f=some ⟨oc,od,.func (W.fnOf name qual params body scope dV kV doc pm an cdv ct),osl⟩) (hcd:W.codeIn K cdv qual=true) (S:aB N ps scope)
 (len : ∀ vs H Q E,sp vs H Q E->vs.length=ps.length)
 (hbody : ∀ (A:Around) (outer:List Env) (s:Shared) (H:Hp) (vs:List V) (Q:VK) (E:XK),bM k (A.deeper (envOfC qual scope s.heap.objs.size f cdv))->sp vs H Q E ->
   ∃ t,eZ (ip CX P w K mg base N qual scope f cdv A outer s H E) body t/\t { nx:=λ_ H'=>Q .non H',rt:=Q } (gj N vs) H) :
 bv P w K mg base CX (k+1) f (W.fnOf name qual params body scope dV kV doc pm an cdv ct) ps sp:=by
 refine⟨len,λA outer s H args us vs Q E hr e0 hb r hsp=>?_⟩
 have hl:=len _ _ _ _ hsp
 have KX:K.In s.heap:=e0.mod.kin.keeps λb o e=>(e0.bs b o e).1
 have lim:s.heap.NoLimit:=e0.mod.nolimit.keeps λb o e=>(e0.bs b o e).1
 have hkind : ∀ y∈ps.zip us,scope.names.lookup y.1=some .local\/(scope.names.lookup y.1=some .cell/\((cellsFrom (s.heap.objs.size+1) scope.names []).lookup y.1).isSome=true):=λ⟨n,v⟩ hy=>by
  rcases S.par n (List.of_mem_zip hy).1 with q | q
  ·exact .inl q
  ·exact .inr ⟨q,W.cellsFrom_some _ _ _ (.inl q)⟩
 refine codeAny_call_function hr.depth (KX _ _ lk) rfl S.co S.gen rfl (W.codeRec_of KX hcd) (hb _ _ _ _ ?_)
 refine wpAny_newFunctionEnv_cells S.kind hkind λenv he s1 x=>?_
 subst he
 refine⟨lim.keeps x.toInCall.keep,codeAny_func ?_⟩
 obtain⟨t,ht,hq⟩:=hbody A outer s H vs Q E (hr.deeper _) hsp
 have I:ae (ip CX P w K mg base N qual scope f cdv A outer s H E) [] (gj N vs) H s1:=LL S hr.hd e0 hl r x
 refine wpAny_mono (ht [] s1 (gj N vs) H _ I hq) (λfl s' hs=>?_) λe s' hs=>hs
 have fin : ∀ {σ':St} {H':Hp} {v:V} {u:Value},ae (ip CX P w K mg base N qual scope f cdv A outer s H E) [] σ' H' s'->aR v u->Q v H'->CE outer P w H s Q u s' :=
  λ{σ' H' v u} J rv q=>⟨v,H',J.os,J.bare,J.base,J.hok,rv,q⟩
 cases fl with
 | ret u =>
  obtain⟨v,σ',H',J,rv,q⟩:=hs
  exact fin J rv q
 | next =>
  obtain⟨σ',H',J,q⟩:=hs
  exact fin (v:=V.non) (u:=Value.none) J rfl q
 | brk =>
  obtain⟨_,_,_,q⟩:=hs
  exact False.elim q
 | cont =>
  obtain⟨_,_,_,q⟩:=hs
  exact False.elim q
section
variable {X:Cx}{x:Str}{p pos:Pos}{e:Expr}{es:List Expr}{t:TA}{id T:String}{r:List V->Hp->VK->Prop}
def jg(r:List V->Hp->VK->Prop)(t:TA):TE:=λσ H Q=>t σ H λvs H1=>r vs H1 Q
theorem Jn (hc:cL X (.builtin id) r) (hg:Gl X x) (hm:X.mg x=none) (hv:bootBuiltins x=some (.builtin id)) (ha:PA X (e :: es) t) (hn:x ≠ "__name__":=by decide) (hdb:(x == ("__debug__" : Str))=false:=by decide)
 (he:starEach (e :: es) X.env=(false,eval e X.env) :: starEach es X.env:=by rfl) (hpl:(backTo pos (starEach es X.env)).any (·.1)=false:=by rfl):PE X (.Call (.Name x p) (e :: es) [] pos) (jg r t):=by
 intro pins s σ H Q I h
 refine wpAny_Call_Name_kw (gv I hg hm hv ?_ hn hdb)
 exact PyProof.Rows.callWith_builtin1 (ax (ha pos pins s σ H _ I h) λus s1 ⟨vs,H1,I1,r1,q1⟩=>hc pins s1 σ H1 vs us Q I1 r1 q1) he hpl
theorem Jm (hc:cL X (.type T) r) (hg:Gl X x) (hm:X.mg x=none) (hv:bootBuiltins x=some (.type T)) (ha:PA X (e :: es) t) (hn:x ≠ "__name__":=by decide) (hdb:(x == ("__debug__" : Str))=false:=by decide)
 (he:starEach (e :: es) X.env=(false,eval e X.env) :: starEach es X.env:=by rfl) (hpl:(backTo pos (starEach es X.env)).any (·.1)=false:=by rfl):PE X (.Call (.Name x p) (e :: es) [] pos) (jg r t):=by
 intro pins s σ H Q I h
 refine wpAny_Call_Name_kw (gv I hg hm hv ?_ hn hdb)
 exact PyProof.Rows.callWith_type1 (ax (ha pos pins s σ H _ I h) λus s1 ⟨vs,H1,I1,r1,q1⟩=>hc pins s1 σ H1 vs us Q I1 r1 q1) he hpl
end
section
variable {κ:Type}[DecidableEq κ]
def bj(kvs:List (κ × V))(k:κ):Option V:=(kvs.find? λkv=>decide (kv.1=k)).map (·.2)
def cn(kvs:List (κ × V))(k:κ)(v:V):List (κ × V) :=
 if (kvs.any λkv=>decide (kv.1=k))=true then kvs.map (λkv=>if kv.1=k then (kv.1,v) else kv) else kvs++[(k,v)]
theorem fS{p:κ × V}{r:List (κ × V)}{k:κ}(e:p.1=k):bj (p :: r) k=some p.2:=by simp[bj,List.find?_cons,e]
theorem fU{p:κ × V}{r:List (κ × V)}{k:κ}(e : ¬ p.1=k):bj (p :: r) k=bj r k:=by simp[bj,List.find?_cons,e]
theorem lN(k:κ) : ∀ kvs:List (κ × V),(kvs.any λkv=>decide (kv.1=k))=(bj kvs k).isSome
 | []=>rfl
 | p :: r=>by
  rw[List.any_cons]
  by_cases e:p.1=k
  ·simp only [fS e,decide_eq_true e,Bool.true_or,Option.isSome_some]
  ·rw[fU e,decide_eq_false e,Bool.false_or]; exact lN k r
theorem yY(k j:κ)(y:V) : ∀ kvs:List (κ × V),bj (kvs.map λkv=>if kv.1=k then (kv.1,y) else kv) j=(bj kvs j).map λx=>if j=k then y else x
 | []=>rfl
 | p :: r=>by
  have ih:=yY k j y r
  rw[List.map_cons]
  by_cases h:p.1=k
  ·rw[if_pos h]
   by_cases e:p.1=j
   ·rw[fS (p:=(p.1,y)) e,fS e,Option.map_some,if_pos (e.symm.trans h)]
   ·rw[fU (p:=(p.1,y)) e,fU e,ih]
  ·rw[if_neg h]
   by_cases e:p.1=j
   ·rw[fS (p:=p) e,fS e,Option.map_some,if_neg (λz=>h (e.trans z))]
   ·rw[fU (p:=p) e,fU e,ih]
theorem yX(k j:κ)(y:V) : ∀ kvs:List (κ × V),bj kvs k=none->bj (kvs++[(k,y)]) j=if j=k then some y else bj kvs j
 | [],_=>by
  by_cases e:k=j
  ·rw[if_pos e.symm]; exact fS (p:=(k,y)) e
  ·rw[if_neg (λz=>e z.symm)]; exact fU (p:=(k,y)) e
 | p :: r,hn=>by
  rw[List.cons_append]
  have hk : ¬ p.1=k:=λz=>by rw[fS z]at hn; cases hn
  rw[fU hk]at hn
  have ih:=yX k j y r hn
  by_cases e:p.1=j
  ·rw[fS e,fS e,if_neg (λz=>hk (e.trans z))]
  ·rw[fU e,fU e,ih]
theorem gh(kvs:List (κ × V))(k j:κ)(y:V):bj (cn kvs k y) j=if j=k then some y else bj kvs j:=by
 unfold cn
 by_cases a:(kvs.any λkv=>decide (kv.1=k))=true
 ·rw[if_pos a,yY]
  rw[lN]at a
  by_cases e:j=k
  ·obtain⟨x,hx⟩:=Option.isSome_iff_exists.mp a
   rw[if_pos e,e,hx,Option.map_some,if_pos rfl]
  ·rw[if_neg e]
   cases bj kvs j with
   | none=>rfl
   | some x=>rw[Option.map_some,if_neg e]
 ·rw[if_neg a]
  refine yX k j y kvs ?_
  rw[lN]at a
  cases q:bj kvs k with
  | none=>rfl
  | some x=>rw[q]at a; exact (a rfl).elim
theorem ml(kvs:List (κ × V))(k:κ)(v:V):(cn kvs k v).length<=kvs.length+1:=by
 unfold cn
 split
 ·rw[List.length_map]; omega
 ·rw[List.length_append,List.length_cons,List.length_nil]; omega
theorem Ie{kvs:List (κ × V)}{k:κ}(v:V)(h:bj kvs k=none):cn kvs k v=kvs++[(k,v)]:=by
 unfold cn
 rw[lN,h]
 exact if_neg (by decide)
theorem dB.isSome_eq{o:Option V}{u:Option Value}(r:dB o u):o.isSome=u.isSome:=by
 cases o with
 | none=>cases u with
  | none=>rfl
  | some _=>exact (show False from r).elim
 | some _=>cases u with
  | none=>exact (show False from r).elim
  | some _=>rfl
theorem dB.getD{o:Option V}{u:Option Value}{d:V}{d':Value}(r:dB o u)(rd:aR d d'):aR (o.getD d) (u.getD d'):=by
 cases o with
 | none=>cases u with
  | none=>exact rd
  | some _=>exact (show False from r).elim
 | some _=>cases u with
  | none=>exact (show False from r).elim
  | some _=>exact r
theorem KV.val{kvs:List (κ × V)}{vs:List (κ × Value)}(r:KV kvs vs)(k:κ):dB (bj kvs k) (valueAt vs k):=by
 unfold KV at r
 induction r with
 | nil=>exact True.intro
 | @cons p q ps qs h t ih =>
  obtain⟨h1,h2⟩:=h
  by_cases e:p.1=k
  ·have e':q.1=k:=h1.symm.trans e
   have b:valueAt (q :: qs) k=some q.2:=by simp[valueAt,List.find?_cons,e']
   rw[fS e,b]; exact h2
  ·have e' : ¬ q.1=k:=λz=>e (h1.trans z)
   have b:valueAt (q :: qs) k=valueAt qs k:=by simp[valueAt,List.find?_cons,e']
   rw[fU e,b]; exact ih
theorem KV.any{kvs:List (κ × V)}{vs:List (κ × Value)}(r:KV kvs vs)(k:κ):(kvs.any λkv=>decide (kv.1=k))=vs.any λkv=>decide (kv.1=k):=by
 unfold KV at r
 induction r with
 | nil=>rfl
 | cons h t ih=>rw[List.any_cons,List.any_cons,ih,h.1]
theorem KV.repl{kvs:List (κ × V)}{vs:List (κ × Value)}(r:KV kvs vs)(k:κ){y:V}{u:Value}(ry:aR y u) :
 KV (kvs.map λkv=>if kv.1=k then (kv.1,y) else kv) (vs.map λkv=>if kv.1=k then (kv.1,u) else kv):=by
 unfold KV at r ⊢
 induction r with
 | nil=>exact .nil
 | @cons p q ps qs h t ih =>
  rw[List.map_cons,List.map_cons]
  refine .cons ?_ ih
  obtain⟨h1,h2⟩:=h
  by_cases e:p.1=k
  ·rw[if_pos e,if_pos (h1.symm.trans e)]; exact⟨h1,ry⟩
  ·rw[if_neg e,if_neg (λz=>e (h1.trans z))]; exact⟨h1,h2⟩
theorem KV.put{kvs:List (κ × V)}{vs:List (κ × Value)}(r:KV kvs vs)(k:κ){y:V}{u:Value}(ry:aR y u):KV (cn kvs k y) (stored vs k u):=by
 unfold cn stored
 rw[r.any k]
 by_cases e:(vs.any λkv=>decide (kv.1=k))=true
 ·rw[if_pos e,if_pos e]; exact r.repl k ry
 ·rw[if_neg e,if_neg e]; exact Paired.snoc r ⟨rfl,ry⟩
theorem KV.length{kvs:List (κ × V)}{vs:List (κ × Value)}(r:KV kvs vs):kvs.length=vs.length:=Paired.length r
end
theorem gT{P:Program}{w:World}{k:aP}{u:Value}(r:aR (kV k) u):(cr P w).is k u=true:=by
 cases k with
 | inl i=>obtain⟨t,e⟩:=(show ∃ t,u=Value.int i t from r); subst e; exact sC P w i t
 | inr x=>obtain⟨t,e⟩:=(show ∃ t,u=Value.str x t from r); subst e; exact Bg P w x t
theorem Bu{P:Program}{w:World} : ∀ {ks:List aP} {us:List Value},aI (ks.map kV) us->ItemsAre (cr P w) ks us
 | [],_,r=>by rw[List.map_nil]at r; cases r; exact .nil
 | k :: ks,_,r=>by
  rw[List.map_cons]at r
  cases r with
  | cons h t=>exact .cons (gT h) (Bu t)
abbrev KT(H:Hp):List (List aP × V)->List (List aP × Addr × Value)->Prop:=Paired λp q=>p.1=q.1/\H q.2.1=some (.tup (p.1.map kV))/\aR p.2 q.2.2
theorem KT.val{H:Hp}{kvs:List (List aP × V)}{xs:List (List aP × Addr × Value)}(r:KT H kvs xs)(k:List aP):dB (bj kvs k) ((atKey xs k).map (·.2)):=by
 induction r with
 | nil=>exact True.intro
 | @cons p q ps qs h t ih =>
  obtain⟨h1,_,h2⟩:=h
  by_cases e:p.1=k
  ·have e':q.1=k:=h1.symm.trans e
   have b:atKey (q :: qs) k=some q.2:=by simp[atKey,List.find?_cons,e']
   rw[fS e,b]; exact h2
  ·have e' : ¬ q.1=k:=λz=>e (h1.trans z)
   have b:atKey (q :: qs) k=atKey qs k:=by simp[atKey,List.find?_cons,e']
   rw[fU e,b]; exact ih
theorem KT.repl{H:Hp}{kvs:List (List aP × V)}{xs:List (List aP × Addr × Value)}(r:KT H kvs xs)(k:List aP){y:V}{u:Value}(ry:aR y u) :
 KT H (kvs.map λkv=>if kv.1=k then (kv.1,y) else kv) (xs.map (putAt k u)):=by
 induction r with
 | nil=>exact .nil
 | @cons p q ps qs h t ih =>
  rw[List.map_cons,List.map_cons]
  refine .cons ?_ ih
  obtain⟨h1,h2,h3⟩:=h
  unfold putAt
  by_cases e:p.1=k
  ·rw[if_pos e,if_pos (h1.symm.trans e)]; exact⟨h1,h2,ry⟩
  ·rw[if_neg e,if_neg (λz=>e (h1.trans z))]; exact⟨h1,h2,h3⟩
theorem KT.put{H:Hp}{kvs:List (List aP × V)}{xs:List (List aP × Addr × Value)}(r:KT H kvs xs)(k:List aP){b:Addr}{y:V}{u:Value}(hb:H b=some (.tup (k.map kV)))(ry:aR y u) :
 KT H (cn kvs k y) (storedH xs k b u):=by
 have e:(kvs.any λkv=>decide (kv.1=k))=(atKey xs k).isSome:=by
  rw[lN,(r.val k).isSome_eq,Option.isSome_map]
 unfold cn storedH
 rw[e]
 by_cases q:(atKey xs k).isSome=true
 ·rw[if_pos q,if_pos q]; exact r.repl k ry
 ·rw[if_neg q,if_neg q]; exact Paired.snoc r ⟨rfl,hb,ry⟩
theorem KT.keeps{H H':Hp}{kvs:List (List aP × V)}{xs:List (List aP × Addr × Value)}(r:KT H kvs xs)(ht : ∀ b ys,H b=some (.tup ys)->H' b=some (.tup ys)):KT H' kvs xs :=
 Paired.mapP r λ_ _ z=>⟨z.1,ht _ _ z.2.1,z.2.2⟩
section
variable {P:Program}{w:World}{H:Hp}{h:Heap}{a:Addr}
theorem Ay{u:HO}(ok:bw P w H h)(e:Rd H a u):bF P w H h a u:=e.ok ok
theorem i6{kvs:List (aP × V)}(ok:bw P w H h)(e:Rd H a (.dK kvs)):kvs.length<=sizeLine/\(a == sysModules)=false/\∃ vs,KV kvs vs/\h.DictOf (cr P w) a vs :=
 show bF P w H h a (.dK kvs) from Ay ok e
theorem OB{kvs:List (aP × V)}(ok:bw P w H h)(e:H a=some (.dK kvs)):kvs.length<=sizeLine/\(a == sysModules)=false/\∃ vs,KV kvs vs/\h.DictOf (cr P w) a vs:=i6 ok (.inl e)
theorem kZ{ks:List aP}(ok:bw P w H h)(e:H a=some (.tup (ks.map kV))):(tupleKind (cr P w)).is h ks a:=by
 obtain⟨_,its,r,o,h1,h2,n,h3⟩:=(show bF P w H h a (.tup (ks.map kV)) from ok a _ e)
 exact⟨o,its.toArray,n,h1,h2,h3,by simpa using Bu r⟩
theorem i5{kvs:List (List aP × V)}(ok:bw P w H h)(e:Rd H a (.dT kvs)):kvs.length<=sizeLine/\(a == sysModules)=false /\
 ∃ xs,KT H kvs xs/\h.DictOfH (tupleKind (cr P w)) a xs:=by
 obtain⟨z,y,xs,r,o,es,ep,h1,h2,h3,h4,h5⟩:=(show bF P w H h a (.dT kvs) from Ay ok e)
 refine⟨z,y,xs,r,o,es,ep,h1,h2,h3,h4,λx hx=>?_,h5⟩
 have all : ∀ {l:List (List aP × V)} {m:List (List aP × Addr × Value)},KT H l m->∀ x∈m,(tupleKind (cr P w)).is h x.1 x.2.1:=by
  intro l m q
  induction q with
  | nil=>intro x hx; exact nomatch hx
  | @cons p q ps qs hq t ih =>
   intro x hx
   rcases List.mem_cons.mp hx with e | hx
   ·subst e
    exact kZ ok (by rw[<- hq.1]; exact hq.2.1)
   ·exact ih x hx
 exact all r x hx
theorem Oy{kvs:List (List aP × V)}(ok:bw P w H h)(e:H a=some (.dT kvs)):kvs.length<=sizeLine/\(a == sysModules)=false /\
 ∃ xs,KT H kvs xs/\h.DictOfH (tupleKind (cr P w)) a xs:=i5 ok (.inl e)
end
def cK(H:Hp)(a:Addr)(y:V)(r:Option V):Prop :=
 (∃ kvs k,Rd H a (.dK kvs)/\y=kV k/\r=bj kvs k)\/∃ kvs k b,Rd H a (.dT kvs)/\y=.ref b/\H b=some (.tup (k.map kV))/\r=bj kvs k
def gF(H:Hp)(a:Addr)(y v:V)(H':Hp):Prop :=
 (∃ kvs k,H a=some (.dK kvs)/\y=kV k/\kvs.length < sizeLine/\H'=upd H a (.dK (cn kvs k v))) \/
 ∃ kvs k b,H a=some (.dT kvs)/\y=.ref b/\H b=some (.tup (k.map kV))/\kvs.length < sizeLine/\H'=upd H a (.dT (cn kvs k v))
theorem cK.k{H:Hp}{a:Addr}{kvs:List (aP × V)}{k:aP}(e:H a=some (.dK kvs)):cK H a (kV k) (bj kvs k):=.inl ⟨kvs,k,.inl e,rfl,rfl⟩
theorem cK.t{H:Hp}{a b:Addr}{kvs:List (List aP × V)}{k:List aP}(e:H a=some (.dT kvs))(eb:H b=some (.tup (k.map kV))):cK H a (.ref b) (bj kvs k):=.inr ⟨kvs,k,b,.inl e,rfl,eb,rfl⟩
theorem gF.k{H:Hp}{a:Addr}{kvs:List (aP × V)}{k:aP}{v:V}(e:H a=some (.dK kvs))(hl:kvs.length < sizeLine):gF H a (kV k) v (upd H a (.dK (cn kvs k v))):=.inl ⟨kvs,k,e,rfl,hl,rfl⟩
theorem gF.t{H:Hp}{a b:Addr}{kvs:List (List aP × V)}{k:List aP}{v:V}(e:H a=some (.dT kvs))(eb:H b=some (.tup (k.map kV)))(hl:kvs.length < sizeLine) :
 gF H a (.ref b) v (upd H a (.dT (cn kvs k v))):=.inr ⟨kvs,k,b,e,rfl,eb,hl,rfl⟩
section
variable {X:Cx}{pins:List (Addr × Obj)}{σ:St}{H:Hp}{s:Shared}{a:Addr}{y v:V}{u r:Value}{o:Option V}{A:Around}{E:Value->Shared->Prop}
theorem ae.big(I:ae X pins σ H s):sysModules < s.heap.objs.size:=by
 have h:mainGlobals < s.heap.objs.size:=(I.mod.glob.keeps I.bk).lt
 exact Nat.lt_trans (by decide) h
theorem OJ{Q:Value->Shared->Prop}(hu:A.units+1 < cLine)(I:ae X pins σ H s)(g:cK H a y (some v))(ry:aR y u)(h : ∀ w' s',ae X pins σ H s'->aR v w'->Q w' s') :
 wpAny (model X.prog X.w) A (getItem (.ref a) u) Q E s:=by
 rcases g with ⟨kvs,k,e,ey,l⟩ | ⟨kvs,k,b,e,ey,eb,l⟩
 ·subst ey
  obtain⟨z,hd,vs,rel,dd⟩:=i6 I.hok e
  obtain⟨w',hw,rw'⟩:=dB.some_of (v:=v) (o:=valueAt vs k) (by rw[l]; exact rel.val k)
  exact wpAny_getItem_of (gT ry) dd.mapOf hw (h w' _ (I.tok _) rw')
 ·subst ey
  cases (show u=Value.ref b from ry)
  obtain⟨z,hd,xs,rel,dd⟩:=i5 I.hok e
  obtain⟨w',hw,rw'⟩:=dB.some_of (v:=v) (o:=(atKey xs k).map (·.2)) (by rw[l]; exact rel.val k)
  obtain⟨p,hp,hp2⟩:=Option.map_eq_some_iff.mp hw
  refine wpAny_getItem_heap (tupleKind_room_in1 hu) (kZ I.hok eb) dd hp ?_
  rw[hp2]
  exact h w' _ (I.tok _) rw'
theorem OI{Q:Value->Shared->Prop}(hu:A.units+1 < cLine)(I:ae X pins σ H s)(g:cK H a y o)(ry:aR y u)(h : ∀ s',ae X pins σ H s'->Q (.bool o.isSome) s') :
 wpAny (model X.prog X.w) A (compareOp .In u (.ref a)) Q E s:=by
 rcases g with ⟨kvs,k,e,ey,l⟩ | ⟨kvs,k,b,e,ey,eb,l⟩
 ·subst ey
  obtain⟨z,hd,vs,rel,dd⟩:=i6 I.hok e
  refine wpAny_in_of (gT ry) hd dd.mapOf ?_
  rw[<- (rel.val k).isSome_eq,<- l]
  exact h _ (I.tok _)
 ·subst ey
  cases (show u=Value.ref b from ry)
  obtain⟨z,hd,xs,rel,dd⟩:=i5 I.hok e
  refine wpAny_in_heap (tupleKind_room_in1 hu) (kZ I.hok eb) hd dd ?_
  have q:=(rel.val k).isSome_eq
  rw[Option.isSome_map]at q
  rw[<- q,<- l]
  exact h _ (I.tok _)
theorem OH{Q:Value->Shared->Prop}(hu:A.units+1 < cLine)(I:ae X pins σ H s)(g:cK H a y o)(ry:aR y u)(h : ∀ s',ae X pins σ H s'->Q (.bool (!o.isSome)) s') :
 wpAny (model X.prog X.w) A (compareOp .NotIn u (.ref a)) Q E s:=by
 rcases g with ⟨kvs,k,e,ey,l⟩ | ⟨kvs,k,b,e,ey,eb,l⟩
 ·subst ey
  obtain⟨z,hd,vs,rel,dd⟩:=i6 I.hok e
  refine wpAny_notIn_of (gT ry) hd dd.mapOf ?_
  rw[<- (rel.val k).isSome_eq,<- l]
  exact h _ (I.tok _)
 ·subst ey
  cases (show u=Value.ref b from ry)
  obtain⟨z,hd,xs,rel,dd⟩:=i5 I.hok e
  refine wpAny_notIn_heap (tupleKind_room_in1 hu) (kZ I.hok eb) hd dd ?_
  have q:=(rel.val k).isSome_eq
  rw[Option.isSome_map]at q
  rw[<- q,<- l]
  exact h _ (I.tok _)
theorem CQ{h':Heap}{t':Nat}{ob:HO}(I:ae X pins σ H s)(mu:nk (H a))(hs:Heap.SameBut a s.heap h')(he : ∃ q,h'.get? a=some q)(new:bF X.prog X.w (upd H a ob) h' a ob) :
 ae X pins σ (upd H a ob) { s with heap:=h',toks:=t' } :=
 I.write (x:=a) (e:=a) mu (.inl rfl) (λb q hb z=>(hs.2 b hb).trans z) he new
theorem OC{P:Program}{w:World}{H':Hp}{h':Heap}{kvs:List (aP × V)}{vs:List (aP × Value)}(z:kvs.length<=sizeLine)(hd:(a == sysModules)=false)(rel:KV kvs vs)(dd:h'.DictOf (cr P w) a vs) :
 bF P w H' h' a (.dK kvs):=⟨z,hd,vs,rel,dd⟩
theorem OG{H':Hp}{Q:Unit->Shared->Prop}(hu:A.units+1 < cLine)(I:ae X pins σ H s)(g:gF H a y v H')(ry:aR y u)(rv:aR v r)(h : ∀ s',ae X pins σ H' s'->Q () s') :
 wpAny (model X.prog X.w) A (setItem (.ref a) u r) Q E s:=by
 rcases g with ⟨kvs,k,e,ey,l,eH⟩ | ⟨kvs,k,b,e,ey,eb,l,eH⟩
 ·subst ey eH
  obtain⟨z,hd,vs,rel,dd⟩:=OB I.hok e
  have hz:vs.length<=sizeLine:=by rw[<- rel.length]; exact z
  have hl:(cn kvs k v).length<=sizeLine:=by have:=ml kvs k v; omega
  refine wpAny_setItem_pairs (hsz:=hz) (gT ry) dd λh' dd' hs=>h _ ?_
  have he : ∃ q,h'.get? a=some q:=let ⟨q,_,_,hq,_⟩:=dd'; ⟨q,hq⟩
  exact CQ I (by rw[e]; exact True.intro) hs he (OC hl hd (rel.put k rv) dd')
 ·subst ey eH
  cases (show u=Value.ref b from ry)
  obtain⟨z,hd,xs,rel,dd⟩:=Oy I.hok e
  have hz:xs.length<=sizeLine:=by rw[<- Paired.length rel]; exact z
  have hl:(cn kvs k v).length<=sizeLine:=by have:=ml kvs k v; omega
  refine wpAny_setItem_heap (hsz:=hz) (tupleKind_room_in1 hu) (kZ I.hok eb) dd λh' dd' hs=>h _ ?_
  obtain⟨q,es,ep,hq,h2,h3,h4,_,h5⟩:=dd'
  refine CQ I (by rw[e]; exact True.intro) hs ⟨q,hq⟩ ⟨hl,hd,_,(rel.put k eb rv).keeps λc ys ec=>?_,q,es,ep,hq,h2,h3,h4,h5⟩
  rw[aw (J3 ec e (λz=>nomatch z))]
  exact ec
end
def rm(i:Expr):Prop:=∀ ov iv,subscripted i false ov iv=operate [ov,iv] (getItem ov iv)
theorem zy{prog:Program}{w:World}{A:Around}{E:Value->Shared->Prop}{s:Shared}{env:Env}{value slice:Expr}{pos:Pos}{T id:String}{Q:Value->Shared->Prop}
 (hl:typeLookup (.type T) "__getitem__" = pure (some (.builtin id))) (hs:rm slice)
 (h:wpAny (model prog w) A (eval value env) (λo s₁=>wpAny (model prog w) A (eval slice env) (λi s₂=>s₂.TypeIs o T/\wpAny (model prog w) A (getItem o i) Q E s₂) E s₁) E s) :
 wpAny (model prog w) A (eval (.Subscript value slice pos) env) Q E s:=by
 refine Subscript_ (wpAny_mono h (λo s₁ h₁=>wpAny_mono h₁ (λi s₂ h₂=>?_) λ_ _ x=>x) λ_ _ x=>x)
 obtain⟨hT,h₂⟩:=h₂
 unfold subscriptTail
 refine wpAny_bind ?_
 rw[getitemInPython_of_ne hT.not_modules]
 refine wpAny_bind (wpAny_specialOf hT hl ?_)
 have fin:wpAny (model prog w) A (subscripted slice false o i) (λr s₃=>wpAny (model prog w) A (letTemporaryGo value o r >>= λ_=>pure r) Q E s₃) E s₂:=by
  rw[hs o i]
  exact wpAny_operating (wpAny_mono h₂ (λr s₃ h₃=>wpAny_bind (wpAny_letTemporaryGo (wpAny_pure h₃))) λ_ _ x=>x)
 first
  | exact wpAny_pure (wpAny_bind fin)
  | exact wpAny_bind (wpAny_pure (wpAny_bind fin))
  | exact wpAny_bind fin
theorem OF {X:Cx} {pins:List (Addr × Obj)} {σ:St} {H:Hp} {s:Shared} {a:Addr} {y:V} {o:Option V} (I:ae X pins σ H s) (g:cK H a y o):s.TypeIs (.ref a) "dict":=by
 rcases g with ⟨kvs,k,e,_,_⟩ | ⟨kvs,k,b,e,_,_,_⟩
 ·obtain⟨_,_,vs,_,dd⟩:=i6 I.hok e
  exact dd.typeIs
 ·obtain⟨_,_,xs,_,dd⟩:=i5 I.hok e
  exact dd.typeIs
def zu(td ty:TE):TE:=λσ H Q=>td σ H λx H1=>ty σ H1 λy H2=>∃ a v,x=.ref a/\cK H2 a y (some v)/\Q v H2
def As(td ty tv:TE):TS:=λD σ H=>tv σ H λv H1=>td σ H1 λx H2=>ty σ H2 λy H3=>∃ a H4,x=.ref a/\gF H3 a y v H4/\D.nx σ H4
section
variable {X:Cx}{o i e value:Expr}{pos pos' tpos:Pos}{td ty tv:TE}
theorem Ji(hu:X.A.units+1 < cLine)(ho:PE X o td)(hi:PE X i ty)(hs:rm i):PE X (.Subscript o i pos) (zu td ty):=by
 intro pins s σ H Q I h
 refine zy PySem.F.slot_dict_getitem.lookup hs (ax (ho pins s σ H _ I h) λu s1 ⟨x,H1,I1,rx,q1⟩=>ax (hi pins s1 σ H1 _ I1 q1) λiv s2 ⟨y,H2,I2,ry,a,v,ex,g,q2⟩=>?_)
 subst ex
 obtain rfl:u=Value.ref a:=rx
 exact⟨OF I2 g,OJ hu I2 g ry λw' s3 I3 rw'=>⟨v,H2,I3,rw',q2⟩⟩
theorem Iz(hu:X.A.units+1 < cLine)(ho:PE X o td)(hi:PE X i ty)(hv:PE X value tv)(hs:swapsWith value (some (.Subscript o i pos')) pos.line X.env=pure false) :
 PS X (.Assign [.Subscript o i pos'] value pos) (As td ty tv):=by
 intro pins s σ H D I h
 refine wpAny_Assign_Subscript (ax (hv pins s σ H _ I h) λr s1 ⟨v,H1,I1,rv,q1⟩=>ax (ho pins s1 σ H1 _ I1 q1) λu s2 ⟨x,H2,I2,rx,q2⟩=>ax (hi pins s2 σ H2 _ I2 q2) λiv s3 ⟨y,H3,I3,ry,a,H4,ex,g,q3⟩=>?_) hs
 subst ex
 obtain rfl:u=Value.ref a:=rx
 exact OG hu I3 g ry rv λs4 I4=>⟨σ,H4,I4,q3⟩
end
theorem OD{P:Program}{w:World}{H:Hp}(h:Heap)(hb:sysModules < h.objs.size):bF P w H (h.push { cls:=.type "dict",data:=.dict #[] }) h.objs.size (.dK []) :=
 ⟨Nat.zero_le _,beq_eq_false_iff_ne.mpr (Ne.symm (Nat.ne_of_lt hb)),[],.nil,Heap.DictOf.new h⟩
theorem Oz{P:Program}{w:World}{H:Hp}(h:Heap)(hb:sysModules < h.objs.size):bF P w H (h.push { cls:=.type "dict",data:=.dict #[] }) h.objs.size (.dT []) :=
 ⟨Nat.zero_le _,beq_eq_false_iff_ne.mpr (Ne.symm (Nat.ne_of_lt hb)),[],.nil,_,#[],0,Heap.get?_push_size _ rfl,⟨rfl,rfl,rfl⟩,rfl,rfl,List.nodup_nil⟩
def E8:TE:=λ_ H Q=>∀ p,H p=none->Q (.ref p) (upd H p (.dK []))
def E7:TE:=λ_ H Q=>∀ p,H p=none->Q (.ref p) (upd H p (.dT []))
section
variable {X:Cx}{pos:Pos}
theorem Jg:PE X (.Dict [] [] pos) E8:=λpins s σ H Q I h =>
 wpAny_Dict_empty ⟨.ref s.heap.objs.size,_,I.laid (a:=s.heap.objs.size) (o:=.dK []) (t':=s.toks) (λ_ _ q=>Heap.get?_push_of_some _ q) (Nat.le_refl _) (OD s.heap I.big),rfl,h _ (I.hok.fresh (Nat.le_refl _))⟩
theorem Jf:PE X (.Dict [] [] pos) E7:=λpins s σ H Q I h =>
 wpAny_Dict_empty ⟨.ref s.heap.objs.size,_,I.laid (a:=s.heap.objs.size) (o:=.dT []) (t':=s.toks) (λ_ _ q=>Heap.get?_push_of_some _ q) (Nat.le_refl _) (Oz s.heap I.big),rfl,h _ (I.hok.fresh (Nat.le_refl _))⟩
end
structure M1 (X:Cx) (o:Expr) (m:Str) (apos:Pos) (e:Expr) (cpos:Pos):Prop where
 base:attributeBase o m X.env (eval o X.env)=eval o X.env
 few:((backTo cpos (starEach [e] X.env)).all (λx=>!x.1) && (backToKw cpos (keywordEach [] X.env)).all (λx=>x.1.isSome)
  && decide (([e]:List Expr).length+([]:List Keyword).length+(if ([]:List Keyword).isEmpty then 0 else 1) < 30))=true
 line:(apos.endLine == cpos.line)=true
 trees:backTo cpos (starEach [e] X.env)=[(false,eval e X.env)]
structure M2 (X:Cx) (o:Expr) (m:Str) (apos:Pos) (e f:Expr) (cpos:Pos):Prop where
 base:attributeBase o m X.env (eval o X.env)=eval o X.env
 few:((backTo cpos (starEach [e,f] X.env)).all (λx=>!x.1) && (backToKw cpos (keywordEach [] X.env)).all (λx=>x.1.isSome)
  && decide (([e,f]:List Expr).length+([]:List Keyword).length+(if ([]:List Keyword).isEmpty then 0 else 1) < 30))=true
 line:(apos.endLine == cpos.line)=true
 trees:backTo cpos (starEach [e,f] X.env)=[(false,eval e X.env),(false,eval f X.env)]
def Dz(H:Hp)(a:Addr):Prop:=(∃ kvs,Rd H a (.dK kvs))\/∃ kvs,Rd H a (.dT kvs)
theorem LK{X:Cx}{pins:List (Addr × Obj)}{σ:St}{H:Hp}{s:Shared}{a:Addr}(I:ae X pins σ H s)(d:Dz H a) :
 s.TypeIs (.ref a) "dict"/\(∀ b,Value.ref a=.ref b->∃ ob,s.heap.get? b=some ob/\ob.dict=none)/\(a == sysModules)=false:=by
 rcases d with ⟨kvs,e⟩ | ⟨kvs,e⟩
 ·obtain⟨_,hd,vs,_,dd⟩:=i6 I.hok e
  refine⟨dd.typeIs,λb q=>?_,hd⟩
  cases q
  obtain⟨ob,_,_,h1,h2,_⟩:=dd
  exact⟨ob,h1,h2.2.1⟩
 ·obtain⟨_,hd,xs,_,dd⟩:=i5 I.hok e
  refine⟨dd.typeIs,λb q=>?_,hd⟩
  cases q
  obtain⟨ob,_,_,h1,h2,_⟩:=dd
  exact⟨ob,h1,h2.2.1⟩
section
variable {X:Cx}{pins:List (Addr × Obj)}{σ:St}{H:Hp}{s:Shared}{a:Addr}{y d:V}{u r:Value}{o:Option V}{A:Around}{E:Value->Shared->Prop}
theorem OK{Q:Value->Shared->Prop}(hu:A.units+1 < cLine)(I:ae X pins σ H s)(g:cK H a y o)(ry:aR y u)(h : ∀ w' s',ae X pins σ H s'->aR (o.getD .non) w'->Q w' s') :
 wpAny (model X.prog X.w) A (call (.builtin "dict.get") [.ref a,u]) Q E s:=by
 rcases g with ⟨kvs,k,e,ey,l⟩ | ⟨kvs,k,b,e,ey,eb,l⟩
 ·subst ey
  obtain⟨z,hd,vs,rel,dd⟩:=i6 I.hok e
  refine call_meetsIn PySem.F.slot_dict_get dd.typeIs PySem.F.entry_dict_get (PySem.F.args_dict_get_2 _ _) (meets_dict_get (cr X.prog X.w) a (gT ry) hd) ⟨_,dd.mapOf,h _ _ (I.tok _) ?_⟩
  rw[l]
  exact (rel.val k).getD rfl
 ·subst ey
  cases (show u=Value.ref b from ry)
  obtain⟨z,hd,xs,rel,dd⟩:=i5 I.hok e
  refine call_meetsIn PySem.F.slot_dict_get dd.typeIs PySem.F.entry_dict_get (PySem.F.args_dict_get_2 _ _) (meetsH_dict_get (tupleKind (cr X.prog X.w)) a b hd) ⟨tupleKind_room_in1 hu,k,xs,kZ I.hok eb,dd,h _ _ (I.tok _) ?_⟩
  rw[l]
  exact (rel.val k).getD rfl
end
def zt(td ty:TE):TE:=λσ H Q=>td σ H λx H1=>∃ a,x=.ref a/\Dz H1 a/\ty σ H1 λy H2=>∃ o,cK H2 a y o/\Q (o.getD .non) H2
section
variable {X:Cx}{o e f:Expr}{apos cpos:Pos}{td ty tx:TE}
theorem Jh (hu:X.A.units+1 < cLine) (ho:PE X o td) (he:PE X e ty) (m:M1 X o "get" apos e cpos):PE X (.Call (.Attribute o "get" apos) [e] [] cpos) (zt td ty):=by
 intro pins s σ H Q I h
 refine wpAny_Call_method m.base m.few m.line PySem.F.plainAttrs_dict PySem.F.slot_dict_get PySem.F.type_dict_get (ax (ho pins s σ H _ I h) λu s1 ⟨x,H1,I1,rx,a,ex,d,q1⟩=>?_)
 subst ex
 obtain rfl:u=Value.ref a:=rx
 obtain⟨t1,t2,_⟩:=LK I1 d
 refine⟨t1,t2,?_⟩
 rw[m.trees]
 refine Calls.callWith_builtin rfl (Calls.evalArgs_plain (Calls.spliced_cons (ax (he pins s1 σ H1 _ I1 q1) λiv s2 ⟨y,H2,I2,ry,ov,g,q2⟩=>Calls.spliced_nil ?_)))
 exact OK hu I2 g ry λw' s3 I3 rw'=>⟨_,H2,I3,rw',q2⟩
end
end L2
namespace HT
open PySem PyProof.Rows
section
variable {prog:Program}{w:World}{A:Around}{E:Value->Shared->Prop}{s:Shared}
def sIx(n d:Nat):Option Int->Nat
 | none=>d
 | some v=>if v < 0 then (v+(n:Int)).toNat else min v.toNat n
theorem Hk(n d:Nat)(hd:d<=n)(o:Option Int):sIx n d o<=n:=by
 cases o with
 | none=>exact hd
 | some v =>
  show (if v < 0 then (v+(n:Int)).toNat else min v.toNat n)<=n
  by_cases hv:v < 0
  ·rw[if_pos hv]; omega
  ·rw[if_neg hv]; exact Nat.min_le_right _ _
theorem C5(v:Int)(n d:Nat):(if v < 0 then max (v+(n:Int)) 0 else min v (n:Int))=((sIx n d (some v):Nat):Int):=by
 show (if v < 0 then max (v+(n:Int)) 0 else min v (n:Int))=(((if v < 0 then (v+(n:Int)).toNat else min v.toNat n):Nat):Int)
 by_cases hv:v < 0
 ·simp only [if_pos hv]; omega
 ·simp only [if_neg hv]; omega
theorem Re(lo hi:Option Int)(n:Nat):Builtin.Slice.sliceAdjust lo hi 1 (n:Int)=(((sIx n 0 lo:Nat):Int),((sIx n n hi:Nat):Int)):=by
 have h1 : ¬ ((1:Int) < 0):=by omega
 unfold Builtin.Slice.sliceAdjust
 simp only [h1,if_false]
 refine Prod.ext ?_ ?_
 ·cases lo with
  | none=>rfl
  | some v=>exact C5 v n 0
 ·cases hi with
  | none=>rfl
  | some v=>exact C5 v n n
theorem IK(i j:Nat):Builtin.Slice.slicePlaces (i:Int) (j:Int) 1=j - i:=by
 unfold Builtin.Slice.slicePlaces
 have h1:(1:Int) > 0:=by omega
 simp only [h1,if_true,Int.ediv_one]
 split <;> omega
theorem zW{v:Value}{o:Option Int}{Q:Option Int->Shared->Prop}(p:IsPart v o)(h:Q o s):wpAny (model prog w) A (Builtin.Slice.slicePartIndex v) Q E s:=by
 cases p with
 | none=>exact slicePart_none h
 | int i t=>exact slicePart_int h
theorem zX{sl:Addr}{vl vu:Value}{lo hi:Option Int}{n:Nat}{Q:Int × Int × Nat->Shared->Prop}(hs:s.heap.IsSliceOf sl vl vu .none)(pl:IsPart vl lo)(pu:IsPart vu hi)
 (h:Q (((sIx n 0 lo:Nat):Int),1,sIx n n hi - sIx n 0 lo) s):wpAny (model prog w) A (Builtin.Slice.sliceApplied (.ref sl) (pure (n:Int))) Q E s:=by
 obtain⟨os,hos,hcs,hds⟩:=id hs
 unfold Builtin.Slice.sliceApplied Builtin.Slice.sliceFields
 refine wpAny_bind (wpAny_bind (wpAny_field hos hds (x:=vl) rfl (wpAny_bind (wpAny_field hos hds (x:=vu) rfl (wpAny_bind (wpAny_field hos hds (x:=.none) rfl (wpAny_pure ?_)))))))
 refine wpAny_bind (slicePart_none ?_)
 show wpAny _ _ (if ((1:Int) == 0)=true then _ else _) _ _ s
 rw[if_neg (by decide)]
 refine wpAny_bind (zW pl (wpAny_bind (zW pu (wpAny_bind (wpAny_pure ?_)))))
 show wpAny _ _ (match Builtin.Slice.sliceAdjust lo hi 1 (n:Int) with | (lo,hi)=>pure (lo,(1:Int),Builtin.Slice.slicePlaces lo hi 1)) _ _ s
 rw[Re lo hi n]
 show wpAny _ _ (pure (((sIx n 0 lo:Nat):Int),(1:Int),Builtin.Slice.slicePlaces ((sIx n 0 lo:Nat):Int) ((sIx n n hi:Nat):Int) 1)) _ _ s
 rw[IK]
 exact wpAny_pure h
theorem IL(xs:Array Value)(i k:Nat):((List.range k).filterMap λ(m:Nat)=>xs[((i:Int)+(m:Int)*1).toNat]?).toArray=((xs.toList.drop i).take k).toArray:=by
 have e:(λ(m:Nat)=>xs[((i:Int)+(m:Int)*1).toNat]?)=λm=>xs[i+m]?:=by
  funext m
  have:((i:Int)+(m:Int)*1).toNat=i+m:=by omega
  rw[this]
 rw[e]
 have:=pick_run xs i k
 rw[List.filterMap_map]at this
 have e2:((λx=>xs[x]?) ∘ λx=>i+x)=λm=>xs[i+m]?:=rfl
 rw[e2]at this
 rw[this]
theorem getItem_tuple_cut{t sl:Addr}{items:Array Value}{vl vu:Value}{lo hi:Option Int}{Q:Value->Shared->Prop}(ht:IsTup s.heap t items)(hs:s.heap.IsSliceOf sl vl vu .none)(pl:IsPart vl lo)(pu:IsPart vu hi)
 (hw : ¬ (sIx items.size 0 lo=0/\sIx items.size items.size hi=items.size))
 (h:Q (.ref s.heap.objs.size) { s with heap:=s.heap.push { cls:=.type "tuple",data:=.seq ((items.toList.drop (sIx items.size 0 lo)).take (sIx items.size items.size hi - sIx items.size 0 lo)).toArray } })
 (hsz:items.size<=sizeLine):wpAny (model prog w) A (getItem (.ref t) (.ref sl)) Q E s:=by
 have htake:sizeOk (.seq ((items.toList.drop (sIx items.size 0 lo)).take (sIx items.size items.size hi - sIx items.size 0 lo)).toArray):=by
  show ((items.toList.drop (sIx items.size 0 lo)).take (sIx items.size items.size hi - sIx items.size 0 lo)).toArray.size<=sizeLine
  rw[List.size_toArray,List.length_take,List.length_drop,Array.length_toList]
  omega
 have hj:sIx items.size items.size hi<=items.size:=Hk _ _ (Nat.le_refl _) hi
 obtain⟨os,hos,hcs,hds⟩:=id hs
 have hTs:s.TypeIs (.ref sl) "slice":=⟨os,hos,hcs⟩
 unfold getItem
 try with_reducible refine wpAny_holding ?_
 first | refine wpAny_bind (wpAny_pure ?_) | skip
 refine wpAny_bind (wpAny_sequenceKey ht.typeIs (by decide) ?_)
 refine wpAny_bind (wpAny_callSpecial?_slot (name:=Str.ofString "__getitem__") ht.typeIs PyProof.Rows.slot_tuple_getitem
  (wpAny_call_entry PyProof.Rows.slot_tuple_getitem ht.typeIs entry_tuple_getitem ?_ (args_tuple_getitem _ _)))
 show wpAny _ _ (Builtin.Tuple.tupleItemsOf (.ref t) >>= _) _ _ s
 refine wpAny_bind (tupleItemsOf_ ht ?_)
 refine wpAny_bind (wpAny_typeOf hTs ?_)
 rw[if_pos (by decide)]
 refine wpAny_bind (zX hs pl pu ?_)
 have hno : ¬ ((((sIx items.size 0 lo:Nat):Int) == 0 && (1:Int) == 1 && (sIx items.size items.size hi - sIx items.size 0 lo) == items.size)=true):=by
  intro q
  rw[Bool.and_eq_true,Bool.and_eq_true]at q
  have q1:((sIx items.size 0 lo:Nat):Int)=0:=eq_of_beq q.1.1
  have q2:sIx items.size items.size hi - sIx items.size 0 lo=items.size:=eq_of_beq q.2
  exact hw ⟨by omega,by omega⟩
 show wpAny _ _ (if (((sIx items.size 0 lo:Nat):Int) == 0 && (1:Int) == 1 && (sIx items.size items.size hi - sIx items.size 0 lo) == items.size)=true then _ else _) _ _ s
 rw[if_neg hno,IL]
 first
  | exact wpAny_bind (m:=Builtin.Tuple.tupleExact _) (wpAny_newObj_type (wpAny_pure ⟨_,rfl,wpAny_pure h⟩) htake)
  | exact wpAny_bind (m:=Builtin.Tuple.tupleExact _) (wpAny_newObj_type (wpAny_bind (wpAny_pure (wpAny_pure ⟨_,rfl,wpAny_pure h⟩))) htake)
  | exact wpAny_bind (wpAny_bind (m:=Builtin.Tuple.tupleExact _) (wpAny_newObj_type (wpAny_pure (wpAny_pure ⟨_,rfl,wpAny_pure h⟩)) htake))
  | exact wpAny_bind (wpAny_bind (m:=Builtin.Tuple.tupleExact _) (wpAny_newObj_type (wpAny_pure ⟨_,rfl,wpAny_pure h⟩) htake))
end
end HT
namespace L2
open PySem PySem.Spec PyProof.Rows
abbrev TO:=St->Hp->(Option Int->Hp->Prop)->Prop
def PO(X:Cx)(e:Option Expr)(t:TO):Prop :=
 ∀ (pins:List (Addr × Obj)) (s:Shared) (σ:St) (H:Hp) (Q:Option Int->Hp->Prop),ae X pins σ H s->t σ H Q ->
  wpAny (model X.prog X.w) X.A (evalPart e X.env) (λu s'=>∃ o H',ae X pins σ H' s'/\IsPart u o/\Q o H') X.xe s
def zi:TO:=λ_ H Q=>Q none H
def zf(t:TE):TO:=λσ H Q=>t σ H λx H1=>∃ i,x=.int i/\Q (some i) H1
section
variable {X:Cx}{e:Expr}{te:TE}{lo hi:Option Expr}{tl th:TO}{pos p2:Pos}
theorem IJ:PO X none zi:=by
 intro pins s σ H Q I h
 rw[evalPart_none]
 exact wpAny_pure ⟨none,H,I,.none,h⟩
theorem II(h:PE X e te):PO X (some e) (zf te):=by
 intro pins s σ H Q I hw
 rw[evalPart_some]
 refine ax (h pins s σ H _ I hw) λu s1 ⟨x,H1,I1,r1,q1⟩=>?_
 obtain⟨i,rfl,q⟩:=q1
 obtain⟨t,rfl⟩:=r1
 exact⟨some i,H1,I1,.int i t,q⟩
def ix(X:Cx)(r:V->Option Int->Option Int->Hp->VK->Prop):Prop :=
 ∀ (pins:List (Addr × Obj)) (s:Shared) (σ:St) (H:Hp) (x:V) (v vl vu:Value) (lo hi:Option Int) (sl:Addr) (Q:VK),ae X pins σ H s->aR x v->s.heap.IsSliceOf sl vl vu .none->IsPart vl lo->IsPart vu hi->r x lo hi H Q ->
  ∃ T id,typeLookup (.type T) "__getitem__" = pure (some (.builtin id))/\s.TypeIs v T/\wpAny (model X.prog X.w) X.A (getItem v (.ref sl)) (EP X pins σ Q) X.xe s
def zc(r:V->Option Int->Option Int->Hp->VK->Prop)(te:TE)(tl th:TO):TE:=λσ H Q=>te σ H λx H1=>tl σ H1 λl H2=>th σ H2 λu H3=>r x l u H3 Q
theorem IY{r:V->Option Int->Option Int->Hp->VK->Prop}(hr:ix X r)(he:PE X e te)(hl:PO X lo tl)(hu:PO X hi th):PE X (.Subscript e (.Slice lo hi none p2) pos) (zc r te tl th):=by
 intro pins s σ H Q I h
 refine Subscript_ (ax (he pins s σ H _ I h) λv s1 ⟨x,H1,I1,r1,q1⟩=>?_)
 refine wpAny_Slice (ax (hl pins s1 σ H1 _ I1 q1) λvl s2 ⟨l,H2,I2,pl,q2⟩=>ax (hu pins s2 σ H2 _ I2 q2) λvu s3 ⟨u,H3,I3,pu,q3⟩=>?_)
 rw[evalPart_none]
 refine wpAny_pure ?_
 have I4:ae X pins σ H3 { s3 with heap:=s3.heap.push { cls:=.type "slice",data:=.fields #[vl,vu,.none] } }:=I3.kept (t':=s3.toks) λb ob q=>Heap.get?_push_of_some _ q
 obtain⟨T,id,hT,ht,hg⟩:=hr pins { s3 with heap:=s3.heap.push { cls:=.type "slice",data:=.fields #[vl,vu,.none] } } σ H3 x v vl vu l u s3.heap.objs.size Q I4 r1 (Heap.IsSliceOf.new ..) pl pu q3
 show wpAny (model X.prog X.w) X.A (subscriptTail e (.Slice lo hi none p2) v (.ref s3.heap.objs.size)) (EP X pins σ Q) X.xe { s3 with heap:=s3.heap.push { cls:=.type "slice",data:=.fields #[vl,vu,.none] } }
 exact tail_any (ops:=[.ref s3.heap.objs.size,v]) ht hT hg (by with_unfolding_all rfl)
def de(xs:List V)(lo hi:Option Int):List V:=(xs.drop (HT.sIx xs.length 0 lo)).take (HT.sIx xs.length xs.length hi - HT.sIx xs.length 0 lo)
theorem CY(xs:List V)(lo hi:Option Int):(de xs lo hi).length<=xs.length:=by
 unfold de
 rw[List.length_take,List.length_drop]
 omega
def Hv(K:W.Frag):V->Option Int->Option Int->Hp->VK->Prop:=λx lo hi H Q=>∃ a xs,x=.ref a/\bd K H a xs /\
 ¬ (HT.sIx xs.length 0 lo=0/\HT.sIx xs.length xs.length hi=xs.length)/\∀ p,H p=none->Q (.ref p) (upd H p (.tup (de xs lo hi)))
theorem Go:ix X (Hv X.K):=by
 intro pins s σ H x v vl vu lo hi sl Q I rx hs pl pu h
 obtain⟨a,xs,rfl,hx,hw,q⟩:=h
 cases rx
 obtain⟨its,r,ht,hz⟩:=I.tuple hx
 have hlen:its.toArray.size=xs.length:=by rw[List.size_toArray]; exact r.length.symm
 refine⟨"tuple",_,PyProof.Rows.slot_tuple_getitem.lookup,ht.typeIs,?_⟩
 refine HT.getItem_tuple_cut ht hs pl pu (by rw[hlen]; exact hw) ?_ (by rw[hlen]; exact hz)
 rw[hlen]
 refine⟨.ref s.heap.objs.size,_,I.laid (t':=s.toks) (o:=.tup (de xs lo hi)) (λb ob q=>Heap.get?_push_of_some _ q) (Nat.le_refl _) ?_,rfl,q _ (I.hok.fresh (Nat.le_refl _))⟩
 exact⟨Nat.le_trans (CY xs lo hi) hz,_,(r.drop (HT.sIx xs.length 0 lo)).take (HT.sIx xs.length xs.length hi - HT.sIx xs.length 0 lo),IsTup.new _ _⟩
end
def lf(n:Nat)(i:Int):Option Nat:=if 0<=i then (if i < n then some i.toNat else none) else if -(n:Int)<=i then some (i+n).toNat else none
def cR{α:Type}(xs:List α)(i:Int):Option α:=(lf xs.length i).bind λj=>xs[j]?
theorem LI{n:Nat}{i:Int}{j:Nat}(h:lf n i=some j):seqIndex? i n=some j/\j < n/\-(n:Int)<=i/\i < n:=by
 unfold lf at h
 by_cases h0:0<=i
 ·rw[if_pos h0]at h
  by_cases h1:i < n
  ·rw[if_pos h1]at h
   have e:i.toNat=j:=Option.some.inj h
   exact⟨by rw[seqIndex_of h0 h1,e],by omega,by omega,h1⟩
  ·rw[if_neg h1]at h; cases h
 ·rw[if_neg h0]at h
  by_cases h1 : -(n:Int)<=i
  ·rw[if_pos h1]at h
   have e:(i+n).toNat=j:=Option.some.inj h
   exact⟨by rw[seqIndex_neg (by omega) h1,e],by omega,h1,by omega⟩
  ·rw[if_neg h1]at h; cases h
theorem Ds{α:Type}{xs:List α}{i:Int}{v:α}(h:cR xs i=some v) : ∃ j,seqIndex? i xs.length=some j/\xs[j]? = some v/\j < xs.length/\-(xs.length:Int)<=i/\i < xs.length:=by
 unfold cR at h
 cases e:lf xs.length i with
 | none=>rw[e]at h; cases h
 | some j =>
  rw[e]at h
  obtain⟨h1,h2,h3,h4⟩:=LI e
  exact⟨j,h1,h,h2,h3,h4⟩
theorem aV{α:Type}{xs:List α}{j:Nat}{v:α}(h:xs[j]? = some v):cR xs (j:Int)=some v:=by
 have hj:j < xs.length:=(List.getElem?_eq_some_iff.mp h).1
 have e:lf xs.length (j:Int)=some j:=by
  unfold lf
  rw[if_pos (by omega),if_pos (by omega)]; simp
 unfold cR; rw[e]; exact h
def Dw(b:Expr):Prop:=∀ o i,subscripted b false o i=operate [o,i] (getItem o i)
def fB(X:Cx)(r:R2):Prop :=
 ∀ (value slice:Expr) (pins:List (Addr × Obj)) (s:Shared) (σ:St) (H:Hp) (x y:V) (v u:Value) (Q:VK),ae X pins σ H s->aR x v->aR y u->r x y H Q ->
  subscripted slice false v u=operate [v,u] (getItem v u)->wpAny (model X.prog X.w) X.A (subscriptTail value slice v u) (EP X pins σ Q) X.xe s
def fA(X:Cx)(id:String)(r:V->List V->Hp->VK->Prop):Prop :=
 ∀ (pins:List (Addr × Obj)) (s:Shared) (σ:St) (H:Hp) (x:V) (xs:List V) (v:Value) (us:List Value) (Q:VK),ae X pins σ H s->aR x v->aI xs us->r x xs H Q ->
  wpAny (model X.prog X.w) X.A (call (.builtin id) (v :: us)) (EP X pins σ Q) X.xe s
section
variable {X:Cx}{a b:Expr}{ta tb:TE}{pos:Pos}
theorem fB.or{r r':R2}(h:fB X r)(h':fB X r'):fB X (λx y H Q=>r x y H Q\/r' x y H Q):=by
 intro value slice pins s σ H x y v u Q I rx ry q hs
 rcases q with q | q
 ·exact h value slice pins s σ H x y v u Q I rx ry q hs
 ·exact h' value slice pins s σ H x y v u Q I rx ry q hs
theorem Jc{r:R2}(hr:fB X r)(ha:PE X a ta)(hb:PE X b tb)(hs:Dw b):PE X (.Subscript a b pos) (fW r ta tb):=by
 intro pins s σ H Q I h
 exact Subscript_ (xi ha hb I h λv u s2 x y H2 I2 rx ry q=>hr a b pins s2 σ H2 x y v u Q I2 rx ry q (hs _ _))
def HE(K:W.Frag):R2:=λx y H Q=>∃ p xs i v,x=.ref p/\y=.int i/\aE K H p xs/\cR xs i=some v/\Q v H
def HD(K:W.Frag):R2:=λx y H Q=>∃ p xs i v,x=.ref p/\y=.int i/\bd K H p xs/\cR xs i=some v/\Q v H
theorem LG:fB X (HE X.K):=by
 intro value slice pins s σ H x y v u Q I rx ry h hs
 obtain⟨p,xs,i,z,rfl,rfl,hq,he,q⟩:=h
 cases rx
 obtain⟨t,rfl⟩:=ry
 obtain⟨its,r,pl,hz⟩:=I.list hq
 obtain⟨j,h1,h2,h3,h4,h5⟩:=Ds he
 obtain⟨w,ew,rw'⟩:=r.get h2
 have hl:=r.length
 have hn:=ow
 have fin:EP X pins σ Q w s:=⟨z,H,I,rw',q⟩
 by_cases h0:0<=i
 ·have hj:i.toNat=j:=by
   rw[seqIndex_of h0 h5]at h1
   exact Option.some.inj h1
  exact item_listR pl.isList h0 (by omega) (by rw[hj]; simpa using ew) fin hs
 ·have hj:(i+(its.toArray.size:Int)).toNat=j:=by
   rw[seqIndex_neg (by omega) h4]at h1
   rw[List.size_toArray,<- hl]
   exact Option.some.inj h1
  exact subscriptTail_builtinR (x:=w) pl.isList.typeIs slot_list_getitem.lookup
   (wpAny_getItem_list_neg (Q:=λr s'=>r=w/\EP X pins σ Q r s') pl.isList (by omega) (by rw[List.size_toArray] <;> omega) (by omega) (by rw[hj]; simpa using ew) ⟨rfl,fin⟩) hs
theorem LF:fB X (HD X.K):=by
 intro value slice pins s σ H x y v u Q I rx ry h hs
 obtain⟨p,xs,i,z,rfl,rfl,hq,he,q⟩:=h
 cases rx
 obtain⟨t,rfl⟩:=ry
 obtain⟨its,r,pl,hz⟩:=I.tuple hq
 obtain⟨j,h1,h2,h3,h4,h5⟩:=Ds he
 obtain⟨w,ew,rw'⟩:=r.get h2
 have hl:=r.length
 have hn:=ow
 have fin:EP X pins σ Q w s:=⟨z,H,I,rw',q⟩
 exact subscriptTail_builtinR (x:=w) pl.typeIs slot_tuple_getitem.lookup
  (getItem_tuple (j:=j) (Q:=λr s'=>r=w/\EP X pins σ Q r s') pl (by omega) (by omega) (by rw[List.size_toArray,<- hl]; exact h1) (by simpa using ew) ⟨rfl,fin⟩) hs
theorem Gm(lo hi:Option Int)(n:Nat):(sliceBounds lo hi none n).1=((HT.sIx n 0 lo:Nat):Int)/\(sliceBounds lo hi none n).2.1=((HT.sIx n n hi:Nat):Int)/\(sliceBounds lo hi none n).2.2=1:=by
 refine⟨?_,?_,rfl⟩
 ·cases lo with
  | none=>simp[sliceBounds,HT.sIx]
  | some i =>
   simp only [sliceBounds,HT.sIx,Option.getD_none,show (1:Int) > 0 by decide,if_true]
   by_cases h:i < 0
   ·simp only [h,if_true] <;> omega
   ·simp only [h,if_false] <;> omega
 ·cases hi with
  | none=>simp[sliceBounds,HT.sIx]
  | some i =>
   simp only [sliceBounds,HT.sIx,Option.getD_none,show (1:Int) > 0 by decide,if_true]
   by_cases h:i < 0
   ·simp only [h,if_true] <;> omega
   ·simp only [h,if_false] <;> omega
theorem Gn(its:List Value)(lo hi:Option Int):slicePick its.toArray lo hi none=((its.drop (HT.sIx its.length 0 lo)).take (HT.sIx its.length its.length hi - HT.sIx its.length 0 lo)).toArray:=by
 obtain⟨h1,h2,h3⟩:=Gm lo hi its.toArray.size
 unfold slicePick
 rw[h1,h2,h3]
 simp only [sliceRange_one,pick_run,List.size_toArray] <;> rfl
def Hw(K:W.Frag):V->Option Int->Option Int->Hp->VK->Prop:=λx lo hi H Q=>∃ a xs,x=.ref a/\aE K H a xs/\∀ p,H p=none->Q (.ref p) (upd H p (.lst (de xs lo hi)))
theorem Gp:ix X (Hw X.K):=by
 intro pins s σ H x v vl vu lo hi sl Q I rx hs pl pu h
 obtain⟨a,xs,rfl,hx,q⟩:=h
 cases rx
 obtain⟨its,r,ht,hz⟩:=I.list hx
 have hlen:=r.length
 refine⟨"list",_,slot_list_getitem.lookup,ht.isList.typeIs,?_⟩
 refine wpAny_getItem_list_slice ht.isList hs pl pu .none (by simp) ?_ (by rw[List.size_toArray] <;> omega)
 rw[Gn,<- hlen]
 refine⟨.ref s.heap.objs.size,_,I.laid (t':=s.toks) (o:=.lst (de xs lo hi)) (λb ob q=>Heap.get?_push_of_some _ q) (Nat.le_refl _) ?_,rfl,q _ (I.hok.fresh (Nat.le_refl _))⟩
 exact⟨Nat.le_trans (CY xs lo hi) hz,_,0,(r.drop (HT.sIx xs.length 0 lo)).take (HT.sIx xs.length xs.length hi - HT.sIx xs.length 0 lo),Heap.get?_push_size _ rfl⟩
def eS:V->Bool
 | .non=>true
 | .bl _=>true
 | .int _=>true
 | .str _=>true
 | _=>false
def db:V->V->Bool
 | .non,.non=>true
 | .bl a,.bl b=>a == b
 | .bl a,.int b=>(if a then 1 else 0) == b
 | .int a,.bl b=>a == (if b then 1 else 0)
 | .int a,.int b=>a == b
 | .str a,.str b=>a == b
 | _,_=>false
theorem Ov{A:Around}{s:Shared}{y x:V}{u v:Value}(ry:aR y u)(rx:aR x v)(fy:eS y=true)(fx:eS x=true):SeqAt.EqAt A s u v (db y x):=by
 cases y with
 | non =>
  cases ry
  cases x with
  | non=>cases rx; exact SeqAt.EqAt.same _
  | bl b=>cases rx; exact SeqAt.EqAt.none_bool b
  | int b=>obtain⟨t,rfl⟩:=rx; exact SeqAt.EqAt.none_int b t
  | str b=>obtain⟨t,rfl⟩:=rx; exact SeqAt.EqAt.none_str b t
  | _=>exact absurd (show false=true from fx) Bool.false_ne_true
 | bl a =>
  cases ry
  cases x with
  | non=>cases rx; exact SeqAt.EqAt.bool_none a
  | bl b=>cases rx; exact SeqAt.EqAt.bool_bool a b
  | int b=>obtain⟨t,rfl⟩:=rx; exact SeqAt.EqAt.bool_int a b t
  | str b=>obtain⟨t,rfl⟩:=rx; exact SeqAt.EqAt.bool_str a b t
  | _=>exact absurd (show false=true from fx) Bool.false_ne_true
 | int a =>
  obtain⟨t',rfl⟩:=ry
  cases x with
  | non=>cases rx; exact SeqAt.EqAt.int_none a t'
  | bl b=>cases rx; exact SeqAt.EqAt.int_bool a t' b
  | int b=>obtain⟨t,rfl⟩:=rx; exact SeqAt.EqAt.int_int a t' b t
  | str b=>obtain⟨t,rfl⟩:=rx; exact SeqAt.EqAt.int_str a t' b t
  | _=>exact absurd (show false=true from fx) Bool.false_ne_true
 | str a =>
  obtain⟨t',rfl⟩:=ry
  cases x with
  | non=>cases rx; exact SeqAt.EqAt.str_none a t'
  | bl b=>cases rx; exact SeqAt.EqAt.str_bool a t' b
  | int b=>obtain⟨t,rfl⟩:=rx; exact SeqAt.EqAt.str_int a t' b t
  | str b=>obtain⟨t,rfl⟩:=rx; exact SeqAt.EqAt.str_str a t' b t
  | _=>exact absurd (show false=true from fx) Bool.false_ne_true
 | _=>exact absurd (show false=true from fy) Bool.false_ne_true
def dJ(x:V)(u:Value):Bool:=match u with
 | .none=>db .non x
 | .bool b=>db (.bl b) x
 | .int i _=>db (.int i) x
 | .str z _=>db (.str z) x
 | _=>false
theorem uS{x y:V}{u:Value}(r:aR y u)(f:eS y=true):dJ x u=db y x:=by
 cases y with
 | non=>cases r; rfl
 | bl b=>cases r; rfl
 | int i=>obtain⟨t,rfl⟩:=r; rfl
 | str z=>obtain⟨t,rfl⟩:=r; rfl
 | _=>exact absurd (show false=true from f) Bool.false_ne_true
theorem mY{x:V} : ∀ {xs:List V} {us:List Value},aI xs us->xs.all eS=true->us.any (dJ x)=xs.any λy=>db y x
 | _,_,.nil,_=>rfl
 | y :: xs,u :: us,.cons r t,f=>by
  rw[List.all_cons,Bool.and_eq_true]at f
  rw[List.any_cons,List.any_cons,uS r f.1,mY t f.2]
theorem kX{A:Around}{s:Shared}{x:V}{v:Value}(rx:aR x v)(fx:eS x=true) : ∀ {xs:List V} {us:List Value},aI xs us->xs.all eS=true->∀ u∈us,SeqAt.EqAt A s u v (dJ x u)
 | _,_,.nil,_=>λu hu=>by cases hu
 | y :: xs,u :: us,.cons r t,f=>λu' hu=>by
  rw[List.all_cons,Bool.and_eq_true]at f
  rcases List.mem_cons.mp hu with rfl | hu
  ·rw[uS r f.1]; exact Ov r rx f.1 fx
  ·exact kX rx fx t f.2 u' hu
def cm(x:V)(xs:List V):Bool:=xs.any λy=>db y x
def AA(K:W.Frag)(neg:Bool):R2:=λx y H Q=>∃ p xs,y=.ref p/\(aE K H p xs\/bd K H p xs)/\eS x=true/\xs.all eS=true/\Q (.bl (if neg then !cm x xs else cm x xs)) H
theorem JD:aW X (compareOp .In) (AA X.K false):=by
 intro pins s σ H x y v u Q I rx ry h
 obtain⟨p,xs,rfl,hq,fx,fs,q⟩:=h
 cases ry
 rcases hq with hq | hq
 ·obtain⟨its,r,pl,hz⟩:=I.list hq
  refine SeqAt.in_listAt (dJ x) pl.isList (λw hw=>kX rx fx r fs w (by simpa using hw)) ⟨.bl _,H,I,rfl,?_⟩
  rw[show its.toArray.any (dJ x)=its.any (dJ x) by simp,mY r fs]
  exact q
 ·obtain⟨its,r,pl,hz⟩:=I.tuple hq
  refine SeqAt.in_tupleAt (dJ x) pl (λw hw=>kX rx fx r fs w (by simpa using hw)) ⟨.bl _,H,I,rfl,?_⟩
  rw[show its.toArray.any (dJ x)=its.any (dJ x) by simp,mY r fs]
  exact q
theorem Jy:aW X (compareOp .NotIn) (AA X.K true):=by
 intro pins s σ H x y v u Q I rx ry h
 obtain⟨p,xs,rfl,hq,fx,fs,q⟩:=h
 cases ry
 rcases hq with hq | hq
 ·obtain⟨its,r,pl,hz⟩:=I.list hq
  refine SeqAt.notIn_listAt (dJ x) pl.isList (λw hw=>kX rx fx r fs w (by simpa using hw)) ⟨.bl _,H,I,rfl,?_⟩
  rw[show its.toArray.any (dJ x)=its.any (dJ x) by simp,mY r fs]
  exact q
 ·obtain⟨its,r,pl,hz⟩:=I.tuple hq
  refine SeqAt.notIn_tupleAt (dJ x) pl (λw hw=>kX rx fx r fs w (by simpa using hw)) ⟨.bl _,H,I,rfl,?_⟩
  rw[show its.toArray.any (dJ x)=its.any (dJ x) by simp,mY r fs]
  exact q
theorem O1:cL X (.builtin "len") (λxs H Q=>∃ p ys,xs=[.ref p]/\(aE X.K H p ys\/bd X.K H p ys)/\Q (.int ys.length) H):=by
 intro pins s σ H xs us Q I r h
 obtain⟨p,ys,rfl,hq,q⟩:=h
 obtain⟨u,rfl,rx⟩:=je r
 cases rx
 have hn:=ow
 rcases hq with hq | hq
 ·obtain⟨its,r',pl,hz⟩:=I.list hq
  have hlen:=r'.length
  exact Calls.call_len_list pl.isList (by simp only [List.size_toArray] <;> omega) ⟨.int ys.length,H,I.tok _,⟨s.toks+1,by rw[List.size_toArray,hlen]⟩,q⟩
 ·obtain⟨its,r',pl,hz⟩:=I.tuple hq
  have hlen:=r'.length
  exact len_tuple pl (by simp only [List.size_toArray] <;> omega) ⟨.int ys.length,H,I.tok _,⟨s.toks+1,by rw[List.size_toArray,hlen]⟩,q⟩
theorem O0:cL X (.type "list") (λxs H Q=>∃ p ys,xs=[.ref p]/\(aE X.K H p ys\/bd X.K H p ys)/\∀ l,H l=none->Q (.ref l) (upd H l (.lst ys))):=by
 intro pins s σ H xs us Q I r h
 obtain⟨p,ys,rfl,hq,q⟩:=h
 obtain⟨u,rfl,rx⟩:=je r
 cases rx
 have fin : ∀ (its:List Value),aI ys its->ys.length<=sizeLine->∀ (h':Heap) (c':Nat),(∀ b o',s.heap.get? b=some o'->h'.get? b=some o') ->
  h'.get? s.heap.objs.size=some { cls:=.type "list",dict:=none,data:=.seq its.toArray c',slots:=#[] }->EP X pins σ Q (.ref s.heap.objs.size) { s with heap:=h' }:=λits r' hz h' c' kp e =>
  ⟨.ref s.heap.objs.size,_,I.laid (t':=s.toks) kp (Nat.le_refl _) (show bF X.prog X.w _ h' _ (.lst ys) from ⟨hz,its,c',r',e⟩),rfl,q _ (I.hok.fresh (Nat.le_refl _))⟩
 rcases hq with hq | hq
 ·obtain⟨its,r',pl,hz⟩:=I.list hq
  have hlen:=r'.length
  obtain⟨o,ho,hc,n,hd⟩:=pl.isList
  exact call_list_seq p (.inl rfl) ho hc hd (λh' c' kp e=>fin its r' hz h' c' kp e) (by simp only [List.size_toArray] <;> omega)
 ·obtain⟨its,r',pl,hz⟩:=I.tuple hq
  have hlen:=r'.length
  obtain⟨o,ho,hc,n,hd⟩:=pl
  exact call_list_seq p (.inr rfl) ho hc hd (λh' c' kp e=>fin its r' hz h' c' kp e) (by simp only [List.size_toArray] <;> omega)
theorem OZ:cL X (.type "tuple") (λxs H Q=>∃ p ys,xs=[.ref p]/\((aE X.K H p ys/\∀ l,H l=none->Q (.ref l) (upd H l (.tup ys)))\/(bd X.K H p ys/\Q (.ref p) H))):=by
 intro pins s σ H xs us Q I r h
 obtain⟨p,ys,rfl,h⟩:=h
 obtain⟨u,rfl,rx⟩:=je r
 cases rx
 rcases h with ⟨hq,q⟩ | ⟨hq,q⟩
 ·obtain⟨its,r',pl,hz⟩:=I.list hq
  have hlen:=r'.length
  refine call_tuple_list pl.isList (λh' kp=>?_) (by simp only [List.size_toArray] <;> omega)
  have I1:ae X pins σ H { s with heap:=h' }:=I.kept (t':=s.toks) kp
  have I2:ae X pins σ (upd H h'.objs.size (.tup ys)) { s with heap:=h'.push { cls:=.type "tuple",data:=.seq its.toArray } } :=
   I1.laid (t':=s.toks) (λb o e=>Heap.get?_push_of_some _ e) (Nat.le_refl _) (show bF X.prog X.w _ _ _ (.tup ys) from ⟨hz,its,r',IsTup.new _ _⟩)
  exact⟨.ref h'.objs.size,_,I2,rfl,q _ (I1.hok.fresh (Nat.le_refl _))⟩
 ·obtain⟨its,r',pl,hz⟩:=I.tuple hq
  exact call_tuple_same pl ⟨.ref p,H,I,rfl,q⟩
def rH(K:W.Frag)(T:String)(x:V)(H:Hp):Prop:=match x with
 | .str _=>T = "str"
 | .int _=>T = "int"
 | .ref p=>(T = "list"/\∃ xs,aE K H p xs)\/(T = "tuple"/\∃ o,K.lookup p=some o/\o.cls=.type "tuple"/\o.dict=none) \/
  (T = "dict"/\((∃ kvs,H p=some (.dK kvs))\/∃ kvs,H p=some (.dT kvs)))\/(T = "set"/\∃ S n,H p=some (.set S n))
 | _=>False
theorem y4{pins:List (Addr × Obj)}{σ:St}{H:Hp}{s:Shared}{T:String}{x:V}{v:Value}(I:ae X pins σ H s)(r:aR x v)(ty:rH X.K T x H) :
 s.TypeIs v T/\∀ a,v=.ref a->∃ ob,s.heap.get? a=some ob/\ob.dict=none:=by
 cases x with
 | str z =>
  obtain⟨t,rfl⟩:=r
  cases (show T = "str" from ty)
  exact⟨typeIs_str s z t,λ_ e=>nomatch e⟩
 | int i =>
  obtain⟨t,rfl⟩:=r
  cases (show T = "int" from ty)
  exact⟨typeIs_int s i t,λ_ e=>nomatch e⟩
 | ref p =>
  cases r
  rcases ty with ⟨rfl,xs,hq⟩ | ⟨rfl,o,hk,hc,hd⟩ | ⟨rfl,hk⟩ | ⟨rfl,S,n,hk⟩
  ·obtain⟨its,_,pl,_⟩:=I.list hq
   refine⟨pl.isList.typeIs,λa e=>?_⟩
   cases e
   obtain⟨o,n,e,c,hd,_⟩:=pl
   exact⟨o,e,hd⟩
  ·refine⟨⟨o,I.kIn p o hk,hc⟩,λa e=>?_⟩
   cases e
   exact⟨o,I.kIn _ o hk,hd⟩
  ·have z : ∃ o,s.heap.get? p=some o/\o.ExactDict:=by
    rcases hk with ⟨kvs,hk⟩ | ⟨kvs,hk⟩
    ·obtain⟨_,_,_,_,o,_,_,e,ex,_⟩:=I.hok p _ hk
     exact⟨o,e,ex⟩
    ·obtain⟨_,_,_,_,o,_,_,e,ex,_⟩:=I.hok p _ hk
     exact⟨o,e,ex⟩
   obtain⟨o,e,ex⟩:=z
   refine⟨⟨o,e,ex.1⟩,λa e2=>?_⟩
   cases e2
   exact⟨o,e,ex.2.1⟩
  ·obtain⟨o,_,_,_,e,ex,_⟩:=I.hok p _ hk
   refine⟨⟨o,e,ex.1⟩,λa e2=>?_⟩
   cases e2
   exact⟨o,e,ex.2.1⟩
 | _=>exact False.elim ty
def rO(K:W.Frag)(T:String)(r:V->List V->Hp->VK->Prop)(to:TE):TE:=λσ H Q=>to σ H λx H1=>rH K T x H1/\r x [] H1 Q
def rP(K:W.Frag)(T:String)(r:V->List V->Hp->VK->Prop)(to:TE)(t:TA):TE:=λσ H Q=>to σ H λx H1=>rH K T x H1/\t σ H1 λxs H2=>r x xs H2 Q
variable {o e:Expr}{es:List Expr}{to:TE}{t:TA}{name:Str}{apos cpos:Pos}{T id:String}{r:V->List V->Hp->VK->Prop}
theorem Jp (pa:PlainAttrs T) (slot:Slot T name id) (hty:typeOf (.builtin id)=pure (.type "method_descriptor")) (hm:fA X id r) (ho:PE X o to)
 (hbase:attributeBase o name X.env (eval o X.env)=eval o X.env:=by rfl) (hline:(apos.endLine == cpos.line)=true:=by rfl):PE X (.Call (.Attribute o name apos) [] [] cpos) (rO X.K T r to):=by
 intro pins s σ H Q I h
 refine wpAny_Call_method0_late hbase hline (ax (ho pins s σ H _ I h) λv s1 ⟨x,H1,I1,r1,ty,q1⟩=>?_)
 obtain⟨h1,h2⟩:=y4 I1 r1 ty
 exact⟨T,id,pa,slot,hty,h1,h2,Calls.callWith_builtin rfl (PySem.evalArgs_none (hm pins s1 σ H1 x [] v [] Q I1 r1 .nil q1))⟩
theorem Jq (pa:PlainAttrs T) (slot:Slot T name id) (hty:typeOf (.builtin id)=pure (.type "method_descriptor")) (hm:fA X id r) (ho:PE X o to) (ha:PA X (e :: es) t)
 (hbase:attributeBase o name X.env (eval o X.env)=eval o X.env:=by rfl)
 (hfew:((backTo cpos (starEach (e :: es) X.env)).all (λx=>!x.1) && (backToKw cpos (keywordEach [] X.env)).all (λx=>x.1.isSome)
   && decide ((e :: es).length+([]:List Keyword).length+(if ([]:List Keyword).isEmpty then 0 else 1) < 30))=true:=by rfl)
 (hline:(apos.endLine == cpos.line)=true:=by rfl) (hs:starEach (e :: es) X.env=(false,eval e X.env) :: starEach es X.env:=by rfl) (hplain:(backTo cpos (starEach es X.env)).any (·.1)=false:=by rfl) :
 PE X (.Call (.Attribute o name apos) (e :: es) [] cpos) (rP X.K T r to t):=by
 intro pins s σ H Q I h
 refine wpAny_Call_method_late hbase hfew hline rfl (ax (ho pins s σ H _ I h) λv s1 ⟨x,H1,I1,r1,ty,q1⟩=>?_)
 obtain⟨h1,h2⟩:=y4 I1 r1 ty
 refine⟨T,id,pa,slot,hty,h1,h2,?_⟩
 have hA:=ha cpos pins s1 σ H1 _ I1 q1
 rw[hs]at hA ⊢
 refine Calls.callWith_builtin (by show (false || (backTo cpos (starEach es X.env)).any (·.1))=false; rw[hplain] <;> rfl) (Calls.evalArgs_plain ?_)
 exact ax hA λus s2 ⟨vs,H2,I2,r2,q2⟩=>hm pins s2 σ H2 x vs v us Q I2 r1 r2 q2
/- xs.append(e),list.index on a module's tuple .. are fA facts of 06m -/
end
def yI(X:Cx)(id:String)(r:V->List V->Hp->VK->Prop):Prop :=
 ∀ (pins:List (Addr × Obj)) (s:Shared) (σ:St) (H:Hp) (x:V) (xs:List V) (v:Value) (us:List Value) (Q:VK),ae X pins σ H s->aR x v->aI xs us->r x xs H Q ->
  wpAny (model X.prog X.w) X.A (call (.builtin id) (v :: us)) (EP X pins σ Q) X.xe s
theorem aI.one : ∀ {x:V} {us:List Value},aI [x] us->∃ u,us=[u]/\aR x u
 | _,_,.cons r .nil=>⟨_,rfl,r⟩
theorem aI.zero : ∀ {us:List Value},aI [] us->us=[]
 | _,.nil=>rfl
theorem aI.reverse{xs:List V}{us:List Value}(h:aI xs us):aI xs.reverse us.reverse:=by
 induction h with
 | nil=>exact .nil
 | cons r t ih=>rw[List.reverse_cons,List.reverse_cons]; exact aI.append ih (.cons r .nil)
theorem aI.rep{xs:List V}{us:List Value}(h:aI xs us) : ∀ k:Nat,aI (List.replicate k xs).flatten (List.replicate k us).flatten
 | 0=>.nil
 | k+1=>by
  rw[List.replicate_succ,List.replicate_succ,List.flatten_cons,List.flatten_cons]
  exact aI.append h (aI.rep h k)
theorem CD(its:List Value) : ∀ (k:Nat) (acc:List Value),
 List.foldl (λx1 x2=>x1++x2) acc.toArray (List.replicate k its.toArray)=(acc++(List.replicate k its).flatten).toArray
 | 0,acc=>by simp
 | k+1,acc=>by
  have e:acc.toArray++its.toArray=(acc++its).toArray:=by simp
  have e2:(acc++its)++(List.replicate k its).flatten=acc++(List.replicate (k+1) its).flatten:=by
   rw[List.replicate_succ,List.flatten_cons,List.append_assoc]
  rw[<- e2,<- CD its k (acc++its),<- e,List.replicate_succ,List.foldl_cons]
section
variable {X:Cx}{pins:List (Addr × Obj)}{σ:St}{H:Hp}{s:Shared}{l b:Addr}{xs ys zs:List V}
theorem ae.lset{its its':List Value}{n:Nat}{f:Array Value->Array Value}{t':Nat}(I:ae X pins σ H s)(hH:H l=some (.lst xs))
 (e:s.heap.get? l=some { cls:=.type "list",data:=.seq its.toArray n }) (hf:f its.toArray=its'.toArray) (hv:aI ys its') (hz:ys.length<=sizeLine) :
 ae X pins σ (upd H l (.lst ys)) { s with heap:=s.heap.update l (Obj.mapSeq f),toks:=t' }:=by
 have q:=PySem.IsL.update e f
 rw[hf]at q
 refine I.write (x:=l) (e:=l) (by rw[hH]; exact trivial) (.inl rfl) (λb' u hb hu=>(Heap.get?_update_other s.heap (Obj.mapSeq f) (Ne.symm hb)).trans hu) ⟨_,q⟩ ?_
 exact⟨hz,its',_,hv,q⟩
theorem ae.lnew{its:List Value}{t':Nat}(I:ae X pins σ H s)(hv:aI ys its)(hz:ys.length<=sizeLine) :
 ae X pins σ (upd H s.heap.objs.size (.lst ys)) { s with heap:=s.heap.push { cls:=.type "list",data:=.seq its.toArray },toks:=t' } :=
 I.laid (λ_ _ q=>Heap.get?_push_of_some _ q) (Nat.le_refl _) ⟨hz,its,0,hv,Heap.get?_push_size _ rfl⟩
theorem ae.fresh(I:ae X pins σ H s):H s.heap.objs.size=none:=I.hok.fresh (Nat.le_refl _)
theorem ae.lstM(I:ae X pins σ H s)(hH:H l=some (.lst xs)):xs.length<=sizeLine/\∃ (its:List Value) (n:Nat),aI xs its/\xs.length=its.length/\s.heap.get? l=some { cls:=.type "list",data:=.seq its.toArray n }:=by
 obtain⟨z,its,n,r,e⟩:=I.hok l _ hH
 exact⟨z,its,n,r,r.length,e⟩
theorem oa{n:Nat}(h:n<=sizeLine):Builtin.List.listTooLong n=false:=by
 unfold Builtin.List.listTooLong
 exact decide_eq_false (by omega)
end
section
variable {X:Cx}
def HH:V->List V->Hp->VK->Prop:=λx vs H Q=>∃ l xs y,x=.ref l/\vs=[y]/\H l=some (.lst xs)/\xs.length < sizeLine/\Q .non (upd H l (.lst (xs++[y])))
theorem Ka:yI X "list.append" HH:=by
 intro pins s σ H x vs v us Q I rx rv h
 obtain⟨l,xs,y,rfl,rfl,hH,hz,q⟩:=h
 cases rx
 obtain⟨u,rfl,ru⟩:=rv.one
 obtain⟨z,its,n,r,hl,e⟩:=I.lstM hH
 refine call_meets F.slot_list_append ⟨_,e,rfl⟩ F.entry_list_append (F.args_list_append_2 _ _) (PySem.list_append l its.toArray n u (by rw[List.size_toArray]; omega)) ⟨e,?_⟩
 refine⟨.non,_,I.lset (its':=its++[u]) hH e (by simp) (r.append (.cons ru .nil)) ?_,rfl,q⟩
 rw[List.length_append,List.length_singleton]
 omega
def HF:V->List V->Hp->VK->Prop:=λx vs H Q=>∃ l b xs zs,x=.ref l/\vs=[.ref b]/\H l=some (.lst xs)/\H b=some (.lst zs)/\xs.length+zs.length<=sizeLine/\Q .non (upd H l (.lst (xs++zs)))
theorem J7:yI X "list.extend" HF:=by
 intro pins s σ H x vs v us Q I rx rv h
 obtain⟨l,b,xs,zs,rfl,rfl,hH,hB,hz,q⟩:=h
 cases rx
 obtain⟨u,rfl,ru⟩:=rv.one
 cases ru
 obtain⟨z,its,n,r,hl,e⟩:=I.lstM hH
 obtain⟨z2,its2,n2,r2,hl2,e2⟩:=I.lstM hB
 have hsz:its.toArray.size+its2.toArray.size<=sizeLine:=by rw[List.size_toArray,List.size_toArray]; omega
 have hlong : ¬ (!its.toArray.isEmpty && Builtin.List.listTooLong (its.toArray.size+its2.toArray.size))=true:=by
  rw[oa hsz,Bool.and_false]
  exact Bool.false_ne_true
 refine call_meets F.slot_list_extend ⟨_,e,rfl⟩ F.entry_list_extend (F.args_list_extend_2 _ _)
  (AutoSeq1.list_extend_list_list_0 l its.toArray n b its2.toArray n2 hlong (by rw[List.size_toArray]; omega) (by omega)) ⟨e,e2,?_⟩
 refine⟨.non,_,I.lset (its':=its++its2) hH e (by simp) (r.append r2) ?_,rfl,q⟩
 rw[List.length_append]
 omega
def Hx:V->List V->Hp->VK->Prop:=λx vs H Q=>∃ l xs,x=.ref l/\vs=[]/\H l=some (.lst xs)/\Q .non (upd H l (.lst xs.reverse))
theorem J6:yI X "list.reverse" Hx:=by
 intro pins s σ H x vs v us Q I rx rv h
 obtain⟨l,xs,rfl,rfl,hH,q⟩:=h
 cases rx
 have hus:=rv.zero
 subst hus
 obtain⟨z,its,n,r,hl,e⟩:=I.lstM hH
 refine call_meets F.slot_list_reverse ⟨_,e,rfl⟩ F.entry_list_reverse (F.args_list_reverse_1 _) (AutoSeq1.list_reverse_list_0 l its.toArray n (by rw[List.size_toArray]; omega)) ⟨e,?_⟩
 refine⟨.non,_,I.lset (its':=its.reverse) hH e (by simp) r.reverse ?_,rfl,q⟩
 rw[List.length_reverse]
 omega
def Hy:R2:=λx y H Q=>∃ l k xs,x=.ref l/\y=.int k/\H l=some (.lst xs)/\-(2 ^ 63)<=k/\k < 2 ^ 63/\xs.length*k.toNat<=sizeLine /\
 ∀ p,H p=none->Q (.ref p) (upd H p (.lst (List.replicate k.toNat xs).flatten))
theorem Lo{α:Type}(xs:List α)(k:Nat):(List.replicate k xs).flatten.length=k*xs.length:=by
 induction k with
 | zero=>simp
 | succ k ih=>rw[List.replicate_succ,List.flatten_cons,List.length_append,ih,Nat.succ_mul,Nat.add_comm]
theorem Jw:aW X (binaryOp .Mult) Hy:=by
 intro pins s σ H x y v u Q I rx ry h
 obtain⟨l,k,xs,rfl,rfl,hH,h1,h2,hz,q⟩:=h
 cases rx
 obtain⟨t,rfl⟩:=ry
 obtain⟨z,its,n,r,hl,e⟩:=I.lstM hH
 have hlen:its.toArray.size*k.toNat<=sizeLine:=by rw[List.size_toArray,<- hl]; exact hz
 have hcap : ¬ its.toArray.size*k.toNat > (2 ^ 63 - 1) / 8:=by
  have:(sizeLine:Nat)<=(2 ^ 63 - 1) / 8:=by decide
  omega
 have hfit : ¬ (!Builtin.List.listFitsIndex k)=true:=by
  rw[fitsIndex_both h1 h2]
  exact Bool.false_ne_true
 have hlong : ¬ Builtin.List.listTooLong (its.toArray.size*k.toNat)=true:=by
  rw[oa hlen]
  exact Bool.false_ne_true
 have hnew:List.foldl (λx1 x2=>x1++x2) #[] (List.replicate (if its.toArray.isEmpty=true then 0 else k.toNat) its.toArray)=(List.replicate k.toNat its).flatten.toArray:=by
  have f0 : ∀ m:Nat,List.foldl (λx1 x2=>x1++x2) #[] (List.replicate m its.toArray)=(List.replicate m its).flatten.toArray:=λm=>by
   have:=CD its m []
   rw[List.nil_append]at this
   exact this
  rw[f0]
  cases its with
  | nil=>simp
  | cons a r'=>rw[if_neg (by simp)]
 refine wpAny_binaryOp_repeat_ref (T := "list") (U := "int") (by decide) ⟨_,e,rfl⟩ (λs'=>typeIs_int s' k t) noFill_list_mul F.fills_int_mul F.slot_int_rmul repeat_list F.slot_int_index.lookup
  (call_meets F.slot_int_rmul (typeIs_int s k t) F.entry_int_rmul (F.args_int_rmul_2 _ _) (int___rmul___int_list k t l its.toArray n)
    ⟨e,rfl,⟨_,e,rfl⟩,call_meets F.slot_list_mul ⟨_,e,rfl⟩ F.entry_list_mul (F.args_list_mul_2 _ _) (AutoListH.list___mul___list_int_3 l its.toArray n k t hfit hcap hlong) ⟨e,?_⟩⟩)
 rw[hnew]
 exact⟨.ref _,_,I.lnew (t':=s.toks) (r.rep k.toNat) (by rw[Lo,Nat.mul_comm]; exact hz),rfl,q _ I.fresh⟩
end
section
variable {prog:Program}{w:World}{A:Around}{E:Value->Shared->Prop}{s:Shared}
theorem Pp{a c n:Nat}(hac:a<=c)(hc:c<=n):sliceBounds (some (a:Int)) (some (c:Int)) none n=((a:Int),(c:Int),1):=by
 simp only [sliceBounds,Option.getD_none]
 have h1 : ¬ ((a:Int) < 0):=by omega
 have h2 : ¬ ((c:Int) < 0):=by omega
 simp only [h1,h2,if_false,show (1:Int) > 0 by decide,if_true]
 congr 1
 ·omega
 ·congr 1; omega
set_option maxRecDepth 100000 in
theorem Sl{l b sl:Addr}{items new:Array Value}{n n2:Nat}{vl vu:Value}{a c:Nat}{Q:Unit->Shared->Prop}
 (e:s.heap.get? l=some { cls:=.type "list",data:=.seq items n }) (e2:s.heap.get? b=some { cls:=.type "list",data:=.seq new n2 }) (hne:l≠b)
 (hs:s.heap.IsSliceOf sl vl vu .none) (pl:IsPart vl (some (a:Int))) (pu:IsPart vu (some (c:Int))) (hac:a<=c) (hc:c<=items.size)
 (hsz:items.size+new.size<=sizeLine) (h:Q () { s with heap:=s.heap.update l (Obj.mapSeq λxs=>xs.extract 0 a++new++xs.extract c xs.size) }) :
 wpAny (model prog w) A (setItem (.ref l) (.ref sl) (.ref b)) Q E s:=by
 have hl:s.heap.IsList l items:=PySem.IsL.isList e
 have hb:s.heap.IsList b new:=PySem.IsL.isList e2
 obtain⟨os,hos,hcs,hds⟩:=id hs
 have hTs:s.TypeIs (.ref sl) "slice":=⟨os,hos,hcs⟩
 have hstep : ¬ ((rawPart none == rawInt 0)=true):=Bool.false_ne_true
 have hsame:Builtin.List.listSameRef (.ref l) (.ref b)=false:=by
  unfold Builtin.List.listSameRef
  exact beq_eq_false_iff_ne.mpr hne
 have hmax:(max (a:Int) (c:Int)).toNat=c:=by omega
 have hz':((λxs:Array Value=>xs.extract 0 a++new++xs.extract c xs.size) items).size<=sizeLine+1:=by
  simp only [Array.size_append,Array.size_extract]
  omega
 unfold setItem
 try with_reducible refine wpAny_holding ?_
 first | refine wpAny_bind (wpAny_pure ?_) | skip
 refine wpAny_bind (wpAny_sequenceKey hl.typeIs (by decide) ?_)
 refine wpAny_bind (wpAny_callSpecial?_slot (name:=Str.ofString "__setitem__") hl.typeIs slot_list_setitem
  (wpAny_call_entry slot_list_setitem hl.typeIs entry_list_setitem ?_ (args_list_setitem _ _ _)))
 show wpAny _ _ (Builtin.List.listSubscript? (.ref sl) >>= _) _ _ s
 refine wpAny_bind ?_
 unfold Builtin.List.listSubscript?
 refine wpAny_bind (wpAny_specialOf hTs slice_no_index ?_)
 simp only [Option.isNone_none,if_true]
 refine wpAny_pure ?_
 show wpAny _ _ (typeOf (.ref sl) >>= _) _ _ s
 refine wpAny_bind (wpAny_typeOf hTs ?_)
 first
  | rw[if_neg (by decide)]
  | refine W.KFB.if_not (by decide) ?_
 rw[listSliceParts_eq]
 refine wpAny_bind (wpAny_bind (wpAny_field hos hds (x:=.none) rfl (wpAny_bind (wpAny_listPart .none ?_))))
 rw[if_neg hstep]
 refine wpAny_bind (wpAny_field hos hds (x:=vl) rfl (wpAny_bind (wpAny_listPart pl ?_)))
 refine wpAny_bind (wpAny_field hos hds (x:=vu) rfl (wpAny_bind (wpAny_listPart pu (wpAny_pure ?_))))
 first
  | simp only [hsame,Bool.false_eq_true,if_false]
  | refine W.KFB.if_not hsame ?_
  | (dsimp only
     rw[if_neg (by rw[hsame]; exact Bool.false_ne_true)])
 refine wpAny_bind (m:=Builtin.List.listAllItems (.ref b) "must assign iterable to extended slice") ?_
 unfold Builtin.List.listAllItems
 refine wpAny_bind (wpAny_typeOf hb.typeIs ?_)
 first
  | refine W.KFB.if_so (by decide) ?_
  | rw[if_pos (by decide)]
  | simp only [beq_self_eq_true,Bool.true_or,if_true]
 unfold Builtin.List.listItems
 refine wpAny_bind (wpAny_seqItems e2 rfl (wpAny_pure ?_))
 refine wpAny_bind (wpAny_bind (wpAny_seqItems e rfl (wpAny_pure ?_)))
 refine wpAny_bind (wpAny_of_eq ((sliceIndices_raw (some (a:Int)) (some (c:Int)) none items.size (by simp)).trans (congrArg (pure:Int × Int × Int->Sem (Int × Int × Int)) (Pp hac hc))) ?_)
 show wpAny _ _ (if ((1:Int) == 1)=true then _ else _) _ _ s
 rw[if_pos (by decide)]
 refine wpAny_bind (wpAny_rule ?_)
 first
  | simp only [oa hsz,Bool.false_eq_true,if_false]
  | refine W.KFB.if_not (oa hsz) ?_
 first | refine wpAny_bind (wpAny_pure ?_) | skip
 show wpAny _ _ (updateSeq l (λxs=>xs.extract 0 ((a:Int)).toNat++new++xs.extract (max (a:Int) (c:Int)).toNat xs.size) >>= _) _ _ s
 rw[hmax,Int.toNat_natCast]
 refine wpAny_bind (wpAny_updateSeq (hz:=Nat.le_trans (Nat.le_add_right _ _) hsz) (_hz':=hz') e rfl ?_)
 refine wpAny_bind (wpAny_letGo ?_)
 first
  | exact wpAny_bind (wpAny_pure (wpAny_pure ⟨.none,rfl,wpAny_pure h⟩))
  | exact wpAny_pure ⟨.none,rfl,wpAny_pure h⟩
end
end L2
namespace Att
open PySem PySem.W PySem.Calls PyProof.Rows
theorem LN{P:Params}{h:Heap} : ∀ (ns:List Int) (vs:List Value),WellAll P h vs (ns.map WData.int)->IntsAre vs ns:=by
 intro ns
 induction ns with
 | nil =>
  intro vs w
  rw[List.map_nil]at w
  cases w
  exact .nil
 | cons n ns ih =>
  intro vs w
  rw[List.map_cons]at w
  cases w with
  | cons a b =>
   cases a
   exact .cons _ _ (ih _ b)
theorem Gv{l:OpenLaw}{n:Nat}(hn:l.most=some n){P:Params}{h:Heap}{args:List WData}{vals:List Value}
 (hpre:l.row.toRowW.claim.pre args=true) (hwl:WellAll P h vals args) :
 ∃ a vs ns,vals=[Value.ref a]/\args=[WData.list (ns.map WData.int)]/\h.get? a=some { cls:=.type "list",data:=.seq vs.toArray }/\IntsAre vs ns/\ns.length<=n:=by
 have hsh:WShape.hasAll [] args [.list .int]=true:=(pre_splitW hpre).1
 have hc:l.pre.holds [] { args:=args }=true:=(pre_splitW hpre).2
 obtain⟨d,r,rfl,h1,h2⟩:=hasAllW_cons hsh
 obtain rfl:=hasAllW_nil h2
 obtain⟨xs,rfl,h3⟩:=hasW_list h1
 obtain⟨ns,rfl⟩:=items_int h3
 have hlen:ns.length<=n:=by
  unfold OpenLaw.pre at hc
  have h4:(WTm.not (.lt (.lit (.int (n:Int))) (.len (.arg 0)))).holds [] { args:=[.list (ns.map .int)] }=true:=by
   have h4:=(holds_andW hc).1
   rw[hn]at h4
   exact h4
  have h5:=condW_of h4 (w_not (w_lt w_lit (w_len_list (w_arg rfl))))
  rw[List.length_map]at h5
  refine Nat.le_of_not_lt λq=>?_
  have q':(n:Int) < ((ns.length:Nat):Int):=by omega
  first
   | (rw[decide_eq_true q']at h5; exact absurd h5 (by decide))
   | (simp at h5; omega)
 cases hwl with
 | cons w1 w2 =>
  cases w2
  cases w1 with
  | list ho hall=>exact⟨_,_,ns,rfl,rfl,ho,LN ns _ hall,hlen⟩
theorem IH(l:OpenLaw)(args:List WData):l.row.toRowW.claim.post args (.bool true) args=true :=
 postW_of (r:=l.row.toRowW) (X:=(true == true))
  (show WShape.has [] (.bool true) .bool=true by first | rfl | decide | simp[WShape.has,WShape.arms,WShape.armsAll])
  (show (WTm.eq .res (.lit (.bool true))).value [] { args:=args,res:=some (.bool true),after:=args }=some (.bool (true == true)) from w_eq_bool (w_res rfl) w_lit) rfl
theorem attach_call{l:OpenLaw}{n:Nat}{q:Program}{loose:List Str}{XP:(Str->Option Value)->Heap->Prop}{YP:World->Heap->Prop}{d:DefRec}
 (hn:l.most=some n) (hdf:d.params.defaults=[])
 (call : ∀ (w:World) (s₀ s₁:Shared) (mg mb:Str->Option Value) (fa:Addr) (o:Obj) (pm cd doc:Value) (a:Addr) (vs:List Value) (ns:List Int),
   Ground q loose [] XP w s₀ mg mb s₁.heap->YP w s₁.heap ->
   s₁.heap.get? fa=some o->o.data=.func (docDef d.name d.params d.body d.scope pm cd doc)->s₁.heap.CodeRec cd d.name->mg d.name=some (.ref fa) ->
   s₁.heap.get? a=some { cls:=.type "list",data:=.seq vs.toArray }->IntsAre vs ns->ns.length<=n->s₁.gens = #[] ->
   codeAny (model l.prog w) callerA (.call (.ref fa) ⟨[.ref a],[]⟩) (λr s'=>r=.ok (.ret (.bool true))/\OldK s₁.heap s'.heap/\s'.os=s₁.os/\AllBare s'.gens) s₁) :
 WalkO q loose XP YP l.row.toRowW d [] (λf vs=>PySem.call f vs):=by
 intro w s₀ s₁ mg mb G Y fa o pm cd doc dV kV ho hd hcd hD hmg hg args vals as hpre hlay hrd hwl hlo
 obtain rfl:dV=.none:=Dflts.none hD hdf
 obtain rfl:kV=.none:=Dflts.noKw hD
 obtain⟨a,vs,ns,rfl,rfl,hobj,hints,hlen⟩:=Gv hn hpre hwl
 refine enter_call (codeAny_mono (call w s₀ s₁ mg mb fa o pm cd doc a vs ns G Y ho (fd_plain hd) hcd hmg hobj hints hlen hg) λr s' hq=>?_)
 obtain⟨rfl,h2,h3,h4⟩:=hq
 exact⟨.inl ⟨.bool true,.bool true,[],rfl,λ_=>rfl,.bool true,IH l _,λ_=>⟨List.Pairwise.nil,λ_ hm=>(nomatch hm)⟩⟩,h2,h3,h4⟩
end Att
namespace L2
open PySem PySem.Spec PyProof.Rows
theorem yV : ∀ {vs:List Value} {ns:List Int},IntsAre vs ns->aI (ns.map V.int) vs
 | _,_,.nil=>.nil
 | _,_,.cons n t h=>.cons ⟨t,rfl⟩ (yV h)
def yH(H:Hp):Prop:=∀ b,H b=none\/∃ o xs,H b=some (.frz o (.lst xs))
theorem Lr{P:Program}{w:World}{K:W.Frag}{mg mb:Str->Option Value}{CX:fR}{k:Nat}{fa a:Addr}{fd:FuncData}{x:Str}{sp:Sp}{s₁:Shared}{vs:List Value}{ns:List Int}
 (KX:K.In s₁.heap) (hns:s₁.heap.Ns mainGlobals mg) (hb:s₁.heap.Ns builtinsNs mb) (hbb : ∀ x:Str,x ≠ "__name__"->mb x=bootBuiltins x) (hlim:s₁.heap.NoLimit) (hg:s₁.gens = #[])
 (ha:s₁.heap.get? a=some { cls:=.type "list",data:=.seq vs.toArray }) (hi:IntsAre vs ns) (hl:ns.length<=sizeLine) (hr:bM k callerA)
 (F : ∀ base:Heap,K.In base->base.Ns mainGlobals mg->bv P w K mg base CX k fa fd [x] sp) (hbind : ∀ (s:Shared) (u:Value),BindsTo s fd ⟨[u],[]⟩ [(x,u)])
 (hsp : ∀ H:Hp,yH H->aE K H a (ns.map V.int)->sp [.ref a] H (λv _=>v=.bl true) λ_ _ _=>False)
 (hCX : ∀ H e s',CX [] H s₁ (λ_ _ _=>False) e s'->False) :
 codeAny (model P w) callerA (.call (.ref fa) ⟨[.ref a],[]⟩) (λr s'=>r=.ok (.ret (.bool true))/\OldK s₁.heap s'.heap/\s'.os=s₁.os/\AllBare s'.gens) s₁:=by
 have rv:=yV hi
 have lenV:=hi.length
 have core : ∀ H:Hp,yH H->aE K H a (ns.map V.int)->bw P w H s₁.heap->(∀ b,H b≠none->b=a)->(H a≠none->K.lookup a=none) ->
  codeAny (model P w) callerA (.call (.ref fa) ⟨[.ref a],[]⟩) (λr s'=>r=.ok (.ret (.bool true))/\OldK s₁.heap s'.heap/\s'.os=s₁.os/\AllBare s'.gens) s₁:=by
  intro H hO hS hok hA hK
  have base_of : ∀ {b:Addr} {o:Obj},s₁.heap.get? b=some o->H b=none->(gW s₁.heap H).get? b=some o:=λe n=>L5 e n
  have noA : ∀ {b:Addr} {o:Obj} {es:Array DictEntry} {ep:Nat},s₁.heap.get? b=some o->o.data=.dict es ep->H b=none:=λ{b o es ep} e d=>by
   cases q:H b with
   | none=>rfl
   | some u =>
    have e':b=a:=hA b (by rw[q]; simp)
    subst e'
    rw[ha]at e; cases e
    have d':Data.seq vs.toArray _=Data.dict es ep:=d
    cases d'
  have nsK : ∀ {b:Addr} {m:Str->Option Value},s₁.heap.Ns b m->(gW s₁.heap H).Ns b m:=λ{b m} ⟨o,es,ep,e,d,r⟩=>⟨o,es,ep,base_of e (noA e d),d,r⟩
  have hKb:K.In (gW s₁.heap H):=λb o e=>base_of (KX b o e) (by
   cases q:H b with
   | none=>rfl
   | some u =>
    have e':b=a:=hA b (by rw[q]; simp)
    subst e'
    rw[hK (by rw[q]; simp)]at e; cases e)
  have hM:Mod K mg (gW s₁.heap H):=⟨hKb,nsK hns,⟨mb,nsK hb,hbb⟩,let ⟨mc,h1,h2⟩:=hlim; ⟨mc,nsK h1,h2⟩⟩
  have e0:iB P w K mg (gW s₁.heap H) callerA [] s₁ H:=⟨rfl,hM,λb o e=>JZ e,Nat.le_of_eq (L4 _ _),trivial,λb hb=>absurd (show b∈([]:List Addr) from hb) (by simp),hok,.of_eq hg⟩
  refine codeAny_mono ((F _ hKb (nsK hns)).run callerA [] s₁ H ⟨[.ref a],[]⟩ [.ref a] [.ref a] _ _ hr e0 (hbind s₁ (.ref a)) (.cons rfl .nil) (hsp H hO hS)) λr s' h=>?_
  cases r with
  | error e=>exact (hCX H e s' h).elim
  | ok fl =>
   cases fl with
   | next=>exact False.elim h
   | brk=>exact False.elim h
   | cont=>exact False.elim h
   | ret u =>
    obtain⟨v,H',os,bare,un,hok',r',q⟩:=h
    have q':v=.bl true:=q
    subst q'
    obtain rfl:u=Value.bool true:=r'
    refine⟨rfl,OldK.of_keep λb o e=>?_,os,bare⟩
    cases q:H b with
    | none=>exact un.keep b o e q (by intro z; exact absurd (show b∈([]:List Addr) from z) (by simp)) (by simp)
    | some u =>
     rcases hO b with z | ⟨ob,xs,z⟩
     ·rw[q]at z; cases z
     ·have z2:=un.frzs b ob _ z
      obtain⟨e1,_⟩:=hok b _ z
      obtain⟨e2,_⟩:=hok' b _ z2
      rw[e]at e1; cases e1
      exact e2
 cases hk:K.lookup a with
 | some o =>
  have e:=KX a o hk
  rw[ha]at e
  cases e
  refine core (λ_=>none) (λ_=>.inl rfl) (.inr ⟨_,vs.toArray,_,hk,rfl,rfl,rfl,by rw[List.size_toArray,lenV]; exact hl,by simpa using rv⟩) (λb u z=>by have z':(none:Option HO)=some u:=z; cases z') (λb z=>absurd rfl z) λz=>absurd rfl z
 | none =>
  refine core (λb=>if b=a then some (.frz { cls:=.type "list",data:=.seq vs.toArray } (.lst (ns.map V.int))) else none) (λb=>?_) (.inl (.inr ⟨{ cls:=.type "list",data:=.seq vs.toArray },if_pos rfl⟩)) (λb u z=>?_) (λb z=>?_) λ_=>hk
  ·by_cases hb:b=a
   ·exact .inr ⟨_,_,if_pos hb⟩
   ·exact .inl (if_neg hb)
  ·by_cases hb:b=a
   ·have z':=(if_pos hb).symm.trans z
    cases z'
    subst hb
    exact⟨ha,by rw[List.length_map]; exact hl,vs,_,rv,ha⟩
   ·have z':=(if_neg hb).symm.trans z
    cases z'
  ·by_cases hb:b=a
   ·exact hb
   ·exact absurd (if_neg hb) z
abbrev KOf{K:W.Frag}{h:Heap}(_:K.In h):W.Frag:=K
theorem walk_of{l:W.OpenLaw}{n k:Nat}{q:Program}{loose:List Str}{XP:(Str->Option Value)->Heap->Prop}{YP:World->Heap->Prop}{d:DefRec}{K:Params->W.Frag}{CX:World->fR}{sp:World->Sp}{x:Str}
 (hn:l.most=some n) (hn2:n<=sizeLine) (hdf:d.params.defaults=[]) (hr:bM k callerA)
 (hY : ∀ (w:World) (h:Heap),YP w h->(K w.params).In h)
 (F : ∀ (w:World) (mg:Str->Option Value) (fa:Addr) (h:Heap),(K w.params).In h->h.Ns mainGlobals mg->mg d.name=some (.ref fa) ->
   ∃ fd:FuncData,(∀ (s:Shared) (u:Value),BindsTo s fd ⟨[u],[]⟩ [(x,u)]) /\
    ∀ base:Heap,(K w.params).In base->base.Ns mainGlobals mg->bv l.prog w (K w.params) mg base (CX w) k fa fd [x] (sp w))
 (hsp : ∀ (w:World) (H:Hp) (a:Addr) (ns:List Int),ns.length<=n->yH H->aE (K w.params) H a (ns.map V.int)->sp w [.ref a] H (λv _=>v=.bl true) λ_ _ _=>False)
 (hCX : ∀ (w:World) (H:Hp) (s:Shared) (e:Value) (s':Shared),CX w [] H s (λ_ _ _=>False) e s'->False) :
 W.WalkO q loose XP YP l.row.toRowW d [] (λf vs=>PySem.call f vs):=by
 refine Att.attach_call hn hdf λw s₀ s₁ mg mb fa o pm cd doc a vs ns G Y ho hd hcd hmg hobj hints hlen hg=>?_
 have KX:=hY w _ Y
 obtain⟨fd,hb,hF⟩:=F w mg fa _ KX G.T.g hmg
 exact Lr KX G.T.g G.T.b G.T.builtins G.T.nolimit hg hobj hints (Nat.le_trans hlen hn2) hr hF hb (λH hO hS=>hsp w H a ns hlen hO hS) λH e s'=>hCX w H s₁ e s'
end L2
/- THE LAST THEOREM (shape; LID,My.* are yours):
 My.Adr: a structure of the addresses that your layer names (classes,functions); My.Txt K t: a structure (Prop) of the equations over K;
 My.txt_mk : {K} {implicit addresses ..} (e1:nsIn K mainGlobals "law" = some (some (.ref f))) (e2:K.lookup f=some ⟨oc,od,.func (fnOf "law" "law" params body scope dV kV doc pm an cdv ct),sl⟩) (e3:codeIn K cdv "law" = true) .. : ∃ t,My.Txt K t
set_option maxRecDepth 100000 in
set_option maxHeartbeats 0 in
theorem PySem.Challenge.cw_LID_holds : PySem.Challenge.rw_LID.Holds := by
 w_on; o_law; k_head; (case hw=>w_witness2)
 k_fill
 refine L2.walk_of (l:=PySem.Challenge.rw_LID) (n:=63) (k:=40) (x := "script") (CX:=λw=>..) (sp:=λ_=>My.rS) rfl (by decide) rfl ⟨rfl,by decide,by decide⟩ (λw h Y=>W.kIn_of Y) ?F ?S ?C
 case F =>
  intro w mg fa h KX G hmg
  have T : ∃ t,My.Txt (L2.KOf KX) t:=by
   dsimp only [L2.KOf]                          -- K must stand as «<heap const> w.params» for k_is
   refine' My.txt_mk ?e1 ?e2 ?e3 ..
   (case e1=>W.k_is)                    -- in the order: a name->its address->its object->its parts
   (case e2=>W.k_is)
   ..
  obtain⟨t,T⟩:=T
  have e0:=hmg.symm.trans (W.mg_of KX G T.law)
  cases e0                                       -- fa is the law's own address
  exact⟨_,λs u=>.of_eq rfl,λbase kb nb=>My.law_fn T kb nb⟩     -- if «.of_eq rfl» comes too early: refine' ⟨_,?b,λbase kb nb=>My.law_fn T kb nb⟩; exact λs u=>.of_eq rfl
 case S=>exact λw H a ns hl hO hS=>..
 case C=>exact ..
(the tactic k_is has no namespace: write k_is) -/
namespace L2
open PySem PySem.Spec PyProof.Rows
def bt(s:Stmt)(j:Nat):Stmt:=match s with
 | .ClassDef _ _ _ body _ _ _ _ _ _ _=>body.getD j (.Pass ⟨0,0,0,0⟩)
 | _=>.Pass ⟨0,0,0,0⟩
def az(s:Stmt):Arguments:=match s with
 | .FunctionDef _ a _ _ _ _ _ _ _ _=>a
 | _=>{ posonlyargs:=[],args:=[],vararg:=none,kwonlyargs:=[],kw_defaults:=[],kwarg:=none,defaults:=[] }
def ay(s:Stmt):List Stmt:=match s with
 | .FunctionDef _ _ b _ _ _ _ _ _ _=>b
 | _=>[]
def ag(s:Stmt):Scope:=match s with
 | .FunctionDef _ _ _ _ _ _ sc _ _ _=>sc
 | _=>{ kind:=.function,names:=[],isGenerator:=false,isCoroutine:=false }
abbrev bC:fR:=λ_ _ _ _ _ _=>False
abbrev E0:XK:=λ_ _ _=>False
theorem AV{X:Cx}:iz bC X E0:=λ_ _ _ _ _ _ _ h=>h.elim
structure aO (K:W.Frag) (x qual:Str) (st:Stmt) (f:Addr) (fd:FuncData):Prop where
 ex : ∃ (oc:Value) (od:Option Addr) (kV doc pm:Value) (an:Option Addr) (cdv ct:Value) (osl:Array (Option Value)),
  fd=W.fnOf x qual (az st) (ay st) (ag st) .none kV doc pm an cdv ct/\K.lookup f=some ⟨oc,od,.func fd,osl⟩/\W.codeIn K cdv qual=true
 kp:W.keepIn K (.ref f)=true
section
variable {P:Program}{w:World}{K:W.Frag}{mg:Str->Option Value}{base:Heap}
theorem aO.ok{x qual:Str}{st:Stmt}{f:Addr}{fd:FuncData}{N ps:List Str}{k:Nat}{sp:Sp}(F:aO K x qual st f fd)(S:aB N ps (ag st))(len : ∀ vs H Q E,sp vs H Q E->vs.length=ps.length)
 (hbody : ∀ (cdv:Value) (A:Around) (outer:List Env) (s:Shared) (H:Hp) (vs:List V) (Q:VK) (E:XK),bM k (A.deeper (envOfC qual (ag st) s.heap.objs.size f cdv))->sp vs H Q E ->
   ∃ t,eZ (ip bC P w K mg base N qual (ag st) f cdv A outer s H E).nox (ay st) t/\t { nx:=λ_ H'=>Q .non H',rt:=Q } (gj N vs) H):bv P w K mg base bC (k+1) f fd ps sp:=by
 obtain⟨oc,od,kV,doc,pm,an,cdv,ct,osl,rfl,lk,hcd⟩:=F.ex
 refine CF lk hcd S len λA outer s H vs Q E hr hsp=>?_
 obtain⟨t,h,q⟩:=hbody cdv A outer s H vs Q E hr hsp
 exact⟨t,h.nox,q⟩
theorem aO.binds{x qual:Str}{st:Stmt}{f:Addr}{fd:FuncData}{ps:List Str}(F:aO K x qual st f fd)
 (h : ∀ (kV doc pm:Value) (an:Option Addr) (cdv ct:Value) (us:List Value),us.length=ps.length->bindArgs (W.fnOf x qual (az st) (ay st) (ag st) .none kV doc pm an cdv ct) ⟨us,[]⟩=pure (ps.zip us)):ao K fd ps []:=by
 obtain⟨oc,od,kV,doc,pm,an,cdv,ct,osl,rfl,lk,hcd⟩:=F.ex
 exact .all (h kV doc pm an cdv ct)
theorem aT{x qual:Str}{st:Stmt}{f:Addr}{oc:Value}{od an:Option Addr}{osl:Array (Option Value)}{kV doc pm cdv ct:Value}(l:K.lookup f=some ⟨oc,od,.func (W.fnOf x qual (az st) (ay st) (ag st) .none kV doc pm an cdv ct),osl⟩)
 (c:W.codeIn K cdv qual=true) (k:W.keepIn K (.ref f)=true):aO K x qual st f (W.fnOf x qual (az st) (ay st) (ag st) .none kV doc pm an cdv ct):=⟨⟨oc,od,kV,doc,pm,an,cdv,ct,osl,rfl,l,c⟩,k⟩
end
section
variable {X:Cx}
theorem pv(i:Nat){x:Str}{pos:Pos}(hN:X.N[i]? = some x:=by rfl)(hv:m7 X.env.scope x:=by first | exact Or.inl rfl | exact Or.inr (Or.inl rfl) | exact Or.inr (Or.inr rfl))(hd:(x == ("__debug__" : Str))=false:=by decide)
 (hcd:(x == ("__classdict__" : Str))=false:=by decide):PE X (.Name x pos) (za i):=AO hN hv hd hcd
end
theorem mn{A B:Prop}(h:B):if false=true then A else B:=by
 rw[if_neg Bool.false_ne_true]
 exact h
theorem gU{A B:Prop}(h:A):if true=true then A else B:=by
 rw[if_pos rfl]
 exact h
theorem ak{c A B:Prop}[Decidable c](h1:c->A)(h2 : ¬ c->B):if c then A else B:=by
 by_cases h:c
 ·rw[if_pos h]
  exact h1 h
 ·rw[if_neg h]
  exact h2 h
def af(H H':Hp):Prop:=∀ b o,H b=some o->H' b=some o
theorem af.refl(H:Hp):af H H:=λ_ _ h=>h
theorem af.trans{H H1 H2:Hp}(a:af H H1)(b:af H1 H2):af H H2:=λc o h=>b c o (a c o h)
theorem af.free{H H':Hp}(e:af H H'){l:Addr}(h:H' l=Option.none):H l=Option.none:=by
 cases q:H l with
 | none=>rfl
 | some o =>
  rw[e l o q]at h
  cases h
theorem af.seq{K:W.Frag}{H H':Hp}{a:Addr}{xs:List V}(e:af H H')(h:aE K H a xs):aE K H' a xs:=by
 rcases h with (h | ⟨o,h⟩) | h
 ·exact .inl (.inl (e _ _ h))
 ·exact .inl (.inr ⟨o,e _ _ h⟩)
 ·exact .inr h
end L2
set_option maxHeartbeats 4000000
namespace HT
open PySem PyProof.Rows
end HT
namespace L2
open PySem PySem.Spec PyProof.Rows
theorem PE.imp{X:Cx}{e:Expr}{t t':TE}(h:PE X e t)(k : ∀ σ H Q,t' σ H Q->t σ H Q):PE X e t':=λpins s σ H Q I q=>h pins s σ H Q I (k σ H Q q)
theorem aW.imp{X:Cx}{f:Value->Value->Sem Value}{r r':R2}(h:aW X f r)(k : ∀ x y H Q,r' x y H Q->r x y H Q):aW X f r':=λpins s σ H x y v u Q I rx ry q=>h pins s σ H x y v u Q I rx ry (k x y H Q q)
theorem cL.imp{X:Cx}{f:Value}{r r':List V->Hp->VK->Prop}(h:cL X f r)(k : ∀ xs H Q,r' xs H Q->r xs H Q):cL X f r':=λpins s σ H xs us Q I rs q=>h pins s σ H xs us Q I rs (k xs H Q q)
theorem fB.imp{X:Cx}{r r':R2}(h:fB X r)(k : ∀ x y H Q,r' x y H Q->r x y H Q):fB X r':=λvalue slice pins s σ H x y v u Q I rx ry q hs=>h value slice pins s σ H x y v u Q I rx ry (k x y H Q q) hs
theorem af.new{H:Hp}{p:Addr}{o:HO}(h:H p=none):af H (upd H p o):=λb u e=>by rw[aw (aH e h)]; exact e
structure aZ (H:Hp) (p:Addr) (o:HO) (H':Hp):Prop where
 nw:H p=none
 sm:af H H'
 at_:H' p=some o
theorem aZ.mk'{H:Hp}{p:Addr}{o:HO}(h:H p=none):aZ H p o (upd H p o):=⟨h,af.new h,aQ⟩
theorem aZ.lst{K:W.Frag}{H H':Hp}{p:Addr}{xs:List V}(g:aZ H p (.lst xs) H'):aE K H' p xs:=.of g.at_
theorem aZ.tup{K:W.Frag}{H H':Hp}{p:Addr}{xs:List V}(g:aZ H p (.tup xs) H'):bd K H' p xs:=.of g.at_
theorem af.put{H H':Hp}{p:Addr}{o:HO}(s:af H H')(h:H p=none):af H (upd H' p o):=λb u e=>by
 rw[aw (aH e h)]
 exact s b u e
def mV(i:Nat):TE:=λσ H Q=>match σ[i]? with
 | some (some v)=>Q v H
 | _=>False
theorem vv(i:Nat){X:Cx}{x:Str}{pos:Pos}(hN:X.N[i]? = some x:=by rfl)(hv:m7 X.env.scope x:=by first | exact Or.inl rfl | exact Or.inr (Or.inl rfl) | exact Or.inr (Or.inr rfl))(hd:(x == ("__debug__" : Str))=false:=by decide)
 (hcd:(x == ("__classdict__" : Str))=false:=by decide):PE X (.Name x pos) (mV i):=(AO hN hv hd hcd).imp λσ H Q q=>by
 unfold mV at q
 split at q
 ·exact⟨_,by assumption,q⟩
 ·exact q.elim
section
variable {X:Cx}{a b:Expr}{ta tb:TE}{pos:Pos}{bN:List Expr}
def Bn(ta tb:TE):TE:=λσ H Q=>ta σ H λx H1=>match x with
 | .bl c=>if c=true then tb σ H1 Q else Q (.bl false) H1
 | _=>False
def Bj(ta tb:TE):TE:=λσ H Q=>ta σ H λx H1=>match x with
 | .bl c=>if c=true then Q (.bl true) H1 else tb σ H1 Q
 | _=>False
def Bk(ta:TE):TE:=λσ H Q=>ta σ H λx H1=>match x with
 | .bl c=>Q (.bl (!c)) H1
 | _=>False
theorem K6(ha:PE X a ta)(hb:PE X (.BoolOp .And (b :: bN) pos) tb):PE X (.BoolOp .And (a :: b :: bN) pos) (Bn ta tb):=by
 intro pins s σ H Q I h
 refine BoolOp_and (ax (ha pins s σ H _ I h) λv s1 ⟨x,H1,I1,r1,q1⟩=>?_)
 cases x with
 | bl c =>
  cases r1
  refine wpAny_truthy_bool ?_
  cases c with
  | true=>exact hb pins s1 σ H1 Q I1 q1
  | false=>exact⟨.bl false,H1,I1,rfl,q1⟩
 | _=>exact False.elim q1
theorem KZ(ha:PE X a ta)(hb:PE X (.BoolOp .Or (b :: bN) pos) tb):PE X (.BoolOp .Or (a :: b :: bN) pos) (Bj ta tb):=by
 intro pins s σ H Q I h
 refine BoolOp_or (ax (ha pins s σ H _ I h) λv s1 ⟨x,H1,I1,r1,q1⟩=>?_)
 cases x with
 | bl c =>
  cases r1
  refine wpAny_truthy_bool ?_
  cases c with
  | false=>exact hb pins s1 σ H1 Q I1 q1
  | true=>exact⟨.bl true,H1,I1,rfl,q1⟩
 | _=>exact False.elim q1
theorem K0(ha:PE X a ta):PE X (.UnaryOp .Not a pos) (Bk ta):=by
 intro pins s σ H Q I h
 refine UnaryOp_ (ax (ha pins s σ H _ I h) λv s1 ⟨x,H1,I1,r1,q1⟩=>?_)
 cases x with
 | bl c =>
  cases r1
  exact not_of (wpAny_truthy_bool ⟨.bl (!c),H1,I1,rfl,q1⟩)
 | _=>exact False.elim q1
def mB(t:TE):TT:=λσ H Q=>t σ H λx H1=>match x with
 | .bl c=>Q c H1
 | _=>False
theorem J4{e:Expr}{t:TE}(h:PE X e t)(he : ∀ whole,isTrue e X.env whole=(do let v <- whole; standAt e.pos; holding [v] (truthy v)):=by intro _; rfl):PT X e (mB t):=by
 intro pins s σ H Q I hw
 refine isTrue_plain (ax (h pins s σ H _ I hw) λv s1 ⟨x,H1,I1,r1,q1⟩=>?_) (he _)
 cases x with
 | bl c =>
  cases r1
  exact wpAny_truthy_bool ⟨H1,I1,q1⟩
 | _=>exact False.elim q1
theorem J8{op:CmpOp}{r:R2}(ho:aW X (compareOp op) r)(ha:PE X a ta)(hb:PE X b tb)(hm:behindInMarks op b=false):PT X (.Compare a [op] [b] pos) (mB (fW r ta tb)):=by
 intro pins s σ H Q I h
 refine wpAny_isTrue_Compare1 (ax (ha pins s σ H _ I h) λv s1 ⟨x,H1,I1,r1,q1⟩=>ax (hb pins s1 σ H1 _ I1 q1) λu s2 ⟨y,H2,I2,r2,q2⟩ =>
  ax (ho pins s2 σ H2 x y v u _ I2 r1 r2 q2) λc s3 ⟨z,H3,I3,r3,q3⟩=>?_) hm
 cases z with
 | bl k =>
  cases r3
  exact wpAny_truthy_bool ⟨H3,I3,q3⟩
 | _=>exact False.elim q3
def oo(r r':R2)(ta tb tc:TE):TE:=λσ H Q=>ta σ H λx H1=>tb σ H1 λy H2=>r x y H2 λz H3=>match z with
 | .bl k=>if k=true then tc σ H3 λw' H4=>r' y w' H4 Q else Q (.bl false) H3
 | _=>False
theorem K5{c:Expr}{tc:TE}{op op':CmpOp}{r r':R2}(ho:aW X (compareOp op) r)(ho':aW X (compareOp op') r')(ha:PE X a ta)(hb:PE X b tb)(hc:PE X c tc)
 (hm:lastMarks [op,op'] [b,c]=false:=by with_unfolding_all rfl):PE X (.Compare a [op,op'] [b,c] pos) (oo r r' ta tb tc):=by
 intro pins s σ H Q I h
 refine Compare_chain (ax (ha pins s σ H _ I h) λv s1 ⟨x,H1,I1,r1,q1⟩=>chain_link (ax (hb pins s1 σ H1 _ I1 q1) λu s2 ⟨y,H2,I2,r2,q2⟩ =>
  ax (ho pins s2 σ H2 x y v u _ I2 r1 r2 q2) λd s3 ⟨z,H3,I3,r3,q3⟩=>?_)) hm
 cases z with
 | bl k =>
  cases r3
  refine wpAny_truthy_bool ?_
  cases k with
  | false=>exact ite_ff ⟨.bl false,H3,I3,rfl,q3⟩
  | true=>exact ite_tt (chain_last (ax (hc pins s3 σ H3 _ I3 q3) λw' s4 ⟨z',H4,I4,r4,q4⟩=>ho' pins s4 σ H4 y z' u w' Q I4 r2 r4 q4))
 | _=>exact False.elim q3
theorem J9{c:Expr}{tc:TE}{op op':CmpOp}{r r':R2}(ho:aW X (compareOp op) r)(ho':aW X (compareOp op') r')(ha:PE X a ta)(hb:PE X b tb)(hc:PE X c tc)
 (hm:lastMarks [op,op'] [b,c]=false:=by with_unfolding_all rfl):PT X (.Compare a [op,op'] [b,c] pos) (mB (oo r r' ta tb tc)):=by
 intro pins s σ H Q I h
 refine isTrue_chain (ax (ha pins s σ H _ I h) λv s1 ⟨x,H1,I1,r1,q1⟩=>test_link (ax (hb pins s1 σ H1 _ I1 q1) λu s2 ⟨y,H2,I2,r2,q2⟩ =>
  ax (ho pins s2 σ H2 x y v u _ I2 r1 r2 q2) λd s3 ⟨z,H3,I3,r3,q3⟩=>?_)) hm
 cases z with
 | bl k =>
  cases r3
  refine wpAny_truthy_bool ?_
  cases k with
  | false=>exact ite_ff ⟨H3,I3,q3⟩
  | true =>
   refine ite_tt (test_last (ax (hc pins s3 σ H3 _ I3 q3) λw' s4 ⟨z',H4,I4,r4,q4⟩=>ax (ho' pins s4 σ H4 y z' u w' _ I4 r2 r4 q4) λd' s5 ⟨z2,H5,I5,r5,q5⟩=>?_))
   cases z2 with
   | bl k2 =>
    cases r5
    exact wpAny_truthy_bool ⟨H5,I5,q5⟩
   | _=>exact False.elim q5
 | _=>exact False.elim q3
def sG(K:W.Frag)(t:TE):TT:=λσ H Q=>t σ H λx H1=>match x with
 | .non=>Q false H1
 | .bl c=>Q c H1
 | .int i=>Q (i != 0) H1
 | .ref p=>∃ xs,(aE K H1 p xs\/bd K H1 p xs)/\Q (!xs.isEmpty) H1
 | _=>False
theorem J5{e:Expr}{t:TE}(h:PE X e t)(he : ∀ whole,isTrue e X.env whole=(do let v <- whole; standAt e.pos; holding [v] (truthy v)):=by intro _; rfl):PT X e (sG X.K t):=by
 intro pins s σ H Q I hw
 refine isTrue_plain (ax (h pins s σ H _ I hw) λv s1 ⟨x,H1,I1,r1,q1⟩=>?_) (he _)
 cases x with
 | non=>exact lO pins s1 σ H1 _ v Q I1 r1 ⟨false,rfl,q1⟩
 | bl c=>exact lO pins s1 σ H1 _ v Q I1 r1 ⟨c,rfl,q1⟩
 | int i=>exact lO pins s1 σ H1 _ v Q I1 r1 ⟨i != 0,rfl,q1⟩
 | ref p =>
  obtain⟨xs,hx,q1⟩:=q1
  rcases hx with hx | hx
  ·exact lO pins s1 σ H1 _ v Q I1 r1 ⟨_,.inl ⟨xs,hx,rfl⟩,q1⟩
  ·exact lO pins s1 σ H1 _ v Q I1 r1 ⟨_,.inr (.inl ⟨xs,hx,rfl⟩),q1⟩
 | _=>exact False.elim q1
end
section
variable {X:Cx}{a b:Expr}{ta tb:TE}{pos:Pos}
def gI(C:Int->Int->Prop)(g:Int->Int->V):R2:=λx y H Q=>match x,y with
 | .int i,.int j=>C i j/\Q (g i j) H
 | _,_=>False
def lg(g:Int->Int->V):R2:=λx y H Q=>match x,y with
 | .int i,.int j=>Q (g i j) H
 | _,_=>False
theorem my{f:Value->Value->Sem Value}{g:Int->Int->V}(h:aW X f (gO g)):aW X f (lg g):=h.imp λx y H Q q=>by
 cases x <;> cases y <;> first | exact False.elim q | exact⟨_,_,rfl,rfl,q⟩
theorem tu{f:Value->Value->Sem Value}{C:Int->Int->Prop}{g:Int->Int->V}(h:aW X f (rI C g)):aW X f (gI C g):=h.imp λx y H Q q=>by
 cases x <;> cases y <;> first | exact False.elim q | exact⟨_,_,rfl,rfl,q.1,q.2⟩
theorem cv:aW X (binaryOp .Sub) (lg λi j=>.int (i - j)):=my Ju
theorem oR:aW X (binaryOp .Mod) (gI (λ_ j=>0 < j) λi j=>.int (i%j)):=tu A2
theorem NJ:aW X (binaryOp .RShift) (gI (λ_ j=>0<=j) λi j=>.int (i / 2 ^ j.toNat)):=tu Jv
theorem dA:aW X (compareOp .Lt) (lg λi j=>.bl (decide (i < j))):=my JA
theorem fk:aW X (compareOp .LtE) (lg λi j=>.bl (decide (i<=j))):=my JB
theorem gy:aW X (compareOp .Gt) (lg λi j=>.bl (decide (j < i))):=my JE
theorem Cr:aW X (compareOp .GtE) (lg λi j=>.bl (decide (j<=i))):=my JF
def Bl(j:Int)(ta:TE):TE:=λσ H Q=>ta σ H λx H1=>match x with
 | .int i=>Q (.int (i / j)) H1
 | _=>False
def om(j:Int)(ta:TE):TE:=λσ H Q=>ta σ H λx H1=>match x with
 | .int i=>Q (.int (i%j)) H1
 | _=>False
theorem K3{j:Int}{k:Nat}{p:Pos}(ha:PE X a ta)(hj:0 < j/\j < 1073741824:=by decide):PE X (.BinOp a .FloorDiv (.Constant (.int j) k p) pos) (Bl j ta):=by
 intro pins s σ H Q I h
 refine wpAny_BinOp (ax (ha pins s σ H _ I h) λv s1 ⟨x,H1,I1,r1,q1⟩=>?_)
 refine ax (nX pins s1 σ H1 (λy H2=>y=.int j/\H2=H1) I1 ⟨rfl,rfl⟩) λu s2 ⟨y,H2,I2,r2,e1,e2⟩=>?_
 subst e1 e2
 cases x with
 | int i=>exact JG pins s2 σ H2 (.int i) (.int j) v u Q I2 r1 r2 ⟨i,j,rfl,rfl,hj,q1⟩
 | _=>exact False.elim q1
theorem K1{j:Int}{k:Nat}{p:Pos}(ha:PE X a ta)(hj:0 < j:=by decide):PE X (.BinOp a .Mod (.Constant (.int j) k p) pos) (om j ta):=by
 intro pins s σ H Q I h
 refine wpAny_BinOp (ax (ha pins s σ H _ I h) λv s1 ⟨x,H1,I1,r1,q1⟩=>?_)
 refine ax (nX pins s1 σ H1 (λy H2=>y=.int j/\H2=H1) I1 ⟨rfl,rfl⟩) λu s2 ⟨y,H2,I2,r2,e1,e2⟩=>?_
 subst e1 e2
 cases x with
 | int i=>exact A2 pins s2 σ H2 (.int i) (.int j) v u Q I2 r1 r2 ⟨i,j,rfl,rfl,hj,q1⟩
 | _=>exact False.elim q1
end
section
variable {X:Cx}
theorem OY{pins:List (Addr × Obj)}{s:Shared}{σ:St}{H:Hp}{l b:Addr}{xs zs:List V}{Q:VK}(I:ae X pins σ H s)(hl:aE X.K H l xs)(hb:aE X.K H b zs)(hz:xs.length+zs.length<=sizeLine)
 (q : ∀ p H',aZ H p (.lst (xs++zs)) H'->Q (.ref p) H'):wpAny (model X.prog X.w) X.A (binaryOp .Add (.ref l) (.ref b)) (EP X pins σ Q) X.xe s:=by
 obtain⟨its,r,pl,_⟩:=I.list hl
 obtain⟨its2,r2,pl2,_⟩:=I.list hb
 have e1:=r.length
 have e2:=r2.length
 obtain⟨⟨cls,dd,data,sl⟩,ho,hc,n,hd⟩:=pl.isList
 obtain⟨⟨cls2,dd2,data2,sl2⟩,ho2,hc2,n2,hd2⟩:=pl2.isList
 simp only at hc hd hc2 hd2
 subst hc hd hc2 hd2
 have ea:its.toArray++its2.toArray=(its++its2).toArray:=by simp
 refine concat_meets ⟨_,ho,rfl⟩ ⟨_,ho2,rfl⟩ noFill_list_add seq_list_add PySem.F.slot_list_add PySem.F.entry_list_add (PySem.F.args_list_add_2 _ _) (list_addW l b its.toArray its2.toArray n n2 dd dd2 sl sl2 (by rw[List.size_toArray,List.size_toArray]; omega)) ⟨ho,ho2,?_⟩
 rw[ea]
 exact⟨.ref _,_,I.lnew (t':=s.toks) (r.append r2) (by rw[List.length_append]; omega),rfl,q _ _ (.mk' I.fresh)⟩
def CA(K:W.Frag):R2:=λx y H Q=>match x,y with
 | .int i,.int j=>Q (.int (i+j)) H
 | .ref l,.ref b=>∃ xs zs,aE K H l xs/\aE K H b zs/\xs.length+zs.length<=sizeLine/\∀ p H',aZ H p (.lst (xs++zs)) H'->Q (.ref p) H'
 | _,_=>False
theorem Od:aW X (binaryOp .Add) (CA X.K):=by
 intro pins s σ H x y v u Q I rx ry q
 cases x with
 | int i =>
  cases y with
  | int j=>exact JH pins s σ H _ _ v u Q I rx ry ⟨i,j,rfl,rfl,q⟩
  | _=>exact False.elim q
 | ref l =>
  cases y with
  | ref b =>
   obtain⟨xs,zs,h1,h2,h3,q⟩:=q
   cases rx
   cases ry
   exact OY I h1 h2 h3 q
  | _=>exact False.elim q
 | _=>exact False.elim q
def Of:R2:=λx y H Q=>match x,y with
 | .int i,.int j=>rC i j/\Q (.int (i*j)) H
 | .ref l,.int k=>∃ xs,H l=some (.lst xs)/\-(2 ^ 63)<=k/\k < 2 ^ 63/\xs.length*k.toNat<=sizeLine/\∀ p H',aZ H p (.lst (List.replicate k.toNat xs).flatten) H'->Q (.ref p) H'
 | _,_=>False
theorem em:aW X (binaryOp .Mult) Of:=by
 intro pins s σ H x y v u Q I rx ry q
 cases x with
 | int i =>
  cases y with
  | int j=>exact Jz pins s σ H _ _ v u Q I rx ry ⟨i,j,rfl,rfl,q.1,q.2⟩
  | _=>exact False.elim q
 | ref l =>
  cases y with
  | int k =>
   obtain⟨xs,h1,h2,h3,h4,q⟩:=q
   exact Jw pins s σ H _ _ v u Q I rx ry ⟨l,k,xs,rfl,rfl,h1,h2,h3,h4,λp hp=>q p _ (.mk' hp)⟩
  | _=>exact False.elim q
 | _=>exact False.elim q
def sK(x:V)(c:Bool):Bool:=match x with
 | .bl d=>d == c
 | _=>false
theorem Ax{x:V}{v:Value}{c:Bool}(r:aR x v)(hf : ∀ f,x ≠ .ty f):plainIs v (.bool c)=true/\(v == Value.bool c)=sK x c:=by
 cases x with
 | non=>cases r; exact⟨rfl,rfl⟩
 | bl d=>cases r; exact⟨rfl,by cases d <;> cases c <;> rfl⟩
 | int _=>obtain⟨t,rfl⟩:=r; exact⟨rfl,rfl⟩
 | str _=>obtain⟨t,rfl⟩:=r; exact⟨rfl,rfl⟩
 | byt _=>obtain⟨t,rfl⟩:=r; exact⟨rfl,rfl⟩
 | flt _=>obtain⟨t,rfl⟩:=r; exact⟨rfl,rfl⟩
 | ref _=>cases r; exact⟨rfl,rfl⟩
 | ty f=>exact absurd rfl (hf f)
def Cv(neg:Bool):R2:=λx y H Q=>match y with
 | .non=>Q (.bl (if neg then !decide (x=.non) else decide (x=.non))) H
 | .bl c=>(∀ f,x ≠ .ty f)/\Q (.bl (if neg then !sK x c else sK x c)) H
 | _=>False
theorem iX:aW X (compareOp .Is) (Cv false):=by
 intro pins s σ H x y v u Q I rx ry q
 cases y with
 | non=>exact JC pins s σ H x _ v u Q I rx ry ⟨rfl,q⟩
 | bl c =>
  cases ry
  obtain⟨h1,h2⟩:=Ax (c:=c) rx q.1
  exact wpAny_is_plain h1 ⟨.bl _,H,I,by rw[h2]; rfl,q.2⟩
 | _=>exact False.elim q
theorem oS:aW X (compareOp .IsNot) (Cv true):=by
 intro pins s σ H x y v u Q I rx ry q
 cases y with
 | non=>exact Jx pins s σ H x _ v u Q I rx ry ⟨rfl,q⟩
 | bl c =>
  cases ry
  obtain⟨h1,h2⟩:=Ax (c:=c) rx q.1
  exact wpAny_isNot_plain h1 ⟨.bl _,H,I,by rw[h2]; rfl,q.2⟩
 | _=>exact False.elim q
end
def ap(K:W.Frag)(H:Hp)(d:PyData)(x:V):Prop:=∀ (X:Cx) (pins:List (Addr × Obj)) (σ:St) (s:Shared) (u:Value),X.K=K->ae X pins σ H s->aR x u->∃ as,Reads s.heap u d as
def dN(K:W.Frag)(H:Hp)(ds:List PyData)(xs:List V):Prop:=∀ (X:Cx) (pins:List (Addr × Obj)) (σ:St) (s:Shared) (us:List Value),X.K=K->ae X pins σ H s->aI xs us->∃ as,ReadsAll s.heap us ds as
section
variable {K:W.Frag}{H:Hp}
theorem ap.non:ap K H .none .non:=λ_ _ _ _ _ _ _ r=>by cases r; exact⟨_,.none⟩
theorem ap.int(i:Int):ap K H (.int i) (.int i):=λ_ _ _ _ _ _ _ r=>by obtain⟨t,rfl⟩:=r; exact⟨_,.int i t⟩
theorem ap.str(x:Str):ap K H (.str x) (.str x):=λ_ _ _ _ _ _ _ r=>by obtain⟨t,rfl⟩:=r; exact⟨_,.str x t⟩
theorem dN.nil:dN K H [] []:=λ_ _ _ _ _ _ _ r=>by cases r; exact⟨_,.nil⟩
theorem dN.cons{d:PyData}{ds:List PyData}{x:V}{xs:List V}(a:ap K H d x)(b:dN K H ds xs):dN K H (d :: ds) (x :: xs):=λX pins σ s us e I r=>by
 cases r with
 | cons r1 r2 =>
  obtain⟨as,ha⟩:=a X pins σ s _ e I r1
  obtain⟨bs,hb⟩:=b X pins σ s _ e I r2
  exact⟨_,.cons ha hb⟩
theorem ap.lst{ds:List PyData}{p:Addr}{xs:List V}(h:aE K H p xs)(b:dN K H ds xs):ap K H (.list ds) (.ref p):=λX pins σ s u e I r=>by
 cases r
 subst e
 obtain⟨its,rv,⟨o,n,ho,hc,_,hd⟩,_⟩:=I.list h
 obtain⟨as,ha⟩:=b X pins σ s its rfl I rv
 exact⟨_,.list ho hc hd (by simpa using ha)⟩
theorem ap.tup{ds:List PyData}{p:Addr}{xs:List V}(h:bd K H p xs)(b:dN K H ds xs):ap K H (.tuple ds) (.ref p):=λX pins σ s u e I r=>by
 cases r
 subst e
 obtain⟨its,rv,⟨o,ho,hc,n,hd⟩,_⟩:=I.tuple h
 obtain⟨as,ha⟩:=b X pins σ s its rfl I rv
 exact⟨_,.tuple ho hc hd (by simpa using ha)⟩
theorem dN.ints : ∀ ns:List Int,dN K H (ns.map PyData.int) (ns.map V.int)
 | []=>.nil
 | n :: ns=>.cons (.int n) (dN.ints ns)
end
open SeqAt (shaped)
def lh(K:W.Frag)(neg:Bool):R2:=λx y H Q=>match x,y with
 | .int i,.int j=>Q (.bl (if neg then !decide (i=j) else decide (i=j))) H
 | .bl a,.bl b=>Q (.bl (if neg then !(a == b) else a == b)) H
 | _,_=>∃ d e,ap K H d x/\ap K H e y/\shaped d=true/\shaped e=true/\Q (.bl (if neg then !d.eqv e else d.eqv e)) H
section
variable {X:Cx}
theorem CK{pins:List (Addr × Obj)}{s:Shared}{σ:St}{H:Hp}{x y:V}{v u:Value}{Q:VK}{neg:Bool}(hu:X.A.units+64 < cLine)(I:ae X pins σ H s)(rx:aR x v)(ry:aR y u)
 (q : ∃ d e,ap X.K H d x/\ap X.K H e y/\shaped d=true/\shaped e=true/\Q (.bl (if neg then !d.eqv e else d.eqv e)) H) :
 wpAny (model X.prog X.w) X.A (compareOp (if neg then .NotEq else .Eq) v u) (EP X pins σ Q) X.xe s:=by
 obtain⟨d,e,hd,he,h1,h2,q⟩:=q
 obtain⟨as,ra⟩:=hd X pins σ s v rfl I rx
 obtain⟨bs,rb⟩:=he X pins σ s u rfl I ry
 cases neg with
 | true=>exact ne_dataH ra rb h1 h2 hu ⟨.bl _,H,I,rfl,q⟩
 | false=>exact eq_dataH ra rb h1 h2 hu ⟨.bl _,H,I,rfl,q⟩
theorem CN{i j:Int}:decide (V.int i=V.int j)=decide (i=j):=by simp
theorem N6(hu:X.A.units+64 < cLine):aW X (compareOp .Eq) (lh X.K false):=by
 intro pins s σ H x y v u Q I rx ry q
 have D:=λq'=>CK (neg:=false) (Q:=Q) hu I rx ry q'
 cases x with
 | int i =>
  cases y with
  | int j=>exact A3 pins s σ H _ _ v u Q I rx ry ⟨rfl,by rw[CN]; exact q⟩
  | _=>exact D q
 | bl i =>
  cases y with
  | bl j=>exact A3 pins s σ H _ _ v u Q I rx ry ⟨rfl,by rw[pJ]; exact q⟩
  | _=>exact D q
 | _=>exact D q
theorem NO(hu:X.A.units+64 < cLine):aW X (compareOp .NotEq) (lh X.K true):=by
 intro pins s σ H x y v u Q I rx ry q
 have D:=λq'=>CK (neg:=true) (Q:=Q) hu I rx ry q'
 cases x with
 | int i =>
  cases y with
  | int j=>exact A1 pins s σ H _ _ v u Q I rx ry ⟨rfl,by rw[CN]; exact q⟩
  | _=>exact D q
 | bl i =>
  cases y with
  | bl j=>exact A1 pins s σ H _ _ v u Q I rx ry ⟨rfl,by rw[pJ]; exact q⟩
  | _=>exact D q
 | _=>exact D q
def oY(K:W.Frag)(neg:Bool):R2:=λx y H Q=>match y with
 | .ref p=>∃ xs,(aE K H p xs\/bd K H p xs)/\eS x=true/\xs.all eS=true/\Q (.bl (if neg then !cm x xs else cm x xs)) H
 | _=>False
theorem N4:aW X (compareOp .In) (oY X.K false):=JD.imp λx y H Q q=>by
 cases y with
 | ref p=>obtain⟨xs,h1,h2,h3,q⟩:=q; exact⟨p,xs,rfl,h1,h2,h3,q⟩
 | _=>exact False.elim q
theorem NN:aW X (compareOp .NotIn) (oY X.K true):=Jy.imp λx y H Q q=>by
 cases y with
 | ref p=>obtain⟨xs,h1,h2,h3,q⟩:=q; exact⟨p,xs,rfl,h1,h2,h3,q⟩
 | _=>exact False.elim q
def tp(K:W.Frag):R2:=λx y H Q=>match x,y with
 | .ref p,.int i=>∃ xs v,(aE K H p xs\/bd K H p xs)/\cR xs i=some v/\Q v H
 | _,_=>False
theorem NT:fB X (tp X.K):=(LG.or LF).imp λx y H Q q=>by
 cases x with
 | ref p =>
  cases y with
  | int i =>
   obtain⟨xs,v,h1,h2,q⟩:=q
   rcases h1 with h1 | h1
   ·exact .inl ⟨p,xs,i,v,rfl,rfl,h1,h2,q⟩
   ·exact .inr ⟨p,xs,i,v,rfl,rfl,h1,h2,q⟩
  | _=>exact False.elim q
 | _=>exact False.elim q
theorem qP{α:Type}{xs:List α}{i:Int}(h0:0<=i)(h1:i < xs.length) : ∃ v,v∈xs/\cR xs i=some v/\xs[i.toNat]? = some v:=by
 have hl:i.toNat < xs.length:=by omega
 refine⟨xs[i.toNat],List.getElem_mem hl,?_,by simp[hl]⟩
 have e:xs[i.toNat]? = some xs[i.toNat]:=by simp[hl]
 have:=aV e
 rwa [Int.toNat_of_nonneg h0]at this
def Ct(K:W.Frag):V->Option Int->Option Int->Hp->VK->Prop:=λx lo hi H Q=>match x with
 | .ref a=>∃ xs,aE K H a xs/\∀ p H',aZ H p (.lst (de xs lo hi)) H'->Q (.ref p) H'
 | _=>False
theorem NH:ix X (Ct X.K):=by
 intro pins s σ H x v vl vu lo hi sl Q I rx hs pl pu q
 cases x with
 | ref a=>obtain⟨xs,h1,q⟩:=q; exact Gp pins s σ H _ v vl vu lo hi sl Q I rx hs pl pu ⟨a,xs,rfl,h1,λp hp=>q p _ (.mk' hp)⟩
 | _=>exact False.elim q
def tm(K:W.Frag):List V->Hp->VK->Prop:=λxs H Q=>match xs with
 | [.ref p]=>∃ ys,(aE K H p ys\/bd K H p ys)/\Q (.int ys.length) H
 | _=>False
theorem O8:cL X (.builtin "len") (tm X.K):=O1.imp λxs H Q q=>by
 unfold tm at q
 split at q
 ·obtain⟨ys,h1,q⟩:=q
  exact⟨_,ys,rfl,h1,q⟩
 ·exact q.elim
def tj(K:W.Frag):List V->Hp->VK->Prop:=λxs H Q=>match xs with
 | [.ref p]=>∃ ys,(aE K H p ys\/bd K H p ys)/\∀ l H',aZ H l (.lst ys) H'->Q (.ref l) H'
 | _=>False
theorem O7:cL X (.type "list") (tj X.K):=O0.imp λxs H Q q=>by
 unfold tj at q
 split at q
 ·obtain⟨ys,h1,q⟩:=q
  exact⟨_,ys,rfl,h1,λl hl=>q l _ (.mk' hl)⟩
 ·exact q.elim
def tq(K:W.Frag):List V->Hp->VK->Prop:=λxs H Q=>match xs with
 | [x,.ty T]=>∃ t b,ce K H x t/\W.kitOne K t (.type T)=some b/\Q (.bl b) H
 | [x,.ref C]=>∃ t b,ce K H x t/\W.kitOne K t (.ref C)=some b/\Q (.bl b) H
 | _=>False
theorem O9:cL X (.builtin "isinstance") (tq X.K):=by
 intro pins s σ H xs us Q I r q
 unfold tq at q
 split at q
 ·obtain⟨t,b,h1,h2,q⟩:=q
  obtain⟨u,w',rfl,r1,r2⟩:=yW r
  cases r2
  exact Bv I r1 h1 h2 λtk=>⟨.bl b,H,I.tok _,rfl,q⟩
 ·obtain⟨t,b,h1,h2,q⟩:=q
  obtain⟨u,w',rfl,r1,r2⟩:=yW r
  cases r2
  exact Bv I r1 h1 h2 λtk=>⟨.bl b,H,I.tok _,rfl,q⟩
 ·exact q.elim
theorem Pn {x:Str} {T:String} {pos:Pos} (hg:Gl X x) (hm:X.mg x=none) (hv:bootBuiltins x=some (.type T)) (hn:x ≠ "__name__":=by decide) (hd:(x == ("__debug__" : Str))=false:=by decide):PE X (.Name x pos) (tC (.ty T)) :=
 Jr hg hm hv rfl hn hd
end
def dj:Expr->Bool
 | .Starred _ _=>true
 | _=>false
theorem cM{e:Expr}{es:List Expr}{env:Env}(h:dj e=false):starEach (e :: es) env=(false,eval e env) :: starEach es env:=by
 cases e <;> first | rfl | cases h
def di:List Expr->Bool
 | []=>true
 | e :: r=>!dj e && di r
theorem gQ{env:Env}{pos:Pos} : ∀ {es:List Expr},di es=true->(backTo pos (starEach es env)).any (·.1)=false
 | [],_=>rfl
 | e :: r,h=>by
  have h':(!dj e && di r)=true:=h
  rw[Bool.and_eq_true]at h'
  have h1:dj e=false:=by simpa using h'.1
  rw[cM h1]
  show (false || (backTo pos (starEach r env)).any (·.1))=false
  rw[Bool.false_or]
  exact gQ h'.2
theorem dI{e:Expr}{es:List Expr}(h:di (e :: es)=true):dj e=false/\di es=true:=by
 have h':(!dj e && di es)=true:=h
 rw[Bool.and_eq_true]at h'
 exact⟨by simpa using h'.1,h'.2⟩
theorem AZ{X:Cx}{e:Expr}{es:List Expr}{te:TE}{t:TA}(ha:PE X e te)(hr:PA X es t)(hs:dj e=false:=by rfl):PA X (e :: es) (jf te t):=Js ha hr (cM hs)
def qj:Expr->Option V
 | .Constant (.int i) _ _=>some (.int i)
 | .Constant (.bool b) _ _=>some (.bl b)
 | .Constant .none _ _=>some .non
 | .Constant (.str x) _ _=>some (.str x)
 | _=>none
def qi:List Expr->Option (List V)
 | []=>some []
 | e :: r=>match qj e,qi r with
  | some v,some vs=>some (v :: vs)
  | _,_=>none
def rN(vs:List V):TA:=λ_ H Q=>Q vs H
theorem Jj{X:Cx}{e:Expr}{v:V}(h:qj e=some v):PE X e (tC v):=by
 unfold qj at h
 split at h
 ·cases h; exact nX
 ·cases h; exact AU
 ·cases h; exact AR
 ·cases h; exact AQ
 ·cases h
theorem OP{e:Expr}{v:V}(h:qj e=some v):dj e=false:=by
 cases e <;> first | rfl | cases h
theorem AY{X:Cx} : ∀ {es:List Expr} {vs:List V},qi es=some vs->PA X es (rN vs)
 | [],vs,h=>by
  cases h
  exact AX
 | e :: r,vs,h=>by
  unfold qi at h
  split at h
  ·rename_i v ws h1 h2
   cases h
   exact AZ (Jj h1) (AY h2) (OP h1)
  ·cases h
section
variable {X:Cx}{es:List Expr}{t:TA}{pos:Pos}
def sF(t:TA):TE:=λσ H Q=>t σ H λxs H1=>xs.length<=sizeLine/\∀ p H',aZ H1 p (.tup xs) H'->Q (.ref p) H'
def mh(t:TA):TE:=λσ H Q=>t σ H λxs H1=>xs.length<=sizeLine/\∀ p H',aZ H1 p (.lst xs) H'->Q (.ref p) H'
theorem KW{x1}(h:PA X es t):PE X (.Tuple es x1 pos) (sF t):=by
 intro pins s σ H Q I hq
 refine wpAny_Tuple_spliced (ax (h pos pins s σ H _ I hq) λus s1 ⟨xs,H1,I1,r,z,q⟩=>⟨by rw[<- r.length]; exact z,?_⟩)
 have hf:H1 s1.heap.objs.size=none:=I1.hok.fresh (Nat.le_refl _)
 refine⟨.ref s1.heap.objs.size,upd H1 s1.heap.objs.size (.tup xs),I1.laid (t':=s1.toks) (λb u e=>Heap.get?_push_of_some _ e) (Nat.le_refl _) ?_,rfl,q _ _ (.mk' hf)⟩
 exact⟨z,us,r,⟨_,Heap.get?_push_size _ rfl,rfl,_,rfl⟩⟩
theorem K2(h:PA X es t):PE X (.List es pos) (mh t):=by
 intro pins s σ H Q I hq
 refine wpAny_List_spliced (ax (h pos pins s σ H _ I hq) λus s1 ⟨xs,H1,I1,r,z,q⟩=>⟨by rw[<- r.length]; exact z,?_⟩)
 have hf:H1 s1.heap.objs.size=none:=I1.hok.fresh (Nat.le_refl _)
 refine⟨.ref s1.heap.objs.size,upd H1 s1.heap.objs.size (.lst xs),I1.laid (t':=s1.toks) (λb u e=>Heap.get?_push_of_some _ e) (Nat.le_refl _) ?_,rfl,q _ _ (.mk' hf)⟩
 exact⟨z,us,0,r,Heap.get?_push_size _ rfl⟩
def Bm:TE:=λ_ H Q=>∀ p H',aZ H p (.dK []) H'->Q (.ref p) H'
theorem K4:PE X (.Dict [] [] pos) Bm:=Jg.imp λσ H Q q=>λp hp=>q p _ (.mk' hp)
end
theorem cc{Q:VK}{H:Hp}{a b:Bool}(k:Q (.bl a) H)(e:a=b):Q (.bl b) H:=e ▸ k
def sJ:V->Bool
 | .int _=>true
 | .bl _=>true
 | _=>false
def Bx:V->Bool
 | .bl _=>true
 | _=>false
inductive fP (K:W.Frag) (H:Hp):V->Prop where
 | non:fP K H .non
 | bl (b:Bool):fP K H (.bl b)
 | int (i:Int):fP K H (.int i)
 | str (x:Str):fP K H (.str x)
 | lst {a:Addr} {xs:List V} (e:H a=some (.lst xs)):fP K H (.ref a)
 | tup {a:Addr} {xs:List V} (e:H a=some (.tup xs)):fP K H (.ref a)
 | dK {a:Addr} {kvs:List (aP × V)} (e:H a=some (.dK kvs)):fP K H (.ref a)
theorem fP.isInt {K:W.Frag} {H:Hp} {v:V} (k:fP K H v) : ∃ ty,ce K H v ty/\W.kitOne K ty (.type "int")=some (sJ v):=by
 cases k with
 | non=>exact⟨_,.non,by with_unfolding_all rfl⟩
 | bl b=>exact⟨_,.bl b,by with_unfolding_all rfl⟩
 | int i=>exact⟨_,.int i,by with_unfolding_all rfl⟩
 | str x=>exact⟨_,.str x,by with_unfolding_all rfl⟩
 | lst e=>exact⟨_,.lst e,by with_unfolding_all rfl⟩
 | tup e=>exact⟨_,.tup e,by with_unfolding_all rfl⟩
 | dK e=>exact⟨_,.dK e,by with_unfolding_all rfl⟩
theorem fP.isBl {K:W.Frag} {H:Hp} {v:V} (k:fP K H v) : ∃ ty,ce K H v ty/\W.kitOne K ty (.type "bool")=some (Bx v):=by
 cases k with
 | non=>exact⟨_,.non,by with_unfolding_all rfl⟩
 | bl b=>exact⟨_,.bl b,by with_unfolding_all rfl⟩
 | int i=>exact⟨_,.int i,by with_unfolding_all rfl⟩
 | str x=>exact⟨_,.str x,by with_unfolding_all rfl⟩
 | lst e=>exact⟨_,.lst e,by with_unfolding_all rfl⟩
 | tup e=>exact⟨_,.tup e,by with_unfolding_all rfl⟩
 | dK e=>exact⟨_,.dK e,by with_unfolding_all rfl⟩
theorem sz{n:Nat}(h:Nat.ble n 1000=true):n<=sizeLine:=Nat.le_trans (Nat.le_of_ble_eq_true h) (by decide)
theorem bB{n:Nat}(h:n<=100000):n<=sizeLine:=Nat.le_trans h (by decide)
theorem dP{n:Nat}(h:n<=100000):n < sizeLine:=Nat.lt_of_le_of_lt h (by decide)
section
variable {X:Cx}
theorem Ht(bs:List Bool):(List.range bs.length).map (λi=>(bs[i]?).getD false)=bs:=by
 apply List.ext_getElem
 ·simp
 ·intro i h1 h2
  simp[List.getElem?_eq_getElem h2]
theorem Hu(bs:List Bool):((List.range bs.length).all λi=>(bs[i]?).getD false)=bs.all id:=by
 conv=>rhs; rw[<- Ht bs]
 rw[List.all_map]
 rfl
def tz(K:W.Frag)(one:Bool):List V->Hp->VK->Prop:=λxs H Q=>match xs with
 | [.ref p]=>∃ bs:List Bool,aE K H p (bs.map V.bl)/\Q (.bl (if one then bs.any id else bs.all id)) H
 | _=>False
theorem Pq{prog:Program}{w:World}{A:Around}{bs:List Bool}{its:List Value}(r:aI (bs.map V.bl) its):TruthOf prog w A (λi v=>its.toArray[i]? = some v) λi=>(bs[i]?).getD false:=λi v s Q E hP hQ=>by
 dsimp only at hP hQ
 have hi:i < its.length:=by
  have:=(Array.getElem?_eq_some_iff.mp hP).1
  simpa using this
 have hl:=r.length
 rw[List.length_map]at hl
 have hb:i < bs.length:=by omega
 obtain⟨u,hu,ru⟩:=r.get (i:=i) (x:=V.bl bs[i]) (by simp[hb])
 have e:its.toArray[i]? = some u:=by simpa using hu
 rw[e]at hP
 cases hP
 cases ru
 rw[List.getElem?_eq_getElem hb]at hQ
 exact wpAny_truthy_bool hQ
theorem Pa (hc:X.calm=true):cL X (.builtin "all") (tz X.K false):=by
 intro pins s σ H xs us Q I r q
 unfold tz at q
 split at q
 ·rename_i p
  obtain⟨bs,hq,q⟩:=q
  obtain⟨u,rfl,rx⟩:=je r
  cases rx
  obtain⟨its,rv,pl,_⟩:=I.list hq
  have hl:=rv.length
  rw[List.length_map]at hl
  have hne:p≠s.heap.objs.size:=by
   obtain⟨o,n,e,_⟩:=pl
   exact Nat.ne_of_lt (Heap.lt_size e)
  refine call_all_walk (wpAny_pyIter_list pl.isList ⟨s.heap.objs.size,_,_,_,_,_,λi=>(bs[i]?).getD false,rfl,Walks.list (A:=X.A.in1) (show X.A.in1.handled=none from I.ok.hd hc) s.heap.objs.size p hne its.toArray,⟨⟨_,Heap.get?_push_size _ rfl,rfl,rfl⟩,?_⟩,Pq rv,λh' tk k=>?_⟩)
  ·exact pl.isList.at λo e=>Heap.get?_push_of_some _ e
  ·refine⟨.bl _,H,I.kept (h':=h') (t':=tk) λb o e=>k b o (λz=>?_) (Heap.get?_push_of_some _ e),?_,q⟩
   ·have e':b=s.heap.objs.size:=by simpa using z
    exact absurd (Heap.lt_size e) (by rw[e']; exact Nat.lt_irrefl _)
   ·show Value.bool _=Value.bool _
    rw[List.size_toArray,<- hl,Hu]
    rfl
 ·exact q.elim
def sY(K:W.Frag):List V->Hp->VK->Prop:=λxs H Q=>match xs with
 | [.ref p]=>∃ ys,aE K H p ys/\∀ l H',aZ H l (.tup ys) H'->Q (.ref l) H'
 | _=>False
theorem O5:cL X (.type "tuple") (sY X.K):=OZ.imp λxs H Q q=>by
 unfold sY at q
 split at q
 ·obtain⟨ys,h1,q⟩:=q
  exact⟨_,ys,rfl,.inl ⟨h1,λl hl=>q l _ (.mk' hl)⟩⟩
 ·exact q.elim
def Cz:V->List V->Hp->VK->Prop:=λx vs H Q=>match x,vs with
 | .ref l,[y]=>∃ xs,H l=some (.lst xs)/\xs.length < sizeLine/\Q .non (upd H l (.lst (xs++[y])))
 | _,_=>False
theorem gq:fA X "list.append" Cz:=by
 intro pins s σ H x vs v us Q I rx rv q
 unfold Cz at q
 split at q
 ·obtain⟨xs,h1,h2,q⟩:=q
  exact Ka pins s σ H _ _ v us Q I rx rv ⟨_,xs,_,rfl,rfl,h1,h2,q⟩
 ·exact q.elim
def tw(K:W.Frag):V->List V->Hp->VK->Prop:=λx vs H Q=>match x,vs with
 | .ref l,[.ref b]=>∃ xs zs,H l=some (.lst xs)/\H b=some (.lst zs)/\xs.length+zs.length<=sizeLine/\Q .non (upd H l (.lst (xs++zs)))
 | _,_=>False
theorem KS:fA X "list.extend" (tw X.K):=by
 intro pins s σ H x vs v us Q I rx rv q
 unfold tw at q
 split at q
 ·obtain⟨xs,zs,h1,h2,h3,q⟩:=q
  exact J7 pins s σ H _ _ v us Q I rx rv ⟨_,_,xs,zs,rfl,rfl,h1,h2,h3,q⟩
 ·exact q.elim
end
structure bp (P:Program) (w:World) (K:W.Frag) (mg:Str->Option Value) (base:Heap) (x:Str) (k:Nat) (f:Addr) (fd:FuncData) (ps:List Str) (sp:Sp):Prop where
 gm:mg x=some (.ref f)
 kp:W.keepIn K (.ref f)=true
 b:ao K fd ps []
 ok:bv P w K mg base bC k f fd ps sp
section
variable {X:Cx}{k j:Nat}{f:Addr}{fd:FuncData}{ps:List Str}{sp:Sp}{x:Str}{p pos:Pos}{e:Expr}{es:List Expr}{t:TA}
theorem O4(F:bp X.prog X.w X.K X.mg X.base x j f fd ps sp)(hr:bM k X.A)(ha:PA X (e :: es) t)(hj:j<=k:=by decide)(hg:Gl X x:=by rfl)
 (hdb:(x == ("__debug__" : Str))=false:=by decide) (hn:di (e :: es)=true:=by rfl) :
 PE X (.Call (.Name x p) (e :: es) [] pos) (lQ sp [] E0 t):=Jo F.ok (hr.mono hj) hg F.gm F.kp F.b .nil AV ha hdb (cM (dI hn).1) (gQ (dI hn).2)
theorem O3{id:String}{r:List V->Hp->VK->Prop}(hc:cL X (.builtin id) r)(hm:X.mg x=none)(hv:bootBuiltins x=some (.builtin id))(ha:PA X (e :: es) t)(hg:Gl X x:=by rfl)(hx:x ≠ "__name__":=by decide)(hdb:(x == ("__debug__" : Str))=false:=by decide)
 (hn:di (e :: es)=true:=by rfl):PE X (.Call (.Name x p) (e :: es) [] pos) (jg r t):=Jn hc hg hm hv ha hx hdb (cM (dI hn).1) (gQ (dI hn).2)
theorem O2{T:String}{r:List V->Hp->VK->Prop}(hc:cL X (.type T) r)(hm:X.mg x=none)(hv:bootBuiltins x=some (.type T))(ha:PA X (e :: es) t)(hg:Gl X x:=by rfl)(hx:x ≠ "__name__":=by decide)(hdb:(x == ("__debug__" : Str))=false:=by decide)
 (hn:di (e :: es)=true:=by rfl):PE X (.Call (.Name x p) (e :: es) [] pos) (jg r t):=Jm hc hg hm hv ha hx hdb (cM (dI hn).1) (gQ (dI hn).2)
theorem gi{n:Int}{u:Tok}(hm:X.mg x=some (.int n u))(hg:Gl X x:=by rfl)(hd:(x == ("__debug__" : Str))=false:=by decide):PE X (.Name x pos) (tC (.int n)):=AT hg hm ⟨u,rfl⟩ hd
end
def fu(cells:List (Str × Addr)):List (Str × NameKind)->List (Str × Addr)->List (Str × Addr)
 | [],acc=>acc
 | (n,k) :: r,acc=>fu cells r (if (k == NameKind.free)=true then (n,(cells.lookup n).getD 0) :: acc else acc)
theorem C4{scope:Scope}{env:Env}(h : ∀ n,(n,NameKind.free)∈scope.names->∃ c,env.cells.lookup n=some c):closureFor scope env=pure (fu env.cells scope.names []):=by
 unfold closureFor
 have key : ∀ (l:List (Str × NameKind)) (acc:List (Str × Addr)),(∀ n,(n,NameKind.free)∈l->∃ c,env.cells.lookup n=some c) ->
  (forIn l acc (λx __s=>match x with
    | (name,kind) =>
     if (kind == NameKind.free)=true then do
      let __do_lift <- cellOf env name
      pure (ForInStep.yield ((name,__do_lift) :: __s))
     else pure (ForInStep.yield __s)):Sem (List (Str × Addr)))=pure (fu env.cells l acc):=by
  intro l
  induction l with
  | nil=>intro acc _; rfl
  | cons x r ih =>
   intro acc hf
   obtain⟨n,k⟩:=x
   have hr : ∀ n,(n,NameKind.free)∈r->∃ c,env.cells.lookup n=some c:=λn hn=>hf n (List.mem_cons_of_mem _ hn)
   rw[List.forIn_cons]
   by_cases hk:(k == NameKind.free)=true
   ·have hk':k=NameKind.free:=by simpa using hk
    subst hk'
    obtain⟨c,hc⟩:=hf n List.mem_cons_self
    have e:cellOf env n=pure c:=by unfold cellOf; rw[hc]
    show (if (NameKind.free == NameKind.free)=true then _ else _) >>= _=_
    rw[if_pos hk,e]
    show (forIn r ((n,c) :: acc) _:Sem (List (Str × Addr)))=_
    rw[ih _ hr]
    show _=pure (fu env.cells r (if (NameKind.free == NameKind.free)=true then (n,(List.lookup n env.cells).getD 0) :: acc else acc))
    rw[if_pos hk,hc]
    rfl
   ·show (if (k == NameKind.free)=true then _ else _) >>= _=_
    rw[if_neg hk]
    show (forIn r acc _:Sem (List (Str × Addr)))=_
    rw[ih _ hr]
    show _=pure (fu env.cells r (if (k == NameKind.free)=true then _ else acc))
    rw[if_neg hk]
 show (forIn scope.names [] _ >>= _:Sem (List (Str × Addr)))=_
 rw[key _ _ h]
 rfl
theorem wv{cells:List (Str × Addr)} : ∀ (l:List (Str × NameKind)) (acc:List (Str × Addr)) (x:Str) (c:Addr),(fu cells l acc).lookup x=some c->(∀ n,(n,NameKind.free)∈l->∃ c,cells.lookup n=some c)->((x,NameKind.free)∈l/\cells.lookup x=some c)\/acc.lookup x=some c
 | [],acc,x,c,h,_=>.inr h
 | (n,k) :: r,acc,x,c,h,hf=>by
  have hr : ∀ n,(n,NameKind.free)∈r->∃ c,cells.lookup n=some c:=λn hn=>hf n (List.mem_cons_of_mem _ hn)
  rcases wv r _ x c h hr with ⟨h1,h2⟩ | h1
  ·exact .inl ⟨List.mem_cons_of_mem _ h1,h2⟩
  ·by_cases hk:(k == NameKind.free)=true
   ·rw[if_pos hk]at h1
    have hk':k=NameKind.free:=by simpa using hk
    subst hk'
    obtain⟨c',hc⟩:=hf n List.mem_cons_self
    rw[hc]at h1
    rw[List.lookup_cons]at h1
    by_cases e:(x == n)=true
    ·rw[e]at h1
     have e':x=n:=by simpa using e
     subst e'
     have:c'=c:=Option.some.inj h1
     subst this
     exact .inl ⟨List.mem_cons_self,hc⟩
    ·have e':(x == n)=false:=by simpa using e
     rw[e']at h1
     exact .inr h1
   ·rw[if_neg hk]at h1
    exact .inr h1
theorem ww{cells:List (Str × Addr)} : ∀ (l:List (Str × NameKind)) (acc:List (Str × Addr)) (x:Str),((x,NameKind.free)∈l\/∃ c,acc.lookup x=some c)->∃ c,(fu cells l acc).lookup x=some c
 | [],acc,x,h=>by
  rcases h with h | h
  ·cases h
  ·exact h
 | (n,k) :: r,acc,x,h=>by
  unfold fu
  refine ww r _ x ?_
  rcases h with h | ⟨c,h⟩
  ·rcases List.mem_cons.mp h with e | e
   ·cases e
    exact .inr ⟨_,by simp; rfl⟩
   ·exact .inl e
  ·refine .inr ?_
   by_cases hk:(k == NameKind.free)=true
   ·rw[if_pos hk,List.lookup_cons]
    cases (x == n)
    ·exact⟨c,h⟩
    ·exact⟨_,rfl⟩
   ·rw[if_neg hk]
    exact⟨c,h⟩
section
variable {prog:Program}{w:World}{A:Around}{s:Shared}{R:Result->Shared->Prop}
theorem OU{elt target iter:Expr}{ifs:List Expr}{scope:Scope}{pos:Pos}{it acc:Value}{env:Env}(I:Nat->Shared->Prop)
 (turn : ∀ n s,I n s->wpAny (model prog w) A (pyNext it) (λr s₁=>match r with
   | none=>R (.ok .next) s₁
   | some v=>wpAny (model prog w) A (letOwnedTupleGo target it v) (λ_ s₁'=>wpAny (model prog w) A (assign target env v) (λ_ s₂ =>
    wpAny (model prog w) A (forIn ifs true λc r=>if r=true then do let ok <- isTrue c env (eval c env); pure (ForInStep.yield ok) else pure (ForInStep.yield r)) (λok s₃ =>
     if ok=true then wpAny (model prog w) A (eval elt env) (λx s₄ =>
      wpAny (model prog w) A (call (.builtin "list.append") [acc,x]) (λ_ s₅=>∃ m,m < n/\I m s₅) (λ_ _=>False) s₄) (λ_ _=>False) s₃
     else ∃ m,m < n/\I m s₃) (λ_ _=>False) s₂) (λ_ _=>False) s₁') (λ_ _=>False) s₁) (λ_ _=>False) s)
 (n:Nat) (h:I n s) :
 codeAny (model prog w) A (.compLoop (.ListComp elt [⟨target,iter,ifs,0⟩] scope pos) 0 it acc env) R s:=by
 refine codeAny_loop rfl I (λn s hI=>?_) n h
 show wpAny _ A ((compTurn (.ListComp elt [⟨target,iter,ifs,0⟩] scope pos) 0 it acc env).onRaise (λx=>do noteFrame x env; theTreesLotGoes x)) _ _ s
 refine wpAny_noted ?_
 rw[compTurn_list]
 refine wpAny_bind (wpAny_standAt (wpAny_bind (wpAny_mono (turn n s hI) (λr s₁ h₁=>?_) λ_ _ h'=>h'.elim)))
 cases r with
 | none=>exact wpAny_pure h₁
 | some v =>
  refine wpAny_bind (wpAny_mono h₁ (λ_ s₁' h₁'=>?_) λ_ _ h'=>h'.elim)
  refine wpAny_bind (wpAny_mono h₁' (λ_ s₂ h₂=>wpAny_bind (wpAny_mono h₂ (λok s₃ h₃=>?_) λ_ _ h'=>h'.elim)) λ_ _ h'=>h'.elim)
  cases ok with
  | false=>exact wpAny_pure ⟨rfl,h₃⟩
  | true =>
   exact wpAny_bind (wpAny_bind (wpAny_mono h₃ (λx s₄ h₄=>wpAny_bind (wpAny_mono h₄ (λ_ s₅ h₅=>wpAny_pure (wpAny_pure ⟨rfl,h₅⟩)) λ_ _ h'=>h'.elim)) λ_ _ h'=>h'.elim))
end
def cP(X:Cx)(Nc:List Str)(scope:Scope)(C:Addr)(s:Shared)(H:Hp)(fp:List Addr):Cx where
 prog:=X.prog
 w:=X.w
 K:=X.K
 mg:=X.mg
 base:=X.base
 A:=X.A
 N:=Nc
 s₀:=s
 H₀:=H
 env:=compEnvC scope (fu X.env.cells scope.names []) C X.env
 outer:=X.stack
 stack:=X.stack
 ex:=fp
 fn:=λ_=>false
 calm:=X.calm
 pn:=X.pn
 xe:=λ_ _=>False
def lH(X:Cx)(ifs:List Expr)(t:TT):Prop :=
 ∀ (pins:List (Addr × Obj)) (s:Shared) (σ:St) (H:Hp) (Q:Bool->Hp->Prop),ae X pins σ H s->t σ H Q ->
  wpAny (model X.prog X.w) X.A (forIn ifs true λc r=>if r=true then do let ok <- isTrue c X.env (eval c X.env); pure (ForInStep.yield ok) else pure (ForInStep.yield r)) (TP X pins σ Q) X.xe s
def fV:TT:=λ_ H Q=>Q true H
theorem Ih{X:Cx}:lH X [] fV:=λ_ _ _ H _ I h=>wpAny_tests_nil ⟨H,I,h⟩
theorem Ig{X:Cx}{c:Expr}{t:TT}(h:PT X c t):lH X [c] t:=λpins s σ H Q I q=>wpAny_tests_one (h pins s σ H Q I q)
theorem bw.adopt{P:Program}{w:World}{H:Hp}{h:Heap}{a:Addr}{o:HO}(x:bw P w H h)(hn:H a=none)(new:bF P w (upd H a o) h a o):bw P w (upd H a o) h:=λb u e=>by
 by_cases hb:b=a
 ·subst hb; rw[aQ]at e; cases e; exact new
 ·rw[aw hb]at e
  exact (x b u e).stay (λc v _ q=>q) (λc q=>by rw[aw (aH q hn)]; exact q) λc xs q=>by rw[aw (aH q hn)]; exact q
def iC(J:It)(H1:Hp)(σ0:St)(g:TG)(tt:TT)(te:TE)(Q:VK):Prop:=∃ W:Nat->Nat->List V->St->Hp->Prop,
 (∃ m,W 0 m [] σ0 H1)/\∀ i m ys σ1 H2,W i m ys σ1 H2 ->
   (J.stop i H2/\ys.length<=sizeLine/\∀ p H',aZ H2 p (.lst ys) H'->Q (.ref p) H') \/
   (J.go i H2/\ys.length < sizeLine/\∃ Nx:List V->St->Hp->Prop,(∀ ys' σ' H',Nx ys' σ' H'->∃ m',m' < m/\W (i+1) m' ys' σ' H') /\
     ∀ x H',J.yld i H2 x H'->g x σ1 H' λσ2 H3=>tt σ2 H3 λb H4=>if b=true then te σ2 H4 λy H5=>Nx (ys++[y]) σ2 H5 else Nx ys σ2 H4)
def nI(nv:Nat)(caps:List Nat)(wi:TI)(g:TG)(tt:TT)(te:TE):TE:=λσ H Q=>wi σ H λJ H1=>iC J H1 (List.replicate nv none++caps.map λj=>(σ[j]?).join) g tt te Q
structure cG (X:Cx) (Nc:List Str) (nv:Nat) (caps:List Nat) (scope:Scope):Prop where
 kind:scope.kind=.function
 nocell : ∀ y∈scope.names,y.2 ≠ .cell
 names : ∀ y∈scope.names,y.2=.local->scope.names.lookup y.1=some .local
 free : ∀ n,(n,NameKind.free)∈scope.names->X.env.kindOf n=some .cell\/X.env.kindOf n=some .free
 len:Nc.length=nv+caps.length
 cap : ∀ k j,caps[k]? = some j->∃ x,Nc[nv+k]? = some x/\X.N[j]? = some x/\scope.names.lookup x=some .free
def C3(fns:List (Str × NameKind))(N Nc:List Str)(nv:Nat)(caps:List Nat)(sc:Scope):Bool :=
 (sc.kind == .function) && (sc.names.all λy=>!(y.2 == .cell)) && (sc.names.all λy=>!(y.2 == .local) || sc.names.lookup y.1 == some .local) &&
 (sc.names.all λy=>!(y.2 == .free) || (fns.lookup y.1 == some .cell || fns.lookup y.1 == some .free)) && (Nc.length == nv+caps.length) &&
 ((List.range caps.length).all λk=>match caps[k]?,Nc[nv+k]? with
   | some j,some x=>N[j]? == some x && sc.names.lookup x == some .free
   | _,_=>false)
theorem cG.of{X:Cx}{fns:List (Str × NameKind)}{N Nc:List Str}{nv:Nat}{caps:List Nat}{sc:Scope}(hf:X.env.scope.names=fns)(hN:X.N=N)(h:C3 fns N Nc nv caps sc=true):cG X Nc nv caps sc:=by
 unfold C3 at h
 simp only [Bool.and_eq_true]at h
 obtain⟨⟨⟨⟨⟨h1,h2⟩,h3⟩,h4⟩,h5⟩,h6⟩:=h
 refine⟨by simpa using h1,λy hy e=>?_,λy hy e=>?_,λn hn=>?_,by simpa using h5,λk j e=>?_⟩
 ·have:=List.all_eq_true.mp h2 y hy
  rw[e]at this
  simp at this
 ·have:=List.all_eq_true.mp h3 y hy
  rw[e]at this
  simpa using this
 ·have:=List.all_eq_true.mp h4 _ hn
  show X.env.scope.names.lookup n=some .cell\/X.env.scope.names.lookup n=some .free
  rw[hf]
  simpa using this
 ·have hk:k < caps.length:=(List.getElem?_eq_some_iff.mp e).1
  have:=List.all_eq_true.mp h6 k (List.mem_range.mpr hk)
  rw[e]at this
  cases ex:Nc[nv+k]? with
  | none=>rw[ex]at this; simp at this
  | some x =>
   rw[ex]at this
   simp only [Bool.and_eq_true]at this
   exact⟨x,rfl,by rw[hN]; simpa using this.1,by simpa using this.2⟩
theorem oq{env:Env} : ∀ {names:List (Str × NameKind)} {x:Str} {k:NameKind},
 (names.map λ(n,k)=>if (k == NameKind.free && env.scope.kind == .function && env.kindOf n == some .cell) then (n,NameKind.cell) else (n,k)).lookup x=some k ->
 ∃ k0,names.lookup x=some k0/\(k=k0\/(k0=.free/\k=.cell))
 | [],_,_,h=>by simp at h
 | (n,k0) :: r,x,k,h=>by
  have h':List.lookup x ((if (k0 == NameKind.free && env.scope.kind == .function && env.kindOf n == some .cell)=true then (n,NameKind.cell) else (n,k0)) ::
   r.map λ(n,k)=>if (k == NameKind.free && env.scope.kind == .function && env.kindOf n == some .cell) then (n,NameKind.cell) else (n,k))=some k:=h
  cases hx:x == n with
  | true =>
   refine⟨k0,by simp[List.lookup_cons,hx],?_⟩
   by_cases hc:(k0 == NameKind.free && env.scope.kind == .function && env.kindOf n == some .cell)=true
   ·rw[if_pos hc,List.lookup_cons,hx]at h'
    have:NameKind.cell=k:=Option.some.inj h'
    refine .inr ⟨?_,this.symm⟩
    rw[Bool.and_eq_true,Bool.and_eq_true]at hc
    simpa using hc.1.1
   ·rw[if_neg hc,List.lookup_cons,hx]at h'
    exact .inl (Option.some.inj h').symm
  | false =>
   have h2:(r.map λ(n,k)=>if (k == NameKind.free && env.scope.kind == .function && env.kindOf n == some .cell) then (n,NameKind.cell) else (n,k)).lookup x=some k:=by
    by_cases hc:(k0 == NameKind.free && env.scope.kind == .function && env.kindOf n == some .cell)=true
    ·rw[if_pos hc,List.lookup_cons,hx]at h'
     exact h'
    ·rw[if_neg hc,List.lookup_cons,hx]at h'
     exact h'
   obtain⟨k1,h3,h4⟩:=oq h2
   exact⟨k1,by simp[List.lookup_cons,hx,h3],h4⟩
theorem iq{a b n:Addr}(h:a < n)(h':n<=b):a≠b:=Nat.ne_of_lt (Nat.lt_of_lt_of_le h h')
theorem mi{α β:Type}[BEq α][LawfulBEq α] : ∀ {l:List (α × β)} {x:α} {k:β},l.lookup x=some k->(x,k)∈l
 | [],_,_,h=>by simp at h
 | (n,k0) :: r,x,k,h=>by
  cases hx:x == n with
  | true =>
   simp only [List.lookup_cons,hx]at h
   cases h
   have e:x=n:=by simpa using hx
   subst e
   exact List.mem_cons_self
  | false =>
   simp only [List.lookup_cons,hx]at h
   exact List.mem_cons_of_mem _ (mi h)
section
variable {X:Cx}{elt tg iter:Expr}{ifs:List Expr}{scope:Scope}{Nc:List Str}{nv:Nat}{caps:List Nat}
theorem LM{pins:List (Addr × Obj)}{σ:St}{H:Hp}{s:Shared}{fp:List Addr}{h₁:Heap}{tk:Nat}{D C:Addr}{m:Str->Option Value}(S:cG X Nc nv caps scope)(I:ae X pins σ H s)
 (hf : ∀ b∈fp,fD X pins H b) (hfl : ∀ b∈fp,b < s.heap.objs.size) (hD:s.heap.objs.size<=D) (hC:s.heap.objs.size<=C) (hDC:D≠C) (hn:h₁.Ns C m) {oD:Obj} (hDo:h₁.get? D=some oD) (hDd : ∀ v,oD.data ≠ .cell v) (old : ∀ b o,s.heap.get? b=some o->h₁.get? b=some o) :
 ae (cP X Nc scope C s H fp) (pins++[(D,oD)]) (List.replicate nv none++caps.map λj=>(σ[j]?).join) H { s with heap:=h₁,toks:=tk }:=by
 have hcells : ∀ n,(n,NameKind.free)∈scope.names->∃ c,X.env.cells.lookup n=some c:=λn hm=>I.ok.has n (S.free n hm)
 have clX : ∀ x c,(fu X.env.cells scope.names []).lookup x=some c->(x,NameKind.free)∈scope.names/\X.env.cells.lookup x=some c:=λx c e=>by
  rcases wv _ _ _ _ e hcells with h | h
  ·exact h
  ·simp at h
 have frm : ∀ b∈cW X.stack,b < s.heap.objs.size:=λb hb=>by
  obtain⟨_,o,ho,_⟩:=I.stack.mem hb
  exact Heap.lt_size ho
 have cellLt : ∀ x c,X.env.cells.lookup x=some c->c < s.heap.objs.size:=λx c e=>by
  obtain⟨v,q⟩:=I.cell x c e
  exact q.lt
 refine⟨⟨I.ok.mod,S.kind,I.ok.glob,I.ok.blt,hC,λx y c e1 e2=>I.ok.inj x y c (clX x c e1).2 (clX y c e2).2,λx hx=>?_,λx c z=>absurd z (by show ¬ (false=true); decide),I.ok.hd,I.ok.frames,.inl rfl,λb hb=>⟨?_,λx c e z=>?_⟩,λb o e=>I.bs b o e,Nat.le_trans I.ok.bsz I.sz,λb o e hb=>?_,λb hb z=>?_,I.stack,I.stkFree⟩,
  rfl,I.bare,Un.kept old,⟨m,hn,λi x v h1 h2 h3=>?_⟩,λx c e=>?_,I.hok.fresh hC,λx c e=>I.freeC x c (clX x c e).2,λp hp=>?_,I.hok.kept old,?_⟩
 ·-- a cell or free name of the block has its cell
  have hx':(relabel scope X.env).names.lookup x=some .cell\/(relabel scope X.env).names.lookup x=some .free:=hx
  have hm:(x,NameKind.free)∈scope.names:=by
   rcases hx' with hx' | hx'
   ·obtain⟨k0,e,z⟩:=oq hx'
    rcases z with z | ⟨z,_⟩
    ·subst z; exact absurd rfl (S.nocell _ (mi e))
    ·subst z; exact mi e
   ·obtain⟨k0,e,z⟩:=oq hx'
    rcases z with z | ⟨_,z⟩
    ·subst z; exact mi e
    ·cases z
  exact ww _ _ _ (.inl hm)
 ·exact Nat.ne_of_lt (Nat.lt_of_lt_of_le (hfl b hb) hC)
 ·exact (hf b hb).2.2.2.2.1 x c (clX x c e).2 z
 ·have hx:=(hf b hb).2.2.2.1
  rcases hx with z | z
  ·exact I.ok.noex b o e z
  ·exact absurd (Nat.lt_of_lt_of_le (Nat.lt_of_lt_of_le (Heap.lt_size e) I.ok.bsz) z) (Nat.lt_irrefl _)
 ·rcases List.mem_cons.mp (I.stkSub b z) with q | q
  ·exact (hf b hb).2.1 q
  ·exact (hf b hb).2.2.1 q
 ·-- the names' values
  have hi:nv<=i:=by
   refine Nat.le_of_not_lt λhlt=>?_
   rw[List.getElem?_append_left (by simpa using hlt),List.getElem?_replicate,if_pos hlt]at h2
   cases h2
  obtain⟨k,rfl⟩:=Nat.le.dest hi
  rw[List.getElem?_append_right (by simp)]at h2
  simp only [List.length_replicate,Nat.add_sub_cancel_left,List.getElem?_map]at h2
  cases ek:caps[k]? with
  | none=>rw[ek]at h2; cases h2
  | some j =>
   rw[ek]at h2
   have h2':(σ[j]?).join=some v:=Option.some.inj h2
   have hσ:σ[j]? = some (some v):=by
    cases e:σ[j]? with
    | none=>rw[e]at h2'; cases h2'
    | some z=>rw[e]at h2'; cases z with
     | none=>cases h2'
     | some z=>have:z=v:=Option.some.inj h2'; rw[this]
   obtain⟨y,e1,e2,e3⟩:=S.cap k j ek
   have h1':Nc[nv+k]? = some x:=h1
   rw[e1]at h1'
   cases h1'
   have hm:=mi e3
   have hk:=S.free x hm
   obtain⟨m0,hn0,hl⟩:=I.loc
   obtain⟨u,ru,lk⟩:=hl j x v e2 hσ (by
    rcases hk with z | z
    ·exact .inr (.inl z)
    ·exact .inr (.inr z))
   refine⟨u,ru,?_⟩
   rcases lk with ⟨z,_⟩ | ⟨_,c,hc,hcell⟩
   ·rcases hk with z' | z' <;> rw[z]at z' <;> cases z'
   ·refine .inr ⟨?_,c,?_,hcell.keeps old⟩
    ·rcases h3 with z | z | z
     ·exfalso
      obtain⟨k0,e,z'⟩:=oq (show (relabel scope X.env).names.lookup x=some .local from z)
      rw[e3]at e
      cases e
      rcases z' with z' | ⟨_,z'⟩ <;> cases z'
     ·exact .inl z
     ·exact .inr z
    ·obtain⟨c',hc'⟩:=ww (cells:=X.env.cells) scope.names [] x (.inl hm)
     rw[(clX x c' hc').2]at hc
     cases hc
     exact hc'
 ·obtain⟨v,z⟩:=I.cell x c (clX x c e).2
  exact⟨v,z.keeps old⟩
 ·-- pins
  have hp':p∈X.pn++(pins++[(D,oD)]):=hp
  rw[<- List.append_assoc]at hp'
  rcases List.mem_append.mp hp' with z | z
  ·obtain⟨e,n,ne,nf,d⟩:=I.pin p z
   have hlt:=Heap.lt_size e
   refine⟨old _ _ e,n,Nat.ne_of_lt (Nat.lt_of_lt_of_le hlt hC),λq=>?_,d⟩
   rcases List.mem_cons.mp (I.stkSub p.1 q) with q | q
   ·exact ne q
   ·exact nf q
  ·have e:p=(D,oD):=by simpa using z
   subst e
   exact⟨hDo,I.hok.fresh hD,hDC,λq=>absurd (Nat.lt_of_lt_of_le (frm _ q) hD) (Nat.lt_irrefl _),hDd⟩
 ·show (List.replicate nv none++caps.map λj=>(σ[j]?).join).length=Nc.length
  rw[List.length_append,List.length_replicate,List.length_map,S.len]
abbrev gR(its:List Value)(n:Nat):Obj:={ cls:=.type "list",data:=.seq its.toArray n }
theorem Bp(its:List Value)(n:Nat) : ∀ v,(gR its n).data ≠ .cell v:=λv z=>by
 have z':Data.seq its.toArray n=Data.cell v:=z
 cases z'
theorem C2{g:TG}{tt:TT}{te:TE}{pos:Pos}{pins:List (Addr × Obj)}{σ:St}{H:Hp}{s:Shared}{Q:VK}{E:Value->Shared->Prop}{RR:Value->Addr->Result->Shared->Prop}(hc:X.calm=true)(S:cG X Nc nv caps scope)
 (hg : ∀ C s H fp,PG (cP X Nc scope C s H fp) tg g) (ht : ∀ C s H fp,lH (cP X Nc scope C s H fp) ifs tt) (he : ∀ C s H fp,PE (cP X Nc scope C s H fp) elt te)
 {it:Addr} {fp:List Addr} {tn:Nat->Heap->Prop} {J:It} (I:ae X pins σ H s) (T:iu X.prog X.w X.K tg J fp it tn) (st:tn 0 s.heap) (hf : ∀ b∈fp,fD X pins H b)
 {W:Nat->Nat->List V->St->Hp->Prop} {m0:Nat} (w0:W 0 m0 [] (List.replicate nv none++caps.map λj=>(σ[j]?).join) H)
 (turn : ∀ i m ys σ1 H2,W i m ys σ1 H2->(J.stop i H2/\ys.length<=sizeLine/\∀ p H',aZ H2 p (.lst ys) H'->Q (.ref p) H') \/
   (J.go i H2/\ys.length < sizeLine/\∃ Nx:List V->St->Hp->Prop,(∀ ys' σ' H',Nx ys' σ' H'->∃ m',m' < m/\W (i+1) m' ys' σ' H') /\
     ∀ x H',J.yld i H2 x H'->g x σ1 H' λσ2 H3=>tt σ2 H3 λb H4=>if b=true then te σ2 H4 λy H5=>Nx (ys++[y]) σ2 H5 else Nx ys σ2 H4))
 (hRR : ∀ (D C:Addr) (s1:Shared) (H':Hp),ae X pins σ H' s1->fD X pins H' C->(∃ m,s1.heap.Ns C m)->Q (.ref D) H'->RR (.ref D) C (.ok .next) s1) :
 wpAny (model X.prog X.w) X.A (newList []) (λacc s₃=>wpAny (model X.prog X.w) X.A (newFunctionEnv scope X.env.globals (fu X.env.cells scope.names []) [] X.env.qual none .none (some X.env)) (λcenv s₄ =>
  codeAny (model X.prog X.w) X.A (.compStart (.ListComp elt [⟨tg,iter,ifs,0⟩] scope pos) 0 (.ref it) acc { cenv with scope:=relabel scope X.env }) (RR acc cenv.locals) s₄) E s₃) E s:=by
 refine wpAny_newObj_type (wpAny_newFunctionEnv S.nocell (by intro y hy; simp at hy) (λh₁ hns₁ hsb₁=>?_) S.kind)
 dsimp only at hns₁ hsb₁ ⊢
 generalize hH2:s.heap.push { cls:=.type "list",dict:=none,data:=.seq ([]:List Value).toArray }=h2 at hns₁ hsb₁ ⊢
 have hC:h2.objs.size=s.heap.objs.size+1:=by rw[<- hH2,Heap.size_push]
 have hDC:s.heap.objs.size≠h2.objs.size:=by rw[hC]; exact Nat.ne_of_lt (Nat.lt_succ_self _)
 have hCle:s.heap.objs.size<=h2.objs.size:=by rw[hC]; exact Nat.le_succ _
 have old : ∀ b o,s.heap.get? b=some o->h₁.get? b=some o:=λb o e=>hsb₁.extBut b o (Nat.ne_of_lt (Nat.lt_of_lt_of_le (Heap.lt_size e) hCle)) (Heap.get?_push_of_some _ (hH2 ▸ Heap.get?_push_of_some _ e))
 have hacc:h₁.get? s.heap.objs.size=some (gR [] 0):=hsb₁.extBut _ _ hDC (Heap.get?_push_of_some _ (hH2 ▸ Heap.get?_push_size _ rfl))
 have hfl : ∀ b∈fp,b < s.heap.objs.size:=λb hb=>by
  obtain⟨o,ho,_⟩:=T.obj _ _ st b hb
  exact Heap.lt_size ho
 have frm : ∀ b∈cW X.stack,b < s.heap.objs.size:=λb hb=>by
  obtain⟨_,o,ho,_⟩:=I.stack.mem hb
  exact Heap.lt_size ho
 have cellLt : ∀ x c,X.env.cells.lookup x=some c->c < s.heap.objs.size:=λx c e=>by
  obtain⟨v,q⟩:=I.cell x c e
  exact q.lt
 have hcells : ∀ n,(n,NameKind.free)∈scope.names->∃ c,X.env.cells.lookup n=some c:=λn hm=>I.ok.has n (S.free n hm)
 have clX : ∀ x c,(fu X.env.cells scope.names []).lookup x=some c->X.env.cells.lookup x=some c:=λx c e=>by
  rcases wv _ _ _ _ e hcells with h | h
  ·exact h.2
  ·simp at h
 have pinLt : ∀ p∈X.pn++pins,p.1 < s.heap.objs.size:=λp hp=>Heap.lt_size (I.pin p hp).1
 generalize hDD:s.heap.objs.size=D at hacc hDC ⊢
 generalize hCC:h2.objs.size=C at hDC hCle hns₁ hsb₁ ⊢
 have leD:s.heap.objs.size<=D:=Nat.le_of_eq hDD
 have leC:s.heap.objs.size<=C:=by omega
 have fpc : ∀ {H1:Hp} (o:Obj),(∀ b∈fp,H1 b=none)->∀ b∈fp,fD (cP X Nc scope C s H fp) (pins++[(D,o)]) H1 b:=λ{H1} o hn b hb=>by
  refine⟨hn b hb,Nat.ne_of_lt (Nat.lt_of_lt_of_le (hfl b hb) leC),λz=>?_,.inl hb,λx c e z=>(hf b hb).2.2.2.2.1 x c (clX x c e) z,λp hp=>?_⟩
  ·rcases List.mem_cons.mp (I.stkSub b z) with q | q
   ·exact (hf b hb).2.1 q
   ·exact (hf b hb).2.2.1 q
  ·have hp':p∈X.pn++(pins++[(D,o)]):=hp
   rw[<- List.append_assoc]at hp'
   rcases List.mem_append.mp hp' with z | z
   ·exact (hf b hb).2.2.2.2.2 p z
   ·have e:p=(D,o):=by simpa using z
    subst e
    exact λq=>iq (hfl b hb) leD q.symm
 have loop : ∀ s₃:Shared,s₃ = { s with heap:=h₁,toks:=s.toks+([]:List (Str × Value)).length } ->
  codeAny (model X.prog X.w) X.A (.compLoop (.ListComp elt [⟨tg,iter,ifs,0⟩] scope pos) 0 (.ref it) (.ref D) (compEnvC scope (fu X.env.cells scope.names []) C X.env)) (RR (.ref D) C) s₃:=by
  rintro s₃ rfl
  refine OU (λn s'=>∃ (i:Nat) (ys:List V) (its:List Value) (nn:Nat) (σ1:St) (H1:Hp),ae (cP X Nc scope C s H fp) (pins++[(D,gR its nn)]) σ1 H1 s'/\tn i s'.heap/\(∀ b∈fp,H1 b=none)/\aI ys its/\W i n ys σ1 H1) ?_ m0
   ⟨0,[],[],0,_,H,LM S I hf hfl leD leC hDC hns₁ hacc (Bp _ _) old,T.keep _ _ _ st λb _ o e=>old b o e,λb hb=>(hf b hb).1,.nil,w0⟩
  rintro n s' ⟨i,ys,its,nn,σ1,H1,I1,st1,fr1,rv,w1⟩
  have pinD : ∀ {σ':St} {H':Hp} {s'':Shared} {pl:List (Addr × Obj)},ae (cP X Nc scope C s H fp) ((pins++[(D,gR its nn)])++pl) σ' H' s''->s''.heap.get? D=some (gR its nn)/\H' D=none:=λ{σ' H' s'' pl} I'=>by
   have z:=I'.pin (D,gR its nn) (List.mem_append_right _ (List.mem_append_left _ (List.mem_append_right _ (by simp))))
   exact⟨z.1,z.2.1⟩
  rcases turn i n ys σ1 H1 w1 with ⟨stop,hz,q⟩ | ⟨go,hz,Nx,hNx,step⟩
  ·refine ax (T.done (cP X Nc scope C s H fp) rfl rfl rfl hc i _ s' σ1 H1 _ I1 (fpc _ fr1) st1 stop) λr s4 ⟨hr,I4⟩=>?_
   subst hr
   obtain⟨eD,nD⟩:=pinD (pl:=[]) (by rw[List.append_nil]; exact I4)
   obtain⟨m,hnC,_⟩:=I4.loc
   have u4:Un (cW X.stack) fp H H1 s.heap s4.heap:=I4.base
   have dNone:s.heap.get? D=none:=Heap.get?_none_of_le (Nat.le_of_eq hDD)
   have noD : ∀ b o,s.heap.get? b=some o->b≠D:=λb o e z=>by rw[z,dNone]at e; cases e
   have u5:Un (cW X.stack) fp H (upd H1 D (.lst ys)) s.heap s4.heap:=by
    refine⟨u4.keep,u4.slot,λb o e n hx=>?_,u4.there,λb xs e=>?_,λb o u e=>?_,λb ps e=>?_⟩
    ·rw[aw (noD b o e)]
     exact u4.free b o e n hx
    ·have z:=u4.tups b xs e
     rw[aw (aH z nD)]
     exact z
    ·have z:=u4.frzs b o u e
     rw[aw (aH z nD)]
     exact z
    ·obtain⟨more,z⟩:=u4.tbls b ps e
     exact⟨more,by rw[aw (aH z nD)]; exact z⟩
   have hok:bw X.prog X.w (upd H1 D (.lst ys)) s4.heap:=bw.adopt I4.hok nD ⟨hz,its,nn,rv,eD⟩
   have IX:ae X pins σ (upd H1 D (.lst ys)) s4:=I.call' I4.os u5 hok I4.bare λb hb=>⟨(hf b hb).2.2.2.1,(hf b hb).2.1,(hf b hb).2.2.2.2.1,(hf b hb).2.2.2.2.2⟩
   have fpC:fD X pins (upd H1 D (.lst ys)) C:=by
    have hl:X.env.locals < s.heap.objs.size:=I.lt
    exact⟨by rw[aw (Ne.symm hDC)]; exact I4.free,(iq hl leC).symm,I.nofs leC,.inr (Nat.le_trans I.sz leC),λx c e z=>iq (cellLt x c e) leC z,λp hp z=>iq (pinLt p hp) leC z⟩
   exact hRR D C s4 _ IX fpC ⟨m,hnC⟩ (q D _ (.mk' nD))
  ·refine ax (T.item (cP X Nc scope C s H fp) rfl rfl rfl hc i _ s' σ1 H1 _ I1 (fpc _ fr1) st1 go) λr s4 ⟨u,hr,h4⟩=>?_
   subst hr
   refine ax h4 λ_ s5 ⟨x,H5,I5,r5,y5,st5,fr5⟩=>?_
   have I5':=I5.pinned (fpc _ fr5) (T.obj _ _ st5)
   have back : ∀ {σ7:St} {H7:Hp} {s7:Shared},ae (cP X Nc scope C s H fp) ((pins++[(D,gR its nn)])++lZ fp s5.heap) σ7 H7 s7->tn (i+1) s7.heap/\∀ b∈fp,H7 b=none:=λ{σ7 H7 s7} I7=>by
    refine⟨T.keep _ _ _ st5 λb hb o e=>(I7.pin (b,o) (List.mem_append_right _ (List.mem_append_right _ (ol hb e)))).1,λb hb=>?_⟩
    obtain⟨o,e,d⟩:=T.obj _ _ st5 b hb
    exact (I7.pin (b,o) (List.mem_append_right _ (List.mem_append_right _ (ol hb e)))).2.1
   refine ax (hg _ _ _ _ _ s5 σ1 H5 x u _ I5' r5 (step x H5 y5)) λ_ s6 ⟨σ6,H6,I6,q6⟩=>?_
   refine ax (ht _ _ _ _ _ s6 σ6 H6 _ I6 q6) λb s7 ⟨H7,I7,q7⟩=>?_
   cases b with
   | false =>
    obtain⟨m',hm,w7⟩:=hNx _ _ _ q7
    obtain⟨t7,f7⟩:=back I7
    exact⟨m',hm,i+1,ys,its,nn,σ6,H7,I7.unpinned,t7,f7,rv,w7⟩
   | true =>
    refine ax (he _ _ _ _ _ s7 σ6 H7 _ I7 q7) λyv s8 ⟨y,H8,I8,r8,n8⟩=>?_
    obtain⟨m',hm,w8⟩:=hNx _ _ _ n8
    obtain⟨t8,f8⟩:=back I8
    obtain⟨eD,nD⟩:=pinD I8
    have hlen:=rv.length
    refine call_meets F.slot_list_append ⟨_,eD,rfl⟩ F.entry_list_append (F.args_list_append_2 _ _) (PySem.list_append D its.toArray nn yv (by rw[List.size_toArray]; omega)) ⟨eD,?_⟩
    have ea:its.toArray.push yv=(its++[yv]).toArray:=by simp
    obtain⟨n9,e9⟩ : ∃ n9,(s8.heap.update D (Obj.mapSeq (·.push yv))).get? D=some (gR (its++[yv]) n9):=⟨_,by
     have z:=PySem.IsL.update eD (·.push yv)
     rw[ea]at z
     exact z⟩
    have keep9 : ∀ b o,b≠D->s8.heap.get? b=some o->(s8.heap.update D (Obj.mapSeq (·.push yv))).get? b=some o:=λb o hb e=>(Heap.get?_update_other _ _ (Ne.symm hb)).trans e
    have nfp : ∀ b∈fp,b≠D:=λb hb z=>iq (hfl b hb) leD z
    have I8u:ae (cP X Nc scope C s H fp) pins σ6 H8 s8:=I8.pins_of λp hp=>I8.pin p (List.mem_append_right _ (List.mem_append_left _ (List.mem_append_left _ hp)))
    have I9:=I8u.turned (t':=s8.toks) (it:=D) keep9 nD hDC (.inr leD) (λx c e z=>iq (cellLt x c (clX x c e)) leD z) (λp hp z=>iq (pinLt p hp) leD z)
    have t9:tn (i+1) (s8.heap.update D (Obj.mapSeq (·.push yv))):=T.keep _ _ _ t8 λb hb o e=>keep9 b o (nfp b hb) e
    refine⟨m',hm,i+1,ys++[y],its++[yv],n9,σ6,H8,I9.pins_of λp hp=>?_,t9,f8,rv.append (.cons r8 .nil),w8⟩
    rcases List.mem_append.mp hp with z | z
    ·exact I9.pin p (List.mem_append_right _ z)
    ·have e:p=(D,gR (its++[yv]) n9):=by simpa using z
     subst e
     exact⟨e9,nD,hDC,λq=>iq (frm _ q) leD rfl,Bp _ _⟩
 have st':=λ(s₃:Shared) (e:s₃ = { s with heap:=h₁,toks:=s.toks+([]:List (Str × Value)).length })=>loop s₃ e
 exact codeAny_compStart_list (loop _ rfl) (T.self _ 0 _ _ _ (T.keep _ _ _ st λb _ o e=>old b o e) (loop _ rfl))
theorem Jk{wi:TI}{g:TG}{tt:TT}{te:TE}{pos:Pos}(hc:X.calm=true)(S:cG X Nc nv caps scope)(hi:PI X tg iter wi)
 (hg : ∀ C s H fp,PG (cP X Nc scope C s H fp) tg g) (ht : ∀ C s H fp,lH (cP X Nc scope C s H fp) ifs tt) (he : ∀ C s H fp,PE (cP X Nc scope C s H fp) elt te)
 (hs : ∀ x,foldedSetIterable iter X.env x=pure x:=by intro _; rfl):PE X (.ListComp elt [⟨tg,iter,ifs,0⟩] scope pos) (nI nv caps wi g tt te):=by
 intro pins s σ H Q I h
 rw[eval_ListComp]
 have hcells : ∀ n,(n,NameKind.free)∈scope.names->∃ c,X.env.cells.lookup n=some c:=λn hm=>I.ok.has n (S.free n hm)
 refine wpAny_comprehension_free (use:=none) rfl hs (C4 hcells) S.kind S.names (ax (hi pins s σ H _ I h) λv s1 h1=>ax h1 λitv s2 h2=>?_)
 obtain⟨it,fp,tn,J,H2,rfl,I2,T,st2,f2,W,⟨m0,w0⟩,turn⟩:=h2
 refine C2 (RR:=λacc C=>compPost (model X.prog X.w) X.A X.xe none (EP X pins σ Q) acc C) hc S hg ht he I2 T st2 f2 w0 turn λD C s4 H4 I4 fC hn q=>?_
 obtain⟨m,hn⟩:=hn
 refine⟨m,hn,λh' sb=>?_⟩
 obtain⟨f0,f1,f2',f3,f4,f5⟩:=fC
 exact⟨.ref D,H4,I4.turned (t':=s4.toks) (it:=C) (λb o hb e=>sb.extBut b o hb e) f0 f1 f3 f4 f5,rfl,q⟩
theorem Io{wi:TI}{g:TG}{tt:TT}{te:TE}{pos spos py:Pos}{i:Nat}{y:Str}(hN:X.N.Nodup)(hy:X.N[i]? = some y)(hx:iA X.env.scope y)(hc:X.calm=true)(S:cG X Nc nv caps scope)(hi:PI X tg iter wi)
 (hg : ∀ C s H fp,PG (cP X Nc scope C s H fp) tg g) (ht : ∀ C s H fp,lH (cP X Nc scope C s H fp) ifs tt) (he : ∀ C s H fp,PE (cP X Nc scope C s H fp) elt te)
 (hsw:swapsWith (.ListComp elt [⟨tg,iter,ifs,0⟩] scope pos) (some (.Name y py)) spos.line X.env=pure true:=by rfl)
 (hs : ∀ x,foldedSetIterable iter X.env x=pure x:=by intro _; rfl) (hf:X.fn y=true\/X.env.scope.names.lookup y=some .local:=by first | exact .inl rfl | exact .inr rfl | assumption) :
 PS X (.Assign [.Name y py] (.ListComp elt [⟨tg,iter,ifs,0⟩] scope pos) spos) (jh (nI nv caps wi g tt te) (cO i)):=by
 intro pins s σ H D0 I h
 have hcells : ∀ n,(n,NameKind.free)∈scope.names->∃ c,X.env.cells.lookup n=some c:=λn hm=>I.ok.has n (S.free n hm)
 rw[exec_Assign_Name_used _ _ _ _ hsw]
 refine wpAny_bind (wpAny_standAt (wpAny_bind ?_))
 show wpAny _ X.A (do let _ <- comprehension (.ListComp elt [⟨tg,iter,ifs,0⟩] scope pos) scope X.env _ (newList []) false (eval iter X.env) (some (assign (.Name y py) X.env))) _ _ s
 refine wpAny_bind (wpAny_mono (wpAny_comprehension_free (use:=some (assign (.Name y py) X.env)) (Q:=λ_ s'=>SP X pins D0 .next s') rfl hs (C4 hcells) S.kind S.names
  (ax (hi pins s σ H _ I h) λv s1 h1=>ax h1 λitv s2 h2=>?_)) (λ_ s' hq=>wpAny_pure (wpAny_pure hq)) λ_ _ e=>e)
 obtain⟨it,fp,tn,J,H2,rfl,I2,T,st2,f2,W,⟨m0,w0⟩,turn⟩:=h2
 refine C2 (RR:=λacc C=>compPost (model X.prog X.w) X.A X.xe (some (assign (.Name y py) X.env)) (λ_ s'=>SP X pins D0 .next s') acc C) (Q:=λx H1=>cO i x σ H1 D0.nx) hc S hg ht he I2 T st2 f2 w0 turn λD C s4 H4 I4 fC hn q=>?_
 obtain⟨m,hn⟩:=hn
 obtain⟨f0,f1,f2',f3,f4,f5⟩:=fC
 show wpAny _ X.A (assign (.Name y py) X.env (.ref D)) _ _ _
 refine wpAny_assign_Name (zz I4 hN hy hx (show aR (.ref D) (.ref D) from rfl) (λs5 I5 sb5=>?_) hf)
 obtain⟨a5,sb5,ha5⟩:=sb5
 have hCa:C≠a5:=by
  rcases ha5 with z | z
  ·rw[z]; exact f1
  ·exact λe=>f4 _ _ z e.symm
 refine⟨m,hn.sameBut sb5 hCa,λh' sb=>?_⟩
 exact⟨_,H4,I5.turned (t':=s5.toks) (it:=C) (λb o hb e=>sb.extBut b o hb e) f0 f1 f3 f4 f5,q⟩
end
theorem mT{K:W.Frag}{a:Addr}{xs:List V}{cs:St}{tt:TT}{te:TE}{H:Hp}{Q:VK}(Pv:Nat->List V->Hp->Prop)(h0:Pv 0 [] H)(hl : ∀ i ys H,i<=xs.length->Pv i ys H->aE K H a xs/\ys.length<=i)(hz:xs.length<=sizeLine)
 (hs : ∀ i x ys H (N:List V->Hp->Prop),xs[i]? = some x->Pv i ys H->(∀ ys' H',Pv (i+1) ys' H'->N ys' H')->tt (some x :: cs) H λb H4=>if b=true then te (some x :: cs) H4 λy H5=>N (ys++[y]) H5 else N ys H4)
 (hd : ∀ ys H p H',Pv xs.length ys H->aZ H p (.lst ys) H'->Q (.ref p) H') :
 iC (jc K a) H (List.replicate 1 none++cs) (cO 0) tt te Q:=by
 refine⟨λi m ys σ H=>m=xs.length - i/\i<=xs.length/\Pv i ys H/\∃ v0,σ=v0 :: cs,⟨xs.length,by simp,Nat.zero_le _,h0,none,rfl⟩,?_⟩
 rintro i m ys σ H2 ⟨rfl,hi,p,v0,rfl⟩
 obtain⟨q,ql⟩:=hl i ys H2 hi p
 by_cases hlt:i < xs.length
 ·refine .inr ⟨⟨xs,xs[i],q,by simp[hlt]⟩,by omega,λys' σ' H'=>Pv (i+1) ys' H'/\∃ v0,σ'=v0 :: cs,λys' σ' H' ⟨p',e⟩=>⟨xs.length - (i+1),by omega,rfl,hlt,p',e⟩,λx H' y=>?_⟩
  obtain⟨e,y⟩:=y
  subst e
  exact hs i x ys H' (λys' H'=>Pv (i+1) ys' H'/\∃ v0,some x :: cs=v0 :: cs) (y xs q) p λ_ _ z=>⟨z,_,rfl⟩
 ·have e:i=xs.length:=by omega
  subst e
  exact .inl ⟨⟨xs,q,Nat.le_refl _⟩,by omega,λp' H' g=>hd ys H2 p' H' p g⟩
theorem OT{lo:Int}{n:Nat}{cs:St}{tt:TT}{te:TE}{H:Hp}{Q:VK}(Pv:Nat->List V->Hp->Prop)(h0:Pv 0 [] H)(hl : ∀ i ys H,i<=n->Pv i ys H->ys.length<=i)(hz:n<=sizeLine)
 (hs : ∀ i ys H (N:List V->Hp->Prop),i < n->Pv i ys H->(∀ ys' H',Pv (i+1) ys' H'->N ys' H')->tt (some (.int (lo+i)) :: cs) H λb H4=>if b=true then te (some (.int (lo+i)) :: cs) H4 λy H5=>N (ys++[y]) H5 else N ys H4)
 (hd : ∀ ys H p H',Pv n ys H->aZ H p (.lst ys) H'->Q (.ref p) H') :
 iC (hW lo n) H (List.replicate 1 none++cs) (cO 0) tt te Q:=by
 refine⟨λi m ys σ H=>m=n - i/\i<=n/\Pv i ys H/\∃ v0,σ=v0 :: cs,⟨n,by simp,Nat.zero_le _,h0,none,rfl⟩,?_⟩
 rintro i m ys σ H2 ⟨rfl,hi,p,v0,rfl⟩
 have ql:=hl i ys H2 hi p
 by_cases hlt:i < n
 ·refine .inr ⟨hlt,by omega,λys' σ' H'=>Pv (i+1) ys' H'/\∃ v0,σ'=v0 :: cs,λys' σ' H' ⟨p',e⟩=>⟨n - (i+1),by omega,rfl,hlt,p',e⟩,λx H' y=>?_⟩
  obtain⟨e,y⟩:=y
  subst e y
  exact hs i ys H' (λys' H'=>Pv (i+1) ys' H'/\∃ v0,some (V.int (lo+i)) :: cs=v0 :: cs) hlt p λ_ _ z=>⟨z,_,rfl⟩
 ·have e:i=n:=by omega
  subst e
  exact .inl ⟨Nat.le_refl _,by omega,λp' H' g=>hd ys H2 p' H' p g⟩
def eV{α:Type}(xs:List α)(lo hi:Option Int):List α:=(xs.drop (HT.sIx xs.length 0 lo)).take (HT.sIx xs.length xs.length hi - HT.sIx xs.length 0 lo)
theorem ON{α β:Type}(f:α->β)(xs:List α)(lo hi:Option Int):eV (xs.map f) lo hi=(eV xs lo hi).map f:=by
 unfold eV
 rw[List.length_map,List.map_take,List.map_drop]
theorem mR{α:Type}(xs:List α)(k:Nat):eV xs none (some (k:Int))=xs.take k:=by
 unfold eV HT.sIx
 simp only [List.drop_zero,Nat.sub_zero]
 have h : ¬ ((k:Int) < 0):=by omega
 rw[if_neg h,Int.toNat_natCast,<- List.take_take,List.take_length]
theorem mS{α:Type}(xs:List α)(k:Nat):eV xs (some (k:Int)) none=xs.drop k:=by
 unfold eV HT.sIx
 have h : ¬ ((k:Int) < 0):=by omega
 dsimp only
 rw[if_neg h,Int.toNat_natCast]
 by_cases hk:k<=xs.length
 ·rw[Nat.min_eq_left hk]
  exact List.take_of_length_le (by simp)
 ·rw[Nat.min_eq_right (by omega),List.drop_length,List.take_nil,List.drop_eq_nil_of_le (by omega)]
theorem CZ{α:Type}(xs:List α)(k m:Nat):eV xs (some (k:Int)) (some ((k:Int)+(m:Int)))=(xs.drop k).take m:=by
 unfold eV HT.sIx
 have h : ¬ ((k:Int) < 0):=by omega
 have h' : ¬ ((k:Int)+(m:Int) < 0):=by omega
 have e:((k:Int)+(m:Int)).toNat=k+m:=by omega
 dsimp only
 rw[if_neg h,if_neg h',Int.toNat_natCast,e]
 by_cases hk:k<=xs.length
 ·rw[Nat.min_eq_left hk]
  by_cases hm:k+m<=xs.length
  ·rw[Nat.min_eq_left hm,Nat.add_sub_cancel_left]
  ·rw[Nat.min_eq_right (by omega),List.take_of_length_le (by simp),List.take_of_length_le (by simp; omega)]
 ·rw[Nat.min_eq_right (by omega:xs.length<=k),List.drop_length,List.take_nil,List.drop_eq_nil_of_le (by omega),List.take_nil]
theorem eU(ns:List Int)(lo hi:Option Int):de (ns.map V.int) lo hi=(eV ns lo hi).map V.int:=ON _ _ _ _
theorem Ou(ns ms:List Int):PyData.eqv (.list (ns.map PyData.int)) (.list (ms.map PyData.int))=decide (ns=ms):=by
 show PyData.eqvAll _ _=_
 exact W.ked_eqvAll ns ms
theorem im{K:W.Frag}{H:Hp}{a b:Addr}{ns ms:List Int}{neg:Bool}{Q:VK}(h1:aE K H a (ns.map V.int))(h2:aE K H b (ms.map V.int))(q:Q (.bl (if neg then !decide (ns=ms) else decide (ns=ms))) H) :
 lh K neg (.ref a) (.ref b) H Q:=by
 refine⟨_,_,ap.lst h1 (dN.ints ns),ap.lst h2 (dN.ints ms),W.ke_shaped_ints ns,W.ke_shaped_ints ms,?_⟩
 rw[Ou]
 exact q
structure QE (X:Cx) (e:Expr) (t:TE):Prop where
 h:PE X e t
structure QT (X:Cx) (e:Expr) (t:TT):Prop where
 h:PT X e t
structure QW (X:Cx) (e:Expr) (t:TT):Prop where
 h:PW X e t
structure QA (X:Cx) (es:List Expr) (t:TA):Prop where
 h:PA X es t
structure QS (X:Cx) (st:Stmt) (t:TS):Prop where
 h:PS X st t
structure eY (X:Cx) (st:List Stmt) (t:TS):Prop where
 h:eZ X st t
structure QG (X:Cx) (e:Expr) (t:TG):Prop where
 h:PG X e t
structure nh (X:Cx) (es:List Expr) (t:gC):Prop where
 h:ni X es t
structure QI (X:Cx) (tg e:Expr) (t:TI):Prop where
 h:PI X tg e t
structure QO (X:Cx) (e:Option Expr) (t:TO):Prop where
 h:PO X e t
structure rk (X:Cx) (es:List Expr) (t:TT):Prop where
 h:lH X es t
section
variable {X:Cx}{a b c e o:Expr}{es bN:List Expr}{pos p p2:Pos}{ta tb tc te to:TE}{tA tB' tt:TT}{t tk:TA}
theorem aj{i j pos}:QE X (.Constant (.int i) j pos) (tC (.int i)):=⟨nX⟩
theorem fY{b j pos}:QE X (.Constant (.bool b) j pos) (tC (.bl b)):=⟨AU⟩
theorem bY{j pos}:QE X (.Constant .none j pos) (tC .non):=⟨AR⟩
theorem bX{x j pos}:QE X (.Constant (.str x) j pos) (tC (.str x)):=⟨AQ⟩
theorem aa(i:Nat){x:Str}(hN:X.N[i]? = some x:=by rfl)(hv:m7 X.env.scope x:=by first | exact Or.inl rfl | exact Or.inr (Or.inl rfl) | exact Or.inr (Or.inr rfl))(hd:(x == ("__debug__" : Str))=false:=by decide)
 (hcd:(x == ("__classdict__" : Str))=false:=by decide):QE X (.Name x pos) (mV i):=⟨vv i hN hv hd hcd⟩
theorem bP{x:Str}{n:Int}{u:Tok}(hm:X.mg x=some (.int n u))(hg:Gl X x:=by rfl)(hd:(x == ("__debug__" : Str))=false:=by decide):QE X (.Name x pos) (tC (.int n)):=⟨gi hm hg hd⟩
theorem gP {x:Str} {v:V} {u:Value} (hg:Gl X x) (hm:X.mg x=some u) (r:aR v u) (hd:(x == ("__debug__" : Str))=false:=by decide):QE X (.Name x pos) (tC v):=⟨AT hg hm r hd⟩
theorem iQ {x:Str} {T:String} (hg:Gl X x) (hm:X.mg x=none) (hv:bootBuiltins x=some (.type T)) (hn:x ≠ "__name__":=by decide) (hd:(x == ("__debug__" : Str))=false:=by decide):QE X (.Name x pos) (tC (.ty T)):=⟨Pn hg hm hv hn hd⟩
theorem bH{j:Int}{k:Nat}(ha:QE X a ta)(hj:0 < j/\j < 1073741824:=by decide):QE X (.BinOp a .FloorDiv (.Constant (.int j) k p) pos) (Bl j ta):=⟨K3 ha.h hj⟩
theorem bh{j:Int}{k:Nat}(ha:QE X a ta)(hj:0 < j:=by decide):QE X (.BinOp a .Mod (.Constant (.int j) k p) pos) (om j ta):=⟨K1 ha.h hj⟩
theorem au{op:Operator}{r:R2}(ho:aW X (binaryOp op) r)(ha:QE X a ta)(hb:QE X b tb):QE X (.BinOp a op b pos) (fW r ta tb):=⟨IZ ho ha.h hb.h⟩
theorem AG(ha:QE X a ta):QE X (.UnaryOp .Not a pos) (Bk ta):=⟨K0 ha.h⟩
theorem ib(ha:QE X a ta)(hb:QE X (.BoolOp .And (b :: bN) pos) tb):QE X (.BoolOp .And (a :: b :: bN) pos) (Bn ta tb):=⟨K6 ha.h hb.h⟩
theorem lY(ha:QE X a ta)(hb:QE X (.BoolOp .Or (b :: bN) pos) tb):QE X (.BoolOp .Or (a :: b :: bN) pos) (Bj ta tb):=⟨KZ ha.h hb.h⟩
theorem gl{op}(h:QE X a ta):QE X (.BoolOp op [a] pos) ta:=⟨I0 h.h⟩
theorem sn{op:CmpOp}{r:R2}(ho:aW X (compareOp op) r)(ha:QE X a ta)(hb:QE X b tb)(hm:behindInMarks op b=false):QE X (.Compare a [op] [b] pos) (fW r ta tb):=⟨Jl ho ha.h hb.h hm⟩
theorem kT{op op':CmpOp}{r r':R2}(ho:aW X (compareOp op) r)(ho':aW X (compareOp op') r')(ha:QE X a ta)(hb:QE X b tb)(hc:QE X c tc)
 (hm:lastMarks [op,op'] [b,c]=false:=by with_unfolding_all rfl):QE X (.Compare a [op,op'] [b,c] pos) (oo r r' ta tb tc):=⟨K5 ho ho' ha.h hb.h hc.h hm⟩
theorem gn(hc:QT X c tA)(ha:QE X a ta)(hb:QE X b tb):QE X (.IfExp c a b pos) (zn tA ta tb):=⟨Jd hc.h ha.h hb.h⟩
theorem bZ(h:QW X e tt):QT X e tt:=⟨PW.pt h.h⟩
theorem fX(ha:QT X a tA):QW X (.BoolOp .And [a] pos) tA:=⟨Ic ha.h⟩
theorem du(ha:QT X a tA):QW X (.BoolOp .Or [a] pos) tA:=⟨Ia ha.h⟩
theorem fF(ha:QT X a tA)(hb:QW X (.BoolOp .And (b :: bN) pos) tB'):QW X (.BoolOp .And (a :: b :: bN) pos) (zw tA tB'):=⟨Id ha.h hb.h⟩
theorem dv(ha:QT X a tA)(hb:QW X (.BoolOp .Or (b :: bN) pos) tB'):QW X (.BoolOp .Or (a :: b :: bN) pos) (zg tA tB'):=⟨Ib ha.h hb.h⟩
theorem eJ(ha:QT X a tA):QT X (.UnaryOp .Not a pos) (zh tA):=⟨Ii ha.h⟩
theorem av{op:CmpOp}{r:R2}(ho:aW X (compareOp op) r)(ha:QE X a ta)(hb:QE X b tb)(hm:behindInMarks op b=false):QT X (.Compare a [op] [b] pos) (mB (fW r ta tb)):=⟨J8 ho ha.h hb.h hm⟩
theorem AF{op op':CmpOp}{r r':R2}(ho:aW X (compareOp op) r)(ho':aW X (compareOp op') r')(ha:QE X a ta)(hb:QE X b tb)(hc:QE X c tc)
 (hm:lastMarks [op,op'] [b,c]=false:=by with_unfolding_all rfl):QT X (.Compare a [op,op'] [b,c] pos) (mB (oo r r' ta tb tc)):=⟨J9 ho ho' ha.h hb.h hc.h hm⟩
theorem dE(h:QE X e te)(he : ∀ whole,isTrue e X.env whole=(do let v <- whole; standAt e.pos; holding [v] (truthy v)):=by intro _; rfl):QT X e (mB te):=⟨J4 h.h he⟩
theorem HW(h:QE X e te)(he : ∀ whole,isTrue e X.env whole=(do let v <- whole; standAt e.pos; holding [v] (truthy v)):=by intro _; rfl):QT X e (sG X.K te):=⟨J5 h.h he⟩
theorem ad:QA X [] iD:=⟨AX⟩
theorem ab(ha:QE X e te)(hr:QA X es t)(hs:dj e=false:=by rfl):QA X (e :: es) (jf te t):=⟨AZ ha.h hr.h hs⟩
theorem lX{vs:List V}(h:qi es=some vs):QA X es (rN vs):=⟨AY h⟩
theorem aS(h:QA X es t):QE X (.List es pos) (mh t):=⟨K2 h.h⟩
theorem bK{x1}(h:QA X es t):QE X (.Tuple es x1 pos) (sF t):=⟨KW h.h⟩
theorem AI:QE X (.Dict [] [] pos) Bm:=⟨K4⟩
theorem dD:QO X none zi:=⟨IJ⟩
theorem ci(h:QE X e te):QO X (some e) (zf te):=⟨II h.h⟩
theorem cU{r:V->Option Int->Option Int->Hp->VK->Prop}{lo hi:Option Expr}{tl th:TO}(hr:ix X r)(he:QE X e te)(hl:QO X lo tl)(hu:QO X hi th):QE X (.Subscript e (.Slice lo hi none p2) pos) (zc r te tl th):=⟨IY hr he.h hl.h hu.h⟩
theorem aL{r:R2}(hr:fB X r)(ha:QE X a ta)(hb:QE X b tb)(hs:Dw b):QE X (.Subscript a b pos) (fW r ta tb):=⟨Jc hr ha.h hb.h hs⟩
section
variable {k j:Nat}{f:Addr}{fd:FuncData}{ps:List Str}{sp:Sp}{x:Str}
theorem aN(F:bp X.prog X.w X.K X.mg X.base x j f fd ps sp)(hr:bM k X.A)(ha:QA X (e :: es) t)(hj:j<=k:=by decide)(hg:Gl X x:=by rfl)
 (hdb:(x == ("__debug__" : Str))=false:=by decide) (hn:di (e :: es)=true:=by rfl):QE X (.Call (.Name x p) (e :: es) [] pos) (lQ sp [] E0 t):=⟨O4 F hr ha.h hj hg hdb hn⟩
theorem bi{id:String}{r:List V->Hp->VK->Prop}(hc:cL X (.builtin id) r)(hm:X.mg x=none)(hv:bootBuiltins x=some (.builtin id))(ha:QA X (e :: es) t)(hg:Gl X x:=by rfl)(hx:x ≠ "__name__":=by decide)(hdb:(x == ("__debug__" : Str))=false:=by decide)
 (hn:di (e :: es)=true:=by rfl):QE X (.Call (.Name x p) (e :: es) [] pos) (jg r t):=⟨O3 hc hm hv ha.h hg hx hdb hn⟩
theorem dR{T:String}{r:List V->Hp->VK->Prop}(hc:cL X (.type T) r)(hm:X.mg x=none)(hv:bootBuiltins x=some (.type T))(ha:QA X (e :: es) t)(hg:Gl X x:=by rfl)(hx:x ≠ "__name__":=by decide)(hdb:(x == ("__debug__" : Str))=false:=by decide)
 (hn:di (e :: es)=true:=by rfl):QE X (.Call (.Name x p) (e :: es) [] pos) (jg r t):=⟨O2 hc hm hv ha.h hg hx hdb hn⟩
end
section
variable {name:Str}{apos cpos:Pos}{T id:String}{r:V->List V->Hp->VK->Prop}
theorem HU (pa:PlainAttrs T) (slot:Slot T name id) (hty:typeOf (.builtin id)=pure (.type "method_descriptor")) (hm:fA X id r) (ho:QE X o to)
 (hbase:attributeBase o name X.env (eval o X.env)=eval o X.env:=by rfl) (hline:(apos.endLine == cpos.line)=true:=by rfl):QE X (.Call (.Attribute o name apos) [] [] cpos) (rO X.K T r to):=⟨Jp pa slot hty hm ho.h hbase hline⟩
theorem A7{env:Env}{pos:Pos} : ∀ {es:List Expr},di es=true->(backTo pos (starEach es env)).all (λx=>!x.1)=true
 | [],_=>rfl
 | e :: r,h=>by
  obtain⟨h1,h2⟩:=dI h
  rw[cM h1]
  show (!false && (backTo pos (starEach r env)).all (λx=>!x.1))=true
  rw[A7 h2]
  rfl
theorem HV (pa:PlainAttrs T) (slot:Slot T name id) (hty:typeOf (.builtin id)=pure (.type "method_descriptor")) (hm:fA X id r) (ho:QE X o to) (ha:QA X (e :: es) t)
 (hbase:attributeBase o name X.env (eval o X.env)=eval o X.env:=by rfl) (hn:di (e :: es)=true:=by rfl) (hf:decide ((e :: es).length+0+0 < 30)=true:=by rfl)
 (hline:(apos.endLine == cpos.line)=true:=by rfl):QE X (.Call (.Attribute o name apos) (e :: es) [] cpos) (rP X.K T r to t) :=
 ⟨Jq pa slot hty hm ho.h ha.h hbase (by rw[A7 hn]; exact hf) hline (cM (dI hn).1) (gQ (dI hn).2)⟩
end
section
variable {st:Stmt}{sts ss2:List Stmt}{s t1 u1:TS}{tg it:Expr}{g:TG}{gs:gC}{wi:TI}
theorem aG:eY X [] nH:=⟨Ik⟩
theorem ai(h1:QS X st t1)(h2:eY X sts u1):eY X (st :: sts) (rM t1 u1):=⟨Il h1.h h2.h⟩
theorem ah(h1:QS X st t1):eY X [st] t1:=⟨Ij h1.h⟩
theorem fG:QS X st zj:=⟨Ir⟩
theorem HL:QS X (.Break pos) zv:=⟨IA⟩
theorem al(he:QE X e te):QS X (.Return (some e) pos) (ze te):=⟨Iq he.h⟩
theorem cT(he:QE X e te)(hs:swapsWith e none pos.line X.env=pure false:=by rfl):QS X (.Expr e pos) (zq te):=⟨Iy he.h hs⟩
theorem aF(hc:QT X c tA)(ha:eY X sts t1)(hb:eY X ss2 u1):QS X (.If c sts ss2 pos) (zm tA t1 u1):=⟨Iu hc.h ha.h hb.h⟩
theorem aJ{i:Nat}{x:Str}{pos':Pos}(hN:X.N.Nodup)(hi:X.N[i]? = some x)(hx:iA X.env.scope x)(he:QE X e te)(hs:swapsWith e (some (.Name x pos')) pos.line X.env=pure false:=by rfl)(hf:X.fn x=true\/X.env.scope.names.lookup x=some .local:=by first | exact .inl rfl | exact .inr rfl | assumption) :
 QS X (.Assign [.Name x pos'] e pos) (jh te (cO i)):=⟨Ip hN hi hx he.h hs hf⟩
theorem iP(he:QE X e te)(hg:QG X tg g)(hs:swapsWithSole [tg] e pos.line X.env=pure false:=by rfl)(hw:swappedStores [tg] e X.env=pure none:=by rfl)
 (h1:(assignEach [tg] X.env).map (·.2)=[assign tg X.env]:=by rfl):QS X (.Assign [tg] e pos) (jh te g):=⟨IB he.h hg.h hs hw h1⟩
theorem ba{i:Nat}{x:Str}(hN:X.N.Nodup)(hi:X.N[i]? = some x)(hx:iA X.env.scope x)(hf:X.fn x=true\/X.env.scope.names.lookup x=some .local:=by first | exact .inl rfl | exact .inr rfl | assumption):QG X (.Name x pos) (cO i):=⟨IW hN hi hx hf⟩
theorem eK:nh X [] tf:=⟨IT⟩
theorem bR(h1:QG X e g)(h2:nh X es gs)(hs:(assignEach (e :: es) X.env).map (·.2)=assign e X.env :: (assignEach es X.env).map (·.2):=by rfl):nh X (e :: es) (oZ g gs):=⟨IU h1.h h2.h hs⟩
theorem HS{k n:Nat}(hc:X.calm=true)(h:nh X es gs)(hn:(assignEach es X.env).length=n:=by rfl)(hst:(assignEach es X.env).findIdx? (·.1)=none:=by rfl):QG X (.Tuple es k pos) (oX X.K n gs):=⟨IV hc h.h hn hst⟩
theorem HR{l:Expr}{tl:TE}(hl:QE X l tl):QI X tg l (sN X.K tl):=⟨IR hl.h⟩
theorem HP{l:Expr}{tl:TE}(hl:QE X l tl):QI X tg l (sM X.K tl):=⟨IN hl.h⟩
theorem kR (hg:Gl X "range") (hm:X.mg "range" = none) (ha:QA X [a] t) (hs:dj a=false:=by rfl):QI X tg (.Call (.Name "range" p) [a] [] pos) (BD t):=⟨IQ hg hm ha.h (cM hs)⟩
theorem AD (hg:Gl X "range") (hm:X.mg "range" = none) (ha:QA X [a,b] t) (hs:dj a=false:=by rfl) (hs2:dj b=false:=by rfl):QI X tg (.Call (.Name "range" p) [a,b] [] pos) (BC t) :=
 ⟨IP hg hm ha.h (by rw[cM hs,cM hs2]; rfl) (cM hs2)⟩
theorem dw{body:List Stmt}{tb1:TS}(hp:PassesOwn (model X.prog X.w) X.A X.env X.xe)(hc:X.calm=true)(hi:QI X tg it wi)(hg:QG X tg g)(hb:eY X body tb1)
 (hs : ∀ x,foldedSetIterable it X.env x=pure x:=by intro _; rfl):QS X (.For tg it body [] pos) (zo wi g tb1):=⟨Iv hp hc hi.h hg.h hb.h hs⟩
theorem HK{body:List Stmt}{tb1:TS}(hp:PassesOwn (model X.prog X.w) X.A X.env X.xe)(hc:QT X c tA)(hb:eY X body tb1):QS X (.While c body [] pos) (y9 tA tb1):=⟨Im hp hc.h hb.h⟩
theorem d6:rk X [] fV:=⟨Ih⟩
theorem AC(h:QT X c tA):rk X [c] tA:=⟨Ig h.h⟩
theorem fh{scope:Scope}{Nc:List Str}{nv:Nat}{caps:List Nat}{ifs:List Expr}(hc:X.calm=true)(S:cG X Nc nv caps scope)(hi:QI X tg it wi)
 (hg : ∀ C s H fp,QG (cP X Nc scope C s H fp) tg g) (ht : ∀ C s H fp,rk (cP X Nc scope C s H fp) ifs tt) (he : ∀ C s H fp,QE (cP X Nc scope C s H fp) e te)
 (hs : ∀ x,foldedSetIterable it X.env x=pure x:=by intro _; rfl):QE X (.ListComp e [⟨tg,it,ifs,0⟩] scope pos) (nI nv caps wi g tt te) :=
 ⟨Jk hc S hi.h (λC s H fp=>(hg C s H fp).h) (λC s H fp=>(ht C s H fp).h) (λC s H fp=>(he C s H fp).h) hs⟩
theorem nU{scope:Scope}{Nc:List Str}{nv:Nat}{caps:List Nat}{ifs:List Expr}{spos py:Pos}{i:Nat}{y:Str}(hN:X.N.Nodup)(hy:X.N[i]? = some y)(hx:iA X.env.scope y)(hc:X.calm=true)(S:cG X Nc nv caps scope)(hi:QI X tg it wi)
 (hg : ∀ C s H fp,QG (cP X Nc scope C s H fp) tg g) (ht : ∀ C s H fp,rk (cP X Nc scope C s H fp) ifs tt) (he : ∀ C s H fp,QE (cP X Nc scope C s H fp) e te)
 (hsw:swapsWith (.ListComp e [⟨tg,it,ifs,0⟩] scope pos) (some (.Name y py)) spos.line X.env=pure true:=by rfl)
 (hs : ∀ x,foldedSetIterable it X.env x=pure x:=by intro _; rfl) (hf:X.fn y=true\/X.env.scope.names.lookup y=some .local:=by first | exact .inl rfl | exact .inr rfl | assumption) :
 QS X (.Assign [.Name y py] (.ListComp e [⟨tg,it,ifs,0⟩] scope pos) spos) (jh (nI nv caps wi g tt te) (cO i)) :=
 ⟨Io hN hy hx hc S hi.h (λC s H fp=>(hg C s H fp).h) (λC s H fp=>(ht C s H fp).h) (λC s H fp=>(he C s H fp).h) hsw hs hf⟩
end
end
section
variable {X:Cx}{K:W.Frag}{a b c e o:Expr}{es bN:List Expr}{pos p p2:Pos}{ta tb tc te to:TE}{tA tB' tt:TT}{t tk:TA}
theorem aM(h:X.K=K):fB X (tp K):=by subst h; exact NT
theorem c9(h:X.K=K):ix X (Ct K):=by subst h; exact NH
theorem aX(h:X.K=K):aW X (binaryOp .Add) (CA K):=by subst h; exact Od
theorem bo(h:X.K=K)(hu:X.A.units+64 < cLine):aW X (compareOp .Eq) (lh K false):=by subst h; exact N6 hu
theorem gx(h:X.K=K)(hu:X.A.units+64 < cLine):aW X (compareOp .NotEq) (lh K true):=by subst h; exact NO hu
theorem oW(h:X.K=K):aW X (compareOp .In) (oY K false):=by subst h; exact N4
theorem Cp(h:X.K=K):aW X (compareOp .NotIn) (oY K true):=by subst h; exact NN
theorem bA (h:X.K=K):cL X (.builtin "len") (tm K):=by subst h; exact O8
theorem fw (h:X.K=K):cL X (.type "list") (tj K):=by subst h; exact O7
theorem w5 (h:X.K=K):cL X (.type "tuple") (sY K):=by subst h; exact O5
theorem C8 (h:X.K=K) (hc:X.calm=true):cL X (.builtin "all") (tz K false):=by subst h; exact Pa hc
theorem i9 (h:X.K=K):cL X (.builtin "isinstance") (tq K):=by subst h; exact O9
theorem sE (h:X.K=K):fA X "list.extend" (tw K):=by subst h; exact KS
theorem fZ(h:X.K=K)(q:QE X e te)(he : ∀ whole,isTrue e X.env whole=(do let v <- whole; standAt e.pos; holding [v] (truthy v)):=by intro _; rfl):QT X e (sG K te):=by subst h; exact HW q he
theorem dz{tg l:Expr}{tl:TE}(h:X.K=K)(hl:QE X l tl):QI X tg l (sN K tl):=by subst h; exact HR hl
theorem HN{tg l:Expr}{tl:TE}(h:X.K=K)(hl:QE X l tl):QI X tg l (sM K tl):=by subst h; exact HP hl
theorem eN{k n:Nat}{gs:gC}(h:X.K=K)(hc:X.calm=true)(q:nh X es gs)(hn:(assignEach es X.env).length=n:=by rfl)(hst:(assignEach es X.env).findIdx? (·.1)=none:=by rfl):QG X (.Tuple es k pos) (oX K n gs):=by subst h; exact HS hc q hn hst
theorem dQ {name:Str} {apos cpos:Pos} {T id:String} {r:V->List V->Hp->VK->Prop} (h:X.K=K) (pa:PlainAttrs T) (slot:Slot T name id) (hty:typeOf (.builtin id)=pure (.type "method_descriptor")) (hm:fA X id r) (ho:QE X o to) (ha:QA X (e :: es) t)
 (hbase:attributeBase o name X.env (eval o X.env)=eval o X.env:=by rfl) (hn:di (e :: es)=true:=by rfl) (hf:decide ((e :: es).length+0+0 < 30)=true:=by rfl)
 (hline:(apos.endLine == cpos.line)=true:=by rfl):QE X (.Call (.Attribute o name apos) (e :: es) [] cpos) (rP K T r to t):=by subst h; exact HV pa slot hty hm ho ha hbase hn hf hline
theorem AE {name:Str} {apos cpos:Pos} {T id:String} {r:V->List V->Hp->VK->Prop} (h:X.K=K) (pa:PlainAttrs T) (slot:Slot T name id) (hty:typeOf (.builtin id)=pure (.type "method_descriptor")) (hm:fA X id r) (ho:QE X o to)
 (hbase:attributeBase o name X.env (eval o X.env)=eval o X.env:=by rfl) (hline:(apos.endLine == cpos.line)=true:=by rfl):QE X (.Call (.Attribute o name apos) [] [] cpos) (rO K T r to):=by subst h; exact HU pa slot hty hm ho hbase hline
end
theorem aO.okQ{P:Program}{w:World}{K:W.Frag}{mg:Str->Option Value}{base:Heap}{x qual:Str}{st:Stmt}{f:Addr}{fd:FuncData}{N ps:List Str}{k:Nat}{sp:Sp}(F:aO K x qual st f fd)(S:aB N ps (ag st))(len : ∀ vs H Q E,sp vs H Q E->vs.length=ps.length)
 (hbody : ∀ (cdv:Value) (A:Around) (outer:List Env) (s:Shared) (H:Hp) (vs:List V) (Q:VK) (E:XK),bM k (A.deeper (envOfC qual (ag st) s.heap.objs.size f cdv))->sp vs H Q E ->
   ∃ t,eY (ip bC P w K mg base N qual (ag st) f cdv A outer s H E).nox (ay st) t/\t { nx:=λ_ H'=>Q .non H',rt:=Q } (gj N vs) H):bv P w K mg base bC (k+1) f fd ps sp :=
 F.ok S len λcdv A outer s H vs Q E hr h=>let ⟨t,q,r⟩:=hbody cdv A outer s H vs Q E hr h; ⟨t,q.h,r⟩
section
variable {X:Cx}{pins:List (Addr × Obj)}{σ:St}{H:Hp}{s:Shared}{h':Heap}
theorem ae.turnedL{t':Nat}{fp:List Addr}(I:ae X pins σ H s)(k : ∀ b o,b∉fp->s.heap.get? b=some o->h'.get? b=some o)(hf : ∀ b∈fp,fD X pins H b):ae X pins σ H { s with heap:=h',toks:=t' }:=by
 have nit : ∀ b u,H b=some u->b∉fp:=λb u e z=>by rw[(hf b z).1]at e; cases e
 refine I.step (g':=s.gens) (d':=s.drawn) (ch:=fp) (λb hb=>?_) (λb o _ _ hc e _=>k b o hc e) (λb o _ _ hc e _=>⟨o.slots,k b o hc e⟩) (λ_ _ _ _ n=>n) (λb o hc e=>⟨o,k b o hc e⟩) (λ_ _ e=>e) (λ_ _ _ e=>e) (λb ps e=>⟨#[],by rw[e]; simp⟩) (λm hm=>?_) (λb u e=>?_) I.bare
 ·obtain⟨f0,f1,f2,f3,f4,f5⟩:=hf b hb
  exact⟨f3,f1,f4,f5⟩
 ·obtain⟨o,es,ep,ho,r⟩:=hm
  exact⟨o,es,ep,k _ o (λz=>(hf _ z).2.1 rfl) ho,r⟩
 ·refine (I.hok b u e).stay (λc v hc q=>k c v ?_ q) (λ_ q=>q) λ_ _ q=>q
  rcases hc with z | z
  ·rw[z]; exact nit b u e
  ·exact nit c _ z
theorem ae.turnedN{t':Nat}{fp:List Addr}{T:Addr}{ob:HO}(I:ae X pins σ H s)(k : ∀ b o,b∉fp->s.heap.get? b=some o->h'.get? b=some o)(hf : ∀ b∈fp,fD X pins H b)(hT:s.heap.objs.size<=T)
 (new:bF X.prog X.w (upd H T ob) h' T ob):ae X pins σ (upd H T ob) { s with heap:=h',toks:=t' }:=by
 have I1:ae X pins σ H { s with heap:=h',toks:=t' }:=I.turnedL k hf
 have hn:H T=none:=I.hok.fresh hT
 have ne : ∀ b u,H b=some u->b≠T:=λb u e z=>by rw[z,hn]at e; cases e
 refine I.step (g':=s.gens) (d':=s.drawn) (ch:=fp) (λb hb=>?_) (λb o _ _ hc e _=>k b o hc e) (λb o _ _ hc e _=>⟨o.slots,k b o hc e⟩) (λb o _ e n=>?_) (λb o hc e=>⟨o,k b o hc e⟩) (λb xs e=>by rw[aw (ne b _ e)]; exact e) (λb o u e=>by rw[aw (ne b _ e)]; exact e) (λb ps e=>⟨#[],by rw[aw (ne b _ e),e]; simp⟩) (λm hm=>?_) (I1.hok.adopt hn new) I.bare
 ·obtain⟨f0,f1,f2,f3,f4,f5⟩:=hf b hb
  exact⟨f3,f1,f4,f5⟩
 ·rw[aw (λz=>absurd (Nat.lt_of_lt_of_le (Heap.lt_size e) (by rw[z]; exact hT)) (Nat.lt_irrefl _))]
  exact n
 ·obtain⟨o,es,ep,ho,r⟩:=hm
  exact⟨o,es,ep,k _ o (λz=>(hf _ z).2.1 rfl) ho,r⟩
end
def lJ(K:W.Frag)(a:Addr):It :=
 ⟨λi H=>∃ xs x,aE K H a xs/\xs[i]? = some x,λi H x H'=>∃ p v,x=.ref p/\(∀ xs,aE K H a xs->xs[i]? = some v)/\aZ H p (.tup [.int (i:Int),v]) H',λi H=>∃ xs,aE K H a xs/\xs.length<=i⟩
theorem AW{P:Program}{w:World}{H:Hp}{h:Heap}{T:Addr}{v1 v2:V}{u1 u2:Value}(hT:h.IsTuple T #[u1,u2])(r1:aR v1 u1)(r2:aR v2 u2):bF P w (upd H T (.tup [v1,v2])) h T (.tup [v1,v2]):=by
 refine⟨sz rfl,[u1,u2],.cons r1 (.cons r2 .nil),?_⟩
 exact hT
theorem E3{P:Program}{w:World}{K:W.Frag}{es:List Expr}{kk:Nat}{pp:Pos}(a e it:Addr)(hei:e≠it):iu P w K (.Tuple es kk pp) (lJ K a) [e,it] e (λi h=>(∃ old,IsEnum h e it i old)/\h.IsListIter it a i) where
 mem:=by simp
 obj:=λi h st b hb=>by
  obtain⟨⟨old,h1⟩,o,e2,c,d⟩:=st
  have hb':b=e\/b=it:=by simpa using hb
  rcases hb' with z | z
  ·subst z
   exact⟨_,h1,λv z=>by cases (show Data.fields _=Data.cell v from z)⟩
  ·subst z
   exact⟨o,e2,λv z=>by rw[d]at z; cases z⟩
 keep:=λi h h' st k=>by
  obtain⟨⟨old,h1⟩,h2⟩:=st
  exact⟨⟨old,k e (by simp) _ h1⟩,h2.at λo x=>k it (by simp) o x⟩
 item:=by
  intro X hP hw hK hc i pins s σ H E I hf st hg
  subst hP hw hK
  obtain⟨⟨old,h1⟩,h2⟩:=st
  obtain⟨xs,x,hq,hx⟩:=hg
  obtain⟨its,rv,p,hz⟩:=I.list hq
  obtain⟨u,hu,ru⟩:=rv.get hx
  have helt:e < s.heap.objs.size:=Heap.lt_size h1
  have hilt:it < s.heap.objs.size:=by obtain⟨_,z,_⟩:=h2; exact Heap.lt_size z
  refine wpAny_pyNext_enum_item h1 h2 p.isList (x:=u) (by simpa using hu) hei λh' ho hit' hT hsz hk=>?_
  refine⟨_,rfl,wpAny_letOwnedTupleGo_enum (s:={ s with heap:=h',toks:=s.toks+1 }) ho λh'' he' hs'=>?_⟩
  have hTe:s.heap.objs.size≠e:=Nat.ne_of_gt helt
  have hT2:h''.get? s.heap.objs.size=some { cls:=.type "tuple",data:=.seq #[.int i s.toks,u] }:=(hs'.2 _ hTe).trans hT
  have I2:ae X pins σ (upd H s.heap.objs.size (.tup [.int (i:Int),x])) { s with heap:=h'',toks:=s.toks+1 }:=by
   refine I.turnedN (fp:=[e,it]) (λb o hb eo=>?_) hf (Nat.le_refl _) (AW ⟨_,hT2,rfl,_,rfl⟩ ⟨_,rfl⟩ ru)
   have hbe:b≠e:=λz=>hb (by simp[z])
   have hbi:b≠it:=λz=>hb (by simp[z])
   exact (hs'.2 b hbe).trans (hk b o hbe hbi eo)
  refine⟨.ref s.heap.objs.size,_,I2,rfl,⟨_,x,rfl,λys hy=>by rw[I.list_inj hy hq]; exact hx,.mk' I.fresh⟩,⟨⟨_,by simpa using he'⟩,hit'.at λo y=>(hs'.2 it hei.symm).trans y⟩,λb hb=>?_⟩
  have hb':b=e\/b=it:=by simpa using hb
  rw[aw (by rcases hb' with z | z <;> (rw[z]; first | exact Nat.ne_of_lt helt | exact Nat.ne_of_lt hilt))]
  exact (hf b hb).1
 done:=by
  intro X hP hw hK hc i pins s σ H E I hf st hg
  subst hP hw hK
  obtain⟨⟨old,h1⟩,h2⟩:=st
  obtain⟨xs,hq,hx⟩:=hg
  obtain⟨its,rv,p,hz⟩:=I.list hq
  have hl:=rv.length
  refine wpAny_pyNext_enum_end (I.ok.hd hc) h1 h2 p.isList (by simp; omega) λh' eb=>⟨rfl,I.turnedL (t':=s.toks) (fp:=[e,it]) (λb o hb eo=>eb b o (λz=>hb (by simp[z])) eo) hf⟩
 self:=λ_ _ _ _ _ st h=>wpAny_pyIter_enum st.1.choose_spec h
def BE(K:W.Frag)(ta:TA):TI:=λσ H R=>ta σ H λvs H1=>∃ a xs,vs=[.ref a]/\aE K H1 a xs/\R (lJ K a) H1
section
variable {X:Cx}{tg:Expr}{es:List Expr}{kk:Nat}{pp:Pos}
theorem IS {a:Expr} {ta:TA} {p pos:Pos} (hg:Gl X "enumerate") (hm:X.mg "enumerate" = none) (ha:PA X [a] ta) (hs:starEach [a] X.env=[(false,eval a X.env)]:=by rfl):PI X (.Tuple es kk pp) (.Call (.Name "enumerate" p) [a] [] pos) (BE X.K ta):=by
 intro pins s σ H R I h
 refine Call_ (gv I hg hm boot_enumerate (PyProof.Rows.callWith_type1 (ax (ha pos pins s σ H _ I h) λus s1 ⟨vs,H1,I1,r1,q1⟩=>?_) hs rfl))
 obtain⟨l,xs,e,hq,q⟩:=q1
 subst e
 cases r1 with
 | cons r rr =>
  cases rr
  cases r
  obtain⟨its,rv,pl,hz⟩:=I1.list hq
  refine call_enumerate_list pl.isList λh' he hit hsz hk=>?_
  refine wpAny_pyIter_enum (s:={ s1 with heap:=h' }) he ?_
  have I2:ae X pins σ H1 { s1 with heap:=h' }:=I1.kept (t':=s1.toks) hk
  refine⟨s1.heap.objs.size+1,[s1.heap.objs.size+1,s1.heap.objs.size],_,lJ X.K l,H1,rfl,I2,E3 l _ _ (Nat.succ_ne_self _),⟨⟨_,he⟩,hit⟩,λb hb=>?_,q⟩
  have hb':b=s1.heap.objs.size+1\/b=s1.heap.objs.size:=by simpa using hb
  have hle:s1.heap.objs.size<=b:=by
   rcases hb' with z | z
   ·rw[z]; exact Nat.le_succ _
   ·rw[z]; exact Nat.le_refl _
  exact I1.fpOk hle (I1.hok.fresh hle)
end
theorem Hl:typeLookup (.type "list_reverseiterator") "__len__" = pure none:=by rw[typeLookup_type,builtinLookup_eq_fast]; kernel_rfl
theorem Hm:typeLookup (.type "list_reverseiterator") "__length_hint__" = pure (some (.builtin "list_reverseiterator.__length_hint__")):=by rw[typeLookup_type,builtinLookup_eq_fast]; kernel_rfl
section
variable {prog:Program}{w:World}{A:Around}{E:Value->Shared->Prop}{s:Shared}{r:Addr}
theorem Hn {Q:Bool->Shared->Prop} (hT:s.TypeIs (.ref r) "list_reverseiterator") (h:Q false s):wpAny (model prog w) A (Builtin.List.listLengthHint (.ref r)) Q E s:=by
 unfold Builtin.List.listLengthHint
 refine wpAny_bind (wpAny_specialOf hT Hl ?_)
 show wpAny _ A (specialOf (Value.ref r) (Str.ofString "__length_hint__") >>= _) _ _ _
 refine wpAny_bind (wpAny_specialOf hT Hm ?_)
 generalize hid:("list_reverseiterator.__length_hint__" : String)=id0
 wp_delta
 rw[show splitId id0=some ("list_reverseiterator", "__length_hint__") from by subst hid; decide +kernel]
 subst hid
 refine wpAny_bind (wpAny_isInstance (T := "list_reverseiterator") (b:=true) hT (by rw[isSubtype_type]; kernel_rfl) ?_)
 refine wpAny_ite_split (λhab=>absurd hab (by decide)) (λ_=>?_)
 refine wpAny_ite_split (λ_=>?_) (λhab=>absurd (by decide +kernel) hab)
 refine wpAny_ite_split (λhab=>absurd hab (by decide +kernel)) (λ_=>?_)
 exact wpAny_pure h
theorem Ho{R:Result->Shared->Prop}{l:Addr}{items:Array Value}(hh:A.handled=none)(S:Addr)(res:Value)(c₀:Nat)(hne:l≠r)(hSr:S≠r)(hSl:S≠l)(hit:s.heap.IsRevIter r l ((items.size:Int) - 1))(hl:s.heap.IsList l items)
 (hS:s.heap.get? S=some { cls:=.type "list",data:=.seq #[] c₀ })
 (hR : ∀ h' tk acc' c',(∀ b o,b≠S->b≠r->s.heap.get? b=some o->h'.get? b=some o)->h'.get? S=some { cls:=.type "list",dict:=none,data:=.seq acc' c',slots:=#[] }->ItemsOf (λi v=>items[items.size - 1 - i]? = some v) acc' items.size->R (.ok (.ret res)) { s with heap:=h',toks:=tk }) (hn:items.size<=sizeLine) :
 wpAny (model prog w) A.in1 (Builtin.List.listExtendWith (.ref S) (.ref r) res)
  (λfin s'=>match fin with | .done f=>R (.ok f) s' | .again c'=>c'.quiet=true/\codeAny (model prog w) A c' R s') (λe s'=>R (.error e) s') s:=by
 have W:=(Walks.listRev (prog:=prog) (w:=w) (A:=A.in1) hh r l hne items)
 have hSf:S∉[r,l]:=by simp[hSr,hSl]
 unfold Builtin.List.listExtendWith
 refine wpAny_bind (wpAny_typeOf (T := "list_reverseiterator") hit.typeIs ?_)
 have h1:Builtin.List.listSameRef (.ref S) (.ref r)=false:=by simp[Builtin.List.listSameRef,hSr]
 have h2:(Value.type "list_reverseiterator" == Value.type "list")=false:=by decide
 have h3:(Value.type "list_reverseiterator" == Value.type "tuple")=false:=by decide
 simp only [h1,h2,h3,Bool.or_false,Bool.false_eq_true,if_false]
 refine wpAny_bind (wpAny_pyIter_revIter hit ?_)
 refine wpAny_bind (wpAny_holding (Hn hit.typeIs ?_))
 refine wpAny_ite_split (λhab=>absurd hab (by decide +kernel)) (λ_=>wpAny_pure ⟨plainId_quiet PySem.F.plain_extend_loop _,?_⟩)
 refine codeAny_extend_loopS W.toS hn S hSf res items.size 0 _ #[] c₀ rfl (Nat.zero_le _) ⟨Nat.zero_le _,by simpa using hit,hl⟩ hS (ItemsOf.nil _) λs' acc' c' hm hS' hacc=>?_
 rw[Moved.eq_with hm]
 refine hR s'.heap s'.toks acc' c' (λb o hb hbr e=>hm.heap b o (λhmem=>?_) e) hS' hacc
 rcases List.mem_cons.mp hmem with e' | hmem
 ·exact hb e'
 ·exact hbr (List.mem_singleton.mp hmem)
theorem Hq{l:Addr}{items:Array Value}{Q:Value->Shared->Prop}(hh:A.handled=none)(hne:l≠r)(hit:s.heap.IsRevIter r l ((items.size:Int) - 1))(hl:s.heap.IsList l items)(hn:items.size<=sizeLine)
 (hQ : ∀ h' tk acc' c',(∀ b o,b≠r->s.heap.get? b=some o->h'.get? b=some o)->h'.get? s.heap.objs.size=some { cls:=.type "list",dict:=none,data:=.seq acc' c',slots:=#[] }->ItemsOf (λi v=>items[items.size - 1 - i]? = some v) acc' items.size->Q (.ref s.heap.objs.size) { s with heap:=h',toks:=tk }) :
 wpAny (model prog w) A (call (.type "list") [.ref r]) Q E s:=by
 refine callType_codes (Q₁:=λobj s₁=>obj=.ref s.heap.objs.size/\s₁ = { s with heap:=s.heap.push { cls:=.type "list",data:=.seq #[] } }) PySem.F.called_list (PySem.F.typeCall_list_1 _) PySem.F.entry_list_init
  (code_list_new _ ⟨rfl,rfl⟩) λobj s₁ h₁=>?_
 obtain⟨rfl,rfl⟩:=h₁
 have hS:(s.heap.push { cls:=.type "list",data:=.seq #[] }).get? s.heap.objs.size=some { cls:=.type "list",data:=.seq #[] }:=Heap.get?_push_size _ rfl
 have lr:r < s.heap.objs.size:=by obtain⟨o,e,_⟩:=hit; exact Heap.lt_size e
 have ll:l < s.heap.objs.size:=by obtain⟨o,e,_⟩:=hl; exact Heap.lt_size e
 refine⟨⟨_,hS,rfl⟩,PySem.F.args_list_init_2 _ _,?_⟩
 show wpAny _ _ (do let old <- Builtin.List.listItems (.ref s.heap.objs.size); Builtin.List.listUpdate (.ref s.heap.objs.size) (λ_=>#[]); letGo old.toList.reverse; Builtin.List.listExtendWith (.ref s.heap.objs.size) (.ref r) .none) _ _ _
 refine wpAny_bind ?_
 unfold Builtin.List.listItems
 refine wpAny_bind (wpAny_seqItems hS rfl (wpAny_pure ?_))
 show wpAny _ _ (updateSeq s.heap.objs.size (λ_=>#[]) >>= λ_=>letGo (#[]:Array Value).toList.reverse >>= λ_=>Builtin.List.listExtendWith (.ref s.heap.objs.size) (.ref r) .none) _ _ _
 refine wpAny_bind (wpAny_updateSeq hS rfl ?_)
 have hS₂:=Heap.get?_update_self (Obj.mapSeq (λ_=>(#[]:Array Value))) hS rfl
 have oth : ∀ b o,b≠s.heap.objs.size->s.heap.get? b=some o->((s.heap.push { cls:=.type "list",data:=.seq #[] }).update s.heap.objs.size (Obj.mapSeq (λ_=>(#[]:Array Value)))).get? b=some o :=
  λb o hb e=>(Heap.get?_update_other _ _ (Ne.symm hb)).trans (Heap.get?_push_of_some _ e)
 refine wpAny_bind (wpAny_letGo ?_)
 refine Ho (A:=A.in1) hh _ .none _ hne (Nat.ne_of_gt lr) (Nat.ne_of_gt ll) (hit.at λo e=>oth r o (Nat.ne_of_lt lr) e) (hl.at λo e=>oth l o (Nat.ne_of_lt ll) e) hS₂ (λh' tk acc' c' hk hS' hacc=>?_) hn
 exact⟨rfl,hQ h' tk acc' c' (λb o hb e=>hk b o (Nat.ne_of_lt (Heap.lt_size e)) hb (oth b o (Nat.ne_of_lt (Heap.lt_size e)) e)) hS' hacc⟩
end
def zd(K:W.Frag)(ta:TA):TE:=λσ H Q=>ta σ H λvs H1=>∃ a xs,vs=[.ref a]/\aE K H1 a xs/\∀ p H',aZ H1 p (.lst xs.reverse) H'->Q (.ref p) H'
theorem KY {X:Cx} {a:Expr} {ta:TA} {p1 p2 pos pos2:Pos} (hc:X.calm=true) (hg1:Gl X "list") (hm1:X.mg "list" = none) (hg2:Gl X "reversed") (hm2:X.mg "reversed" = none) (ha:PA X [a] ta) (hs:starEach [a] X.env=[(false,eval a X.env)]:=by rfl)
 (hs1:starEach [.Call (.Name "reversed" p2) [a] [] pos2] X.env=[(false,eval (.Call (.Name "reversed" p2) [a] [] pos2) X.env)]:=by rfl):PE X (.Call (.Name "list" p1) [.Call (.Name "reversed" p2) [a] [] pos2] [] pos) (zd X.K ta):=by
 intro pins s σ H Q I h
 refine Call_ (gv I hg1 hm1 boot_list (PyProof.Rows.callWith_type1 ?_ hs1 rfl))
 rw[hs1]
 refine Calls.spliced_cons (Call_ (gv I hg2 hm2 boot_reversed (PyProof.Rows.callWith_type1 (ax (ha pos2 pins s σ H _ I h) λus s1 ⟨vs,H1,I1,r1,q1⟩=>?_) hs rfl)))
 obtain⟨l,xs,e,hq,q⟩:=q1
 subst e
 cases r1 with
 | cons r rr =>
  cases rr
  cases r
  obtain⟨its,rv,pl,hz⟩:=I1.list hq
  have hlen:=rv.length
  refine call_reversed_list pl.isList (Calls.spliced_nil ?_)
  have ll:l < s1.heap.objs.size:=by obtain⟨o,_,e,_⟩:=pl; exact Heap.lt_size e
  have I2:ae X pins σ H1 { s1 with heap:=s1.heap.push (revObj l ((its.toArray.size:Int) - 1)) }:=I1.kept (t':=s1.toks) λb o e=>Heap.get?_push_of_some _ e
  refine Hq (s:={ s1 with heap:=s1.heap.push (revObj l ((its.toArray.size:Int) - 1)) }) (items:=its.toArray) (I.ok.hd hc) (Nat.ne_of_lt ll) ⟨_,Heap.get?_push_size _ rfl,rfl,rfl⟩ (pl.isList.at λo e=>Heap.get?_push_of_some _ e) (by rw[List.size_toArray,<- hlen]; exact hz) λh' tk acc' c' hk hS hacc=>?_
  have hacc2:acc'.toList=its.reverse:=by
   refine List.ext_getElem? λi=>?_
   have hn:acc'.size=its.length:=hacc.1.trans List.size_toArray
   have hi : ∀ i v,acc'[i]? = some v->its.toArray[its.length - 1 - i]? = some v:=λi v e=>by
    have z:=hacc.2 i v e
    rwa [List.size_toArray]at z
   by_cases hlt:i < its.length
   ·have hia:i < acc'.size:=by omega
    have e1:=hi i acc'[i] (Array.getElem?_eq_getElem hia)
    rw[List.getElem?_reverse hlt,Array.getElem?_toList,Array.getElem?_eq_getElem hia,<- e1]
    simp
   ·rw[List.getElem?_eq_none (by rw[Array.length_toList]; omega),List.getElem?_eq_none (by rw[List.length_reverse]; omega)]
  have rr:aI xs.reverse its.reverse:=rv.reverse
  refine⟨.ref _,_,?_,rfl,q _ _ (.mk' I2.fresh)⟩
  refine I1.turnedN (s:=s1) (fp:=[s1.heap.objs.size]) (t':=tk) (λb o hb e=>hk b o (λz=>hb (by simp[z])) (Heap.get?_push_of_some _ e)) (λb hb=>?_) ?_ ⟨by rw[List.length_reverse]; exact hz,its.reverse,c',rr,?_⟩
  ·have e:b=s1.heap.objs.size:=by simpa using hb
   subst e
   exact I1.fpOk (Nat.le_refl _) I1.fresh
  ·exact Nat.le_trans (Nat.le_succ _) (Nat.le_of_eq (Heap.size_push _ _).symm)
  ·have e:acc'=its.reverse.toArray:=by rw[<- hacc2]
   rw[<- e]
   exact hS
def rp(lo c:Int)(n:Nat):It:=⟨λi _=>i < n,λi H x H'=>H'=H/\x=.int (lo+i*c),λi _=>n<=i⟩
theorem EZ{P:Program}{w:World}{K:W.Frag}{tg:Expr}(it:Addr)(lo c:Int)(n:Nat):iu P w K tg (rp lo c n) [it] it (λi h=>IsRangeIter h it (lo+(i:Nat)*c) ((n:Int) - (i:Nat)) c) where
 mem:=by simp
 obj:=λi h st b hb=>by
  have e:b=it:=by simpa using hb
  subst e
  exact⟨_,st,λv z=>by
   have z':Data.fields _=Data.cell v:=z
   cases z'⟩
 keep:=λi h h' st k=>k it (by simp) _ st
 item:=by
  intro X hP hw hK hc i pins s σ H E I hf st hg
  subst hP hw hK
  obtain⟨f0,f1,f2,f3,f4,f5⟩:=hf it (by simp)
  have W:=Walks.range (prog:=X.prog) (w:=X.w) (I.ok.hd hc) it lo c n
  refine W.item i s _ _ hg st λv h' tk hv st' kk=>?_
  obtain⟨t,rfl⟩:=hv
  have I1:ae X pins σ H { s with heap:=h',toks:=tk }:=I.turned (λb o hb e=>kk b o (by simpa using hb) e) f0 f1 f3 f4 f5
  exact⟨_,rfl,oN (s:={ s with heap:=h',toks:=tk }) (n := "range_iterator") st' rfl rfl (by decide) ⟨.int (lo+i*c),H,I1,⟨t,rfl⟩,⟨rfl,rfl⟩,st',λb hb=>(hf b hb).1⟩⟩
 done:=by
  intro X hP hw hK hc i pins s σ H E I hf st hg
  subst hP hw hK
  obtain⟨f0,f1,f2,f3,f4,f5⟩:=hf it (by simp)
  exact wpAny_pyNext_range_end (I.ok.hd hc) st (by have:n<=i:=hg; omega) λh' eb=>⟨rfl,I.turned (t':=s.toks) (λb o hb e=>eb b o hb e) f0 f1 f3 f4 f5⟩
 self:=λ_ _ _ _ _ st h=>wpAny_pyIter_rangeiter st h
def BB(ta:TA):TI:=λσ H R=>ta σ H λvs H1=>∃ (n c:Nat),vs=[.int 0,.int (n:Int),.int (c:Int)]/\n<=1000000000/\0 < c/\c<=1000000/\R (rp 0 (c:Int) ((n+(c - 1)) / c)) H1
theorem Gk{n c:Nat}(hn:n<=1000000000)(h0:0 < c)(hc:c<=1000000):Builtin.Range.rangeSize 0 (n:Int) (c:Int)=(((n+(c - 1)) / c:Nat):Int)/\Builtin.Range.small 0 (n:Int) (c:Int)=true:=by
 have e:Builtin.Range.rangeSize 0 (n:Int) (c:Int)=(((n+(c - 1)) / c:Nat):Int):=by
  rw[rangeSize_pos (by omega) (by omega)]
  rw[Int.natCast_ediv]
  congr 1
  omega
 refine⟨e,?_⟩
 have hle:(n+(c - 1)) / c<=n+(c - 1):=Nat.div_le_self _ _
 have hmul:(((n+(c - 1)) / c:Nat):Int)*(c:Int)<=n+(c - 1):=by
  have:=Nat.div_mul_le_self (n+(c - 1)) c
  rw[<- Int.natCast_mul]
  omega
 unfold Builtin.Range.small
 rw[e]
 generalize (n+(c - 1)) / c=k at hle hmul ⊢
 simp only [Builtin.Range.rangeFitsLong,Bool.and_eq_true,Bool.or_eq_true,decide_eq_true_eq,beq_iff_eq]
 refine⟨by omega,Or.inr ?_⟩
 rw[if_pos (by omega)]
 simp only [Bool.and_eq_true,decide_eq_true_eq]
 omega
section
variable {X:Cx}{tg:Expr}
theorem IO {a b d:Expr} {ta:TA} {p pos:Pos} (hg:Gl X "range") (hm:X.mg "range" = none) (ha:PA X [a,b,d] ta) (hs:starEach [a,b,d] X.env=(false,eval a X.env) :: starEach [b,d] X.env:=by rfl) (hpl:(backTo pos (starEach [b,d] X.env)).any (·.1)=false:=by rfl) :
 PI X tg (.Call (.Name "range" p) [a,b,d] [] pos) (BB ta):=by
 intro pins s σ H R I h
 refine Call_ (gv I hg hm boot_range (PyProof.Rows.callWith_type1 (ax (ha pos pins s σ H _ I h) λus s1 ⟨vs,H1,I1,r1,q1⟩=>?_) hs hpl))
 obtain⟨n,c,e,q1,q2,q3,q⟩:=q1
 subst e
 cases r1 with
 | cons r rr =>
  cases rr with
  | cons r' rr =>
   cases rr with
   | cons r'' rr =>
    cases rr
    obtain⟨t,rfl⟩:=r
    obtain⟨t',rfl⟩:=r'
    obtain⟨t'',rfl⟩:=r''
    obtain⟨e,sm⟩:=Gk q1 q2 q3
    refine call_range_3 (by omega) ?_ (Or.inl (PyProof.noPylong_small (by omega)))
    refine wpAny_pyIter_range (IsRange.new ..) sm ?_
    have I2:ae X pins σ H1 { s1 with heap:=s1.heap.push { cls:=.type "range",data:=.fields #[.int 0 t,.int n t',.int c t''] },toks:=s1.toks }:=I1.kept λb o e=>Heap.get?_push_of_some _ e
    refine⟨_,[_],_,_,H1,rfl,I2.kept (t':=s1.toks) λb o e=>Heap.get?_push_of_some _ e,EZ _ 0 (c:Int) ((n+(c - 1)) / c),?_,λb hb=>?_,q⟩
    ·show IsRangeIter _ _ (0+((0:Nat):Int)*_) ((((n+(c - 1)) / c:Nat):Int) - ((0:Nat):Int)) _
     have e1:(0:Int)+((0:Nat):Int)*(c:Int)=0:=by simp
     have e2:((((n+(c - 1)) / c:Nat):Int) - ((0:Nat):Int))=Builtin.Range.rangeSize 0 (n:Int) (c:Int):=by rw[e]; simp
     rw[e1,e2]
     exact Heap.get?_push_size _ rfl
    ·have e:=List.mem_singleton.mp hb
     subst e
     exact I2.fpOk (Nat.le_refl _) (I2.hok.fresh (Nat.le_refl _))
theorem ls{K:W.Frag}{a:Addr}{xs:List V}{g:TG}{tb:TS}{D:gf}{σ:St}{H:Hp}(Pv:Nat->St->Hp->Prop)(h0:Pv 0 σ H)(hl : ∀ i σ H,i<=xs.length->Pv i σ H->aE K H a xs)
 (hs : ∀ i x p σ H H',xs[i]? = some x->Pv i σ H->aZ H p (.tup [.int (i:Int),x]) H'->g (.ref p) σ H' λσ2 H2=>tb { D with nx:=Pv (i+1),ct:=Pv (i+1),bk:=D.nx } σ2 H2) (hd : ∀ σ H,Pv xs.length σ H->D.nx σ H) :
 ∃ W:Nat->Nat->St->Hp->Prop,(∃ m,W 0 m σ H)/\∀ i m σ H,W i m σ H ->
  ((lJ K a).stop i H/\D.nx σ H)\/((lJ K a).go i H/\∃ N:St->Hp->Prop,(∀ σ' H',N σ' H'->∃ m',m' < m/\W (i+1) m' σ' H')/\∀ x H',(lJ K a).yld i H x H'->g x σ H' λσ2 H2=>tb { D with nx:=N,ct:=N,bk:=D.nx } σ2 H2):=by
 refine⟨λi m σ H=>m=xs.length - i/\i<=xs.length/\Pv i σ H,⟨xs.length,by simp,Nat.zero_le _,h0⟩,?_⟩
 rintro i m σ H ⟨rfl,hi,p⟩
 have q:=hl i σ H hi p
 by_cases hlt:i < xs.length
 ·refine .inr ⟨⟨xs,xs[i],q,by simp[hlt]⟩,Pv (i+1),λσ' H' p'=>⟨xs.length - (i+1),by omega,rfl,hlt,p'⟩,λx H' y=>?_⟩
  obtain⟨pp,v,rfl,y,gr⟩:=y
  exact hs i v pp σ H H' (y xs q) p gr
 ·have e:i=xs.length:=by omega
  subst e
  exact .inl ⟨⟨xs,q,Nat.le_refl _⟩,hd σ H p⟩
end
def sZ(K:W.Frag):List V->Hp->VK->Prop:=λxs H Q=>match xs with
 | [.ref p]=>∃ ns:List Int,aE K H p (ns.map V.int)/\Q (.int ns.sum) H
 | _=>False
theorem AN(ns:List Int) : ∀ k,k<=ns.length->preSum (λi=>(ns[i]?).getD 0) k=(ns.take k).sum
 | 0,_=>by simp[preSum]
 | k+1,h=>by
  have hk:k < ns.length:=by omega
  rw[preSum,AN ns k (by omega),<- List.take_append_getElem hk,List.sum_append]
  simp[List.getElem?_eq_getElem hk]
theorem O6 {X:Cx} (hc:X.calm=true):cL X (.builtin "sum") (sZ X.K):=by
 intro pins s σ H xs us Q I r q
 unfold sZ at q
 split at q
 ·rename_i p
  obtain⟨ns,hq,q⟩:=q
  obtain⟨u,rfl,rx⟩:=je r
  cases rx
  obtain⟨its,rv,pl,_⟩:=I.list hq
  have hl:=rv.length
  rw[List.length_map]at hl
  have hlt:p < s.heap.objs.size:=by
   obtain⟨o,n,e,_⟩:=pl
   exact Heap.lt_size e
  have hne:p≠s.heap.objs.size:=Nat.ne_of_lt hlt
  refine call_sum_walkG (wpAny_pyIter_list pl.isList ⟨s.heap.objs.size,_,_,_,_,_,λi=>(ns[i]?).getD 0,rfl,Walks.list (A:=X.A.in1) (show X.A.in1.handled=none from I.ok.hd hc) s.heap.objs.size p hne its.toArray,⟨⟨_,Heap.get?_push_size _ rfl,rfl,rfl⟩,?_⟩,λb hb=>?_,λi v hv=>?_,λh' tk t' k=>?_⟩)
  ·exact pl.isList.at λo e=>Heap.get?_push_of_some _ e
  ·have hb':b=s.heap.objs.size\/b=p:=by simpa using hb
   show b < (s.heap.push _).objs.size
   rw[Heap.size_push]
   rcases hb' with z | z
   ·rw[z]; exact Nat.lt_succ_self _
   ·rw[z]; exact Nat.lt_succ_of_lt hlt
  ·have hi:i < its.length:=by
    have:=(Array.getElem?_eq_some_iff.mp hv).1
    simpa using this
   have hb:i < ns.length:=by omega
   obtain⟨u,hu,ru⟩:=rv.get (i:=i) (x:=V.int ns[i]) (by simp[hb])
   have e:its.toArray[i]? = some u:=by simpa using hu
   rw[e]at hv
   cases hv
   obtain⟨t,rfl⟩:=ru
   exact⟨t,by simp[hb]⟩
  ·refine⟨.int ns.sum,H,I.kept (h':=h') (t':=tk) λb o e=>k b o (λz=>?_) (Heap.get?_push_of_some _ e),⟨t',?_⟩,q⟩
   ·have e':b=s.heap.objs.size:=by simpa using z
    exact absurd (Heap.lt_size e) (by rw[e']; exact Nat.lt_irrefl _)
   ·rw[List.size_toArray,<- hl,AN ns _ (Nat.le_refl _),List.take_length]
 ·exact q.elim
def R6(i j:Int):Prop:=0<=j/\(Builtin.Int.intBits i:Int)+j<=2 ^ 27
theorem Cn{X:Cx}:aW X (binaryOp .LShift) (gI R6 λi j=>.int (i*2 ^ j.toNat)):=tu (l7 λ_ _ _ _ _ _ _ hc q=>lshift_int hc.1 hc.2 q)
def Cw:V->List V->Hp->VK->Prop:=λx vs H Q=>match x,vs with
 | .int i,[]=>Q (.int (Builtin.Int.intBits i)) H
 | _,_=>False
theorem KU {X:Cx}:fA X "int.bit_length" Cw:=by
 intro pins s σ H x vs v us Q I rx rs q
 unfold Cw at q
 split at q
 ·obtain⟨t,rfl⟩:=rx
  cases rs
  exact call_int_bit_length ⟨.int _,H,I.tok _,⟨_,rfl⟩,q⟩
 ·exact q.elim
def ro(K:W.Frag)(a b:Addr):It :=
 ⟨λi H=>∃ xs ys x y,aE K H a xs/\xs[i]? = some x/\aE K H b ys/\ys[i]? = some y,λi H x H'=>∃ p v u,x=.ref p/\(∀ xs,aE K H a xs->xs[i]? = some v)/\(∀ ys,aE K H b ys->ys[i]? = some u)/\aZ H p (.tup [v,u]) H',λi H=>∃ xs ys,aE K H a xs/\aE K H b ys/\(xs.length<=i\/ys.length<=i)⟩
theorem EX{P:Program}{w:World}{K:W.Frag}{es:List Expr}{kk:Nat}{pp:Pos}(a b z TI TO i1 i2:Addr)(D:ZipApart z TI TO i1 i2 a b) :
 iu P w K (.Tuple es kk pp) (ro K a b) [z,TI,TO,i1,i2] z (λi h=>IsZip h z TI TO .none/\IsPair h TI (.ref i1) (.ref i2)/\(∃ a b,IsPair h TO a b)/\h.IsListIter i1 a i/\h.IsListIter i2 b i) where
 mem:=by simp
 obj:=λi h st c hc=>by
  obtain⟨h1,h2,⟨u,v,h3⟩,⟨o4,e4,c4,d4⟩,o5,e5,c5,d5⟩:=st
  have hc':c=z\/c=TI\/c=TO\/c=i1\/c=i2:=by simpa using hc
  rcases hc' with rfl | rfl | rfl | rfl | rfl
  ·exact⟨_,h1,λv z=>by cases (show Data.fields _=Data.cell v from z)⟩
  ·exact⟨_,h2,λv z=>by cases (show Data.seq _ _=Data.cell v from z)⟩
  ·exact⟨_,h3,λv z=>by cases (show Data.seq _ _=Data.cell v from z)⟩
  ·exact⟨o4,e4,λv z=>by rw[d4]at z; cases z⟩
  ·exact⟨o5,e5,λv z=>by rw[d5]at z; cases z⟩
 keep:=λi h h' st k=>by
  obtain⟨h1,h2,⟨u,v,h3⟩,h4,h5⟩:=st
  exact⟨k z (by simp) _ h1,k TI (by simp) _ h2,⟨u,v,k TO (by simp) _ h3⟩,h4.at λo x=>k i1 (by simp) o x,h5.at λo x=>k i2 (by simp) o x⟩
 item:=by
  intro X hP hw hK hc i pins s σ H E I hf st hg
  subst hP hw hK
  obtain⟨h1,h2,⟨u,v,h3⟩,h4,h5⟩:=st
  obtain⟨xs,ys,x,y,hq,hx,hq2,hy⟩:=hg
  obtain⟨its,rv,p,hz⟩:=I.list hq
  obtain⟨its2,rv2,p2,hz2⟩:=I.list hq2
  obtain⟨ux,hu,ru⟩:=rv.get hx
  obtain⟨uy,hu2,ru2⟩:=rv2.get hy
  have lz:z < s.heap.objs.size:=Heap.lt_size h1
  have lTI:TI < s.heap.objs.size:=Heap.lt_size h2
  have lTO:TO < s.heap.objs.size:=Heap.lt_size h3
  have l1:i1 < s.heap.objs.size:=by obtain⟨_,e,_⟩:=h4; exact Heap.lt_size e
  have l2:i2 < s.heap.objs.size:=by obtain⟨_,e,_⟩:=h5; exact Heap.lt_size e
  refine wpAny_pyNext_zip_item D h1 h2 h3 h4 h5 p.isList p2.isList (x:=ux) (y:=uy) (by simpa using hu) (by simpa using hu2) λh' a1 a2 a3 a4 a5 a6 hk=>?_
  refine⟨_,rfl,wpAny_letOwnedTupleGo_zip (s:={ s with heap:=h' }) a1 λh'' hz' hs'=>?_⟩
  have kk : ∀ c o,c∉[z,TI,TO,i1,i2]->s.heap.get? c=some o->h''.get? c=some o:=λc o hb e=>by
   have n1:c≠z:=λw=>hb (by simp[w])
   exact (hs'.2 c n1).trans (hk c o n1 (λw=>hb (by simp[w])) (λw=>hb (by simp[w])) (λw=>hb (by simp[w])) e)
  have hT2:h''.get? s.heap.objs.size=some { cls:=.type "tuple",data:=.seq #[ux,uy] }:=(hs'.2 _ (Nat.ne_of_gt lz)).trans a5
  have I2:ae X pins σ (upd H s.heap.objs.size (.tup [x,y])) { s with heap:=h'' } :=
   I.turnedN (t':=s.toks) (fp:=[z,TI,TO,i1,i2]) kk hf (Nat.le_refl _) (AW ⟨_,hT2,rfl,_,rfl⟩ ru ru2)
  refine⟨.ref s.heap.objs.size,_,I2,rfl,⟨_,x,y,rfl,λys hy=>by rw[I.list_inj hy hq]; exact hx,λzs hz=>by rw[I.list_inj hz hq2]; exact hy,.mk' I.fresh⟩,
   ⟨hz',(hs'.2 _ D.TIz).trans (hk _ _ D.TIz D.TITO D.TIi1 D.TIi2 h2),⟨_,_,(hs'.2 _ D.TOz).trans a2⟩,a3.at λo e=>(hs'.2 _ D.i1z).trans e,a4.at λo e=>(hs'.2 _ D.i2z).trans e⟩,λc hc=>?_⟩
  have hc':c=z\/c=TI\/c=TO\/c=i1\/c=i2:=by simpa using hc
  have lc:c < s.heap.objs.size:=by rcases hc' with w | w | w | w | w <;> rw[w] <;> assumption
  rw[aw (Nat.ne_of_lt lc)]
  exact (hf c hc).1
 done:=by
  intro X hP hw hK hc i pins s σ H E I hf st hg
  subst hP hw hK
  obtain⟨h1,h2,⟨u,v,h3⟩,h4,h5⟩:=st
  obtain⟨xs,ys,hq,hq2,hx⟩:=hg
  obtain⟨its,rv,p,hz⟩:=I.list hq
  obtain⟨its2,rv2,p2,hz2⟩:=I.list hq2
  have hl:=rv.length
  have hl2:=rv2.length
  refine wpAny_pyNext_zip_end (I.ok.hd hc) D h1 h2 h3 h4 h5 p.isList p2.isList (by rcases hx with w | w; exact .inl (by simp; omega); exact .inr (by simp; omega)) λh' hk=>⟨rfl,I.turnedL (t':=s.toks) (fp:=[z,TI,TO,i1,i2]) (λc o hb e=>hk c o (λw=>hb (by simp[w])) (λw=>hb (by simp[w])) (λw=>hb (by simp[w])) (λw=>hb (by simp[w])) e) hf⟩
 self:=λ_ _ _ _ _ st h=>wpAny_pyIter_zip st.1 h
def BA(K:W.Frag)(ta:TA):TI:=λσ H R=>ta σ H λvs H1=>∃ a b xs ys,vs=[.ref a,.ref b]/\aE K H1 a xs/\aE K H1 b ys/\R (ro K a b) H1
theorem Eu(I l1 l2:Nat)(h1:l1 < I)(h2:l2 < I):ZipApart (I+4) (I+2) (I+3) I (I+1) l1 l2:=W.ktu_apart I l1 l2 h1 h2
theorem IM {X:Cx} {es:List Expr} {kk:Nat} {pp:Pos} {a b:Expr} {ta:TA} {p pos:Pos} (hg:Gl X "zip") (hm:X.mg "zip" = none) (ha:PA X [a,b] ta) (hs:starEach [a,b] X.env=(false,eval a X.env) :: starEach [b] X.env:=by rfl) (hpl:(backTo pos (starEach [b] X.env)).any (·.1)=false:=by rfl) :
 PI X (.Tuple es kk pp) (.Call (.Name "zip" p) [a,b] [] pos) (BA X.K ta):=by
 intro pins s σ H R I h
 refine Call_ (gv I hg hm boot_zip (PyProof.Rows.callWith_type1 (ax (ha pos pins s σ H _ I h) λus s1 ⟨vs,H1,I1,r1,q1⟩=>?_) hs hpl))
 obtain⟨l1,l2,xs,ys,e,hq,hq2,q⟩:=q1
 subst e
 cases r1 with
 | cons r rr =>
  cases rr with
  | cons r' rr =>
   cases rr
   cases r
   cases r'
   obtain⟨its,rv,pl,hz⟩:=I1.list hq
   obtain⟨its2,rv2,pl2,hz2⟩:=I1.list hq2
   have ll1:l1 < s1.heap.objs.size:=by obtain⟨o,_,e,_⟩:=pl; exact Heap.lt_size e
   have ll2:l2 < s1.heap.objs.size:=by obtain⟨o,_,e,_⟩:=pl2; exact Heap.lt_size e
   have D:ZipApart (s1.heap.objs.size+4) (s1.heap.objs.size+2) (s1.heap.objs.size+3) s1.heap.objs.size (s1.heap.objs.size+1) l1 l2:=Eu _ _ _ ll1 ll2
   refine call_zip_2 pl.isList pl2.isList λh' hz hTI hTO ij hi2 hsz hk=>?_
   refine wpAny_pyIter_zip (s:={ s1 with heap:=h' }) hz ?_
   have I2:ae X pins σ H1 { s1 with heap:=h' }:=I1.kept (t':=s1.toks) hk
   refine⟨s1.heap.objs.size+4,_,_,ro X.K l1 l2,H1,rfl,I2,EX l1 l2 _ _ _ _ _ D,⟨hz,hTI,⟨_,_,hTO⟩,ij,hi2⟩,λb hb=>?_,q⟩
   have hb':b=s1.heap.objs.size+4\/b=s1.heap.objs.size+2\/b=s1.heap.objs.size+3\/b=s1.heap.objs.size\/b=s1.heap.objs.size+1:=by simpa using hb
   have hle:s1.heap.objs.size<=b:=by rcases hb' with w | w | w | w | w <;> rw[w] <;> first | exact Nat.le_add_right _ _ | exact Nat.le_refl _
   exact I1.fpOk hle (I1.hok.fresh hle)
theorem OQ{K:W.Frag}{a b:Addr}{xs zs:List V}{cs:St}{tt:TT}{te:TE}{H:Hp}{Q:VK}(hlen:zs.length=xs.length)(Pv:Nat->List V->Hp->Prop)(h0:Pv 0 [] H)(hl : ∀ i ys H,i<=xs.length->Pv i ys H->aE K H a xs/\aE K H b zs/\ys.length<=i)(hz:xs.length<=sizeLine)
 (hs : ∀ i x z ys H H' (N:List V->Hp->Prop),xs[i]? = some x->zs[i]? = some z->Pv i ys H->af H H'->(∀ ys' H',Pv (i+1) ys' H'->N ys' H')->tt (some x :: some z :: cs) H' λb H4=>if b=true then te (some x :: some z :: cs) H4 λy H5=>N (ys++[y]) H5 else N ys H4)
 (hd : ∀ ys H p H',Pv xs.length ys H->aZ H p (.lst ys) H'->Q (.ref p) H') :
 iC (ro K a b) H (List.replicate 2 none++cs) (oX K 2 (oZ (cO 0) (oZ (cO 1) tf))) tt te Q:=by
 refine⟨λi m ys σ H=>m=xs.length - i/\i<=xs.length/\Pv i ys H/\∃ v0 v1,σ=v0 :: v1 :: cs,⟨xs.length,by simp,Nat.zero_le _,h0,none,none,rfl⟩,?_⟩
 rintro i m ys σ H2 ⟨rfl,hi,p,v0,v1,rfl⟩
 obtain⟨q,q2,ql⟩:=hl i ys H2 hi p
 by_cases hlt:i < xs.length
 ·refine .inr ⟨⟨xs,zs,xs[i],zs[i]'(by omega),q,by simp[hlt],q2,by simp[hlen,hlt]⟩,by omega,λys' σ' H'=>Pv (i+1) ys' H'/\∃ v0 v1,σ'=v0 :: v1 :: cs,λys' σ' H' ⟨p',e⟩=>⟨xs.length - (i+1),by omega,rfl,hlt,p',e⟩,λx H' y=>?_⟩
  obtain⟨pp,v,u,rfl,y,y2,gr⟩:=y
  refine⟨pp,_,rfl,gr.tup,rfl,_,_,rfl,_,_,rfl,rfl,?_⟩
  exact hs i v u ys H2 H' (λys' H'=>Pv (i+1) ys' H'/\∃ v0 v1,some v :: some u :: cs=v0 :: v1 :: cs) (y xs q) (y2 zs q2) p gr.sm λ_ _ z=>⟨z,_,_,rfl⟩
 ·have e:i=xs.length:=by omega
  subst e
  exact .inl ⟨⟨xs,zs,q,q2,.inl (Nat.le_refl _)⟩,by omega,λp' H' g=>hd ys H2 p' H' p g⟩
section
variable {X:Cx}{K:W.Frag}{a b c e o:Expr}{es bN:List Expr}{pos p p2 pos2:Pos}{t:TA}{kk:Nat}
theorem C7 (h:X.K=K) (hc:X.calm=true):cL X (.builtin "sum") (sZ K):=by subst h; exact O6 hc
theorem HX (h:X.K=K) (hc:X.calm=true) (hm1:X.mg "list" = none) (hm2:X.mg "reversed" = none) (ha:QA X [a] t) (hg1:Gl X "list":=by rfl) (hg2:Gl X "reversed":=by rfl) (hs:dj a=false:=by rfl) :
 QE X (.Call (.Name "list" p) [.Call (.Name "reversed" p2) [a] [] pos2] [] pos) (zd K t):=by subst h; exact⟨KY hc hg1 hm1 hg2 hm2 ha.h (cM hs) (cM rfl)⟩
theorem kS (h:X.K=K) (hg:Gl X "enumerate") (hm:X.mg "enumerate" = none) (ha:QA X [a] t) (hs:dj a=false:=by rfl):QI X (.Tuple es kk p2) (.Call (.Name "enumerate" p) [a] [] pos) (BE K t):=by subst h; exact⟨IS hg hm ha.h (cM hs)⟩
theorem HM (h:X.K=K) (hg:Gl X "zip") (hm:X.mg "zip" = none) (ha:QA X [a,b] t) (hs:dj a=false:=by rfl) (hs2:dj b=false:=by rfl):QI X (.Tuple es kk p2) (.Call (.Name "zip" p) [a,b] [] pos) (BA K t):=by
 subst h
 exact⟨IM hg hm ha.h (cM hs) (by rw[cM hs2]; rfl)⟩
theorem HQ {tg:Expr} (hg:Gl X "range") (hm:X.mg "range" = none) (ha:QA X [a,b,c] t) (hs:dj a=false:=by rfl) (hs2:dj b=false:=by rfl) (hs3:dj c=false:=by rfl):QI X tg (.Call (.Name "range" p) [a,b,c] [] pos) (BB t) :=
 ⟨IO hg hm ha.h (cM hs) (by rw[cM hs2,cM hs3]; rfl)⟩
end
def cI:List Int->List Value->Bool
 | [],[]=>true
 | n :: r,.int m _ :: u=>n == m && cI r u
 | _,_=>false
theorem cI.vals : ∀ {ns:List Int} {us:List Value},cI ns us=true->aI (ns.map V.int) us
 | [],[],_=>.nil
 | n :: r,.int m _ :: u,h=>by
  have h':(n == m && cI r u)=true:=h
  rw[Bool.and_eq_true,beq_iff_eq]at h'
  obtain⟨rfl,h2⟩:=h'
  exact .cons ⟨_,rfl⟩ (cI.vals h2)
theorem dC {K:W.Frag} {a:Addr} {od:Option Addr} {its:Array Value} {n:Nat} {sl:Array (Option Value)} {ns:List Int} (h:K.lookup a=some ⟨.type "tuple",od,.seq its n,sl⟩) (hv:cI ns its.toList=true) (hz:its.size<=1000:=by decide) (H:Hp):bd K H a (ns.map V.int) :=
 .inr ⟨_,its,n,h,rfl,rfl,sz (Nat.ble_eq_true_of_le hz),cI.vals hv⟩
theorem aZ.after{H H1 H2:Hp}{p:Addr}{o:HO}(s:af H H1)(g:aZ H1 p o H2):aZ H p o H2:=⟨s.free g.nw,s.trans g.sm,g.at_⟩
def cb(b:Nat)(ps:List Int):Int:=ps.foldl (λa p=>a*2 ^ b+p) 0
theorem rJ(b:Nat) : ∀ (ps:List Int) (a:Int),ps.foldl (λa p=>a*2 ^ b+p) a=a*2 ^ (b*ps.length)+cb b ps
 | [],a=>by simp[cb]
 | p :: r,a=>by
  unfold cb
  rw[List.foldl_cons,List.foldl_cons,rJ b r,rJ b r,List.length_cons,Nat.mul_succ,Int.pow_add]
  generalize (2:Int) ^ (b*r.length)=X
  generalize (2:Int) ^ b=Y
  rw[Int.add_mul,Int.add_mul,Int.mul_assoc,Int.mul_comm Y X]
  omega
theorem y7(b:Nat)(ps qs:List Int):cb b (ps++qs)=cb b ps*2 ^ (b*qs.length)+cb b qs:=by
 conv=>lhs; unfold cb
 rw[List.foldl_append,rJ b qs]
 rfl
theorem E4(b:Nat)(ps:List Int)(p:Int):cb b (ps++[p])=cb b ps*2 ^ b+p:=by
 rw[y7]
 simp[cb]
theorem nB(k:Nat):(0:Int) < 2 ^ k:=Int.pow_pos (by decide)
theorem E5{b:Nat} : ∀ {ps:List Int},(∀ p∈ps,0<=p/\p < 2 ^ b)->0<=cb b ps/\cb b ps < 2 ^ (b*ps.length):=by
 intro ps h
 induction ps with
 | nil=>simp[cb]
 | cons p r ih =>
  have h1:=h p (.head _)
  have h2:=ih λq hq=>h q (.tail _ hq)
  have e:cb b (p :: r)=p*2 ^ (b*r.length)+cb b r:=by
   have:=y7 b [p] r
   simpa [cb] using this
  rw[e,List.length_cons,Nat.mul_succ,Int.pow_add]
  have hp:=nB (b*r.length)
  generalize (2:Int) ^ (b*r.length)=X at *
  generalize (2:Int) ^ b=Y at *
  have m1:0<=p*X:=Int.mul_nonneg h1.1 (Int.le_of_lt hp)
  have m2:p*X+X<=X*Y:=by
   have:(p+1)*X<=Y*X:=Int.mul_le_mul_of_nonneg_right (by omega) (Int.le_of_lt hp)
   rw[Int.add_mul,Int.one_mul]at this
   rw[Int.mul_comm X Y]
   exact this
  omega
def d7(b many:Nat)(n:Int):List Int:=(List.range many).map λi=>n / 2 ^ (b*(many - 1 - i))%2 ^ b
theorem ID(b many:Nat)(n:Int):(d7 b many n).length=many:=by simp[d7]
theorem IC(b many:Nat)(n:Int):((List.range many).map λi=>n / 2 ^ (b*i)%2 ^ b).reverse=d7 b many n:=by
 refine List.ext_getElem? λi=>?_
 by_cases h:i < many
 ·rw[List.getElem?_reverse (by simpa using h)]
  simp[d7,h,show many - 1 - i < many by omega]
 ·rw[List.getElem?_eq_none (by simp; omega),List.getElem?_eq_none (by simp[d7]; omega)]
theorem OE(n:Int)(b j:Nat):n / 2 ^ (b*j) / 2 ^ b=n / 2 ^ (b*(j+1)):=by
 rw[Int.ediv_ediv_of_nonneg (Int.le_of_lt (nB _)),<- Int.pow_add,Nat.mul_succ]
theorem KF(x:Int)(b:Nat):x - x / 2 ^ b*2 ^ b=x%2 ^ b:=by
 rw[Int.emod_def,Int.mul_comm]
abbrev bq(r:List Int):Prop:=∀ p∈r,0<=p/\p < 256
theorem ff{α:Type}{rs:List α}{i:Nat}{y:α}(h:rs[i]? = some y):rs.take (i+1)=rs.take i++[y]:=by rw[List.take_add_one,h]; rfl
theorem MZ{α β:Type}{xs:List α}{rs:List β}{i:Nat}{x:α}(hl:rs.length=xs.length)(h:xs[i]? = some x) : ∃ y,rs[i]? = some y:=by
 have:=(List.getElem?_eq_some_iff.mp h).1
 exact⟨rs[i]'(by omega),by simp⟩
theorem i7{K:W.Frag}{a:Addr}{xs:List V}{cs:St}{te:TE}{H:Hp}{Q:VK}(rs:List V)(hl:rs.length=xs.length)(hq:aE K H a xs)(hz:xs.length<=sizeLine)
 (hs : ∀ (i:Nat) x y H' (N:VK),xs[i]? = some x->rs[i]? = some y->af H H'->(∀ H'',af H' H''->N y H'')->te (some x :: cs) H' N) (hd : ∀ p H',aZ H p (.lst rs) H'->Q (.ref p) H') :
 iC (jc K a) H (List.replicate 1 none++cs) (cO 0) fV te Q:=by
 refine mT (λi ys H'=>af H H'/\ys=rs.take i) ⟨af.refl _,rfl⟩ (λi ys H' hi z=>⟨z.1.seq hq,by rw[z.2,List.length_take]; omega⟩) hz (λi x ys H' N hx z hN=>?_) λys H' p H'' z g=>?_
 ·obtain⟨s,rfl⟩:=z
  obtain⟨y,hy⟩:=MZ hl hx
  simp only [fV,if_true]
  exact hs i x y H' _ hx hy s λH'' s'=>hN _ _ ⟨s.trans s',by rw[ff hy]⟩
 ·obtain⟨s,rfl⟩:=z
  rw[<- hl,List.take_length]at g
  exact hd p H'' (g.after s)
theorem qk{lo:Int}{n:Nat}{cs:St}{te:TE}{H:Hp}{Q:VK}(rs:List V)(hl:rs.length=n)(hz:n<=sizeLine)
 (hs : ∀ (i:Nat) y H' (N:VK),i < n->rs[i]? = some y->af H H'->(∀ H'',af H' H''->N y H'')->te (some (.int (lo+(i:Int))) :: cs) H' N) (hd : ∀ p H',aZ H p (.lst rs) H'->Q (.ref p) H') :
 iC (hW lo n) H (List.replicate 1 none++cs) (cO 0) fV te Q:=by
 refine OT (λi ys H'=>af H H'/\ys=rs.take i) ⟨af.refl _,rfl⟩ (λi ys H' hi z=>by rw[z.2,List.length_take]; omega) hz (λi ys H' N hi z hN=>?_) λys H' p H'' z g=>?_
 ·obtain⟨s,rfl⟩:=z
  have hy:rs[i]? = some (rs[i]'(by omega)):=by simp
  simp only [fV,if_true]
  exact hs i (rs[i]'(by omega)) H' _ hi hy s λH'' s'=>hN _ _ ⟨s.trans s',by rw[ff hy]⟩
 ·obtain⟨s,rfl⟩:=z
  rw[<- hl,List.take_length]at g
  exact hd p H'' (g.after s)
theorem dn{ns:List Int}{i:Nat}{x:V}(h:(ns.map V.int)[i]? = some x) : ∃ p,ns[i]? = some p/\x=.int p:=by
 rw[List.getElem?_map]at h
 cases e:ns[i]? with
 | none=>rw[e]at h; cases h
 | some p=>rw[e]at h; cases h; exact⟨p,rfl,rfl⟩
theorem OO{α:Type}(xs:List α)(lo hi:Option Int):(eV xs lo hi).length<=xs.length:=by
 unfold eV
 rw[List.length_take,List.length_drop]
 omega
theorem C0{α:Type}{xs:List α}{lo hi:Option Int}{x:α}(h:x∈eV xs lo hi):x∈xs:=List.mem_of_mem_drop (List.mem_of_mem_take h)
theorem dh{t u:TS}{D:gf}{σ:St}{H:Hp}(M:St->Hp->Prop)(h1 : ∀ nx:St->Hp->Prop,(∀ σ' H',M σ' H'->nx σ' H')->t { D with nx:=nx } σ H)(h2 : ∀ σ' H',M σ' H'->u D σ' H'):rM t u D σ H:=h1 (u D) h2
structure bT (P:Program) (w:World) (K:W.Frag) (mg:Str->Option Value) (base:Heap) (C:Addr) (m:Str) (k:Nat) (f:Addr) (fd:FuncData) (ps:List Str) (sp:Sp):Prop where
 c:cA K C
 mt:be K C m f
 b:ao K fd ps []
 ok:bv P w K mg base bC k f fd ps sp
structure SR (P:Program) (w:World) (K:W.Frag) (mg:Str->Option Value) (base:Heap) (x:Str) (C:Addr) (k:Nat) (f:Addr) (fd:FuncData) (ps:List Str) (sp:Sp):Prop where
 g:mg x=some (.ref C)
 mkx:Mk K C f
 b:ao K fd ps []
 ok:bv P w K mg base bC k f fd ps sp
section
variable {X:Cx}{K:W.Frag}{k j:Nat}{f C:Addr}{fd:FuncData}{ps:List Str}{sp:Sp}{x m:Str}{p pos apos pos':Pos}{e o value:Expr}{es:List Expr}{ta tv:TE}{t:TA}
theorem nY{X:Cx}:iz bC X E0:=λ_ _ _ _ _ _ _ z=>z.elim
theorem bJ{pl:Sem Bool}(F:bT X.prog X.w X.K X.mg X.base C m j f fd ps sp)(hr:bM k X.A)(ho:QE X o ta)(ha:QA X (e :: es) t)(hj:j<=k:=by decide)(hn:di (e :: es)=true:=by rfl)
 (ht:eval (.Call (.Attribute o m apos) (e :: es) [] pos) X.env=(do
   let ov <- eval o X.env
   standAt apos.atName
   let (f,first) <- holding [ov] (getMethod ov m pl)
   callWith pos f first (backTo pos (starEach (e :: es) X.env)) (backToKw pos (keywordEach [] X.env))):=by rfl) :
 QE X (.Call (.Attribute o m apos) (e :: es) [] pos) (lP C m sp [] E0 ta t) :=
 ⟨AS (pl:=pl) ho.h F.c F.mt F.ok (hr.mono hj) F.b .nil nY ha.h (cM (dI hn).1) (gQ (dI hn).2) ht⟩
theorem bG{pl:Sem Bool}(F:bT X.prog X.w X.K X.mg X.base C m j f fd ps sp)(hr:bM k X.A)(ho:QE X o ta)(hj:j<=k:=by decide)
 (ht:eval (.Call (.Attribute o m apos) [] [] pos) X.env=(do
   let ov <- eval o X.env
   standAt apos.atName
   let (f,first) <- holding [ov] (getMethod ov m pl)
   callWith pos f first (backTo pos (starEach [] X.env)) (backToKw pos (keywordEach [] X.env))):=by rfl) :
 QE X (.Call (.Attribute o m apos) [] [] pos) (lP C m sp [] E0 ta iD) :=
 ⟨Ja (pl:=pl) ho.h F.c F.mt F.ok (hr.mono hj) F.b .nil nY ht⟩
theorem aq{f:Str}(h:X.K=K)(he:QE X e ta)(hb:attributeBase e f X.env (eval e X.env)=eval e X.env:=by rfl):QE X (.Attribute e f pos) (zp K ta f):=by subst h; exact⟨Je he.h hb⟩
theorem cg{f:Str}(h:X.K=K)(ha:QE X o ta)(hv:QE X value tv)(hs:swapsWith value (some (.Attribute o f pos')) pos.line X.env=pure false:=by rfl):QS X (.Assign [.Attribute o f pos'] value pos) (Ar K ta tv f):=by subst h; exact⟨Ix ha.h hv.h hs⟩
end
structure lI (K:W.Frag) (C:Addr):Prop where
 makes:W.makesIn K C=true
 init:W.findIn K (.ref C) "__init__" = some (some (.builtin "object.__init__"))
 kp:W.keepIn K (.ref C)=true
def zk(C:Addr):TE:=λ_ H Q=>∀ x dx,H x=none->H dx=none->dx≠x->Q (.ref x) (upd (upd H dx (.own x)) x (.ins C dx []))
section
variable {X:Cx}{C:Addr}{x:Str}{p pos:Pos}
theorem Hr{pins:List (Addr × Obj)}{σ:St}{H:Hp}{s:Shared}{Q:VK}(M:lI X.K C)(I:ae X pins σ H s)(h:zk C σ H Q) :
 wpAny (model X.prog X.w) X.A (call (.ref C) []) (EP X pins σ Q) X.xe s:=by
 have hq:=h (s.heap.objs.size+1) s.heap.objs.size (I.hok.fresh (Nat.le_succ _)) (I.hok.fresh (Nat.le_refl _)) (Nat.ne_of_lt (Nat.lt_succ_self _))
 have I2:=ae.made (C:=C) I
 have Y:=W.makes_of (M:=model X.prog X.w) I.kIn M.makes
 refine wpAny_call (K8 I.kIn M.makes M.init (λself=>W.Looks.of_pure (W.oi_bind self)) ?_)
 obtain⟨hh,g,d,t,os⟩:=s
 have e2:((hh.push W.emptyDict).push (W.instObj C hh.objs.size)).get? (hh.objs.size+1)=some (W.instObj C hh.objs.size):=by
  have:=Heap.get?_push_size (hh.push W.emptyDict) (o:=W.instObj C hh.objs.size) rfl
  rwa [Heap.size_push]at this
 have t1:W.Looks (model X.prog X.w) ((hh.push W.emptyDict).push (W.instObj C hh.objs.size)) (typeOf (.ref (hh.objs.size+1))) (.ref C):=(W.Looks.ld e2).andThen .now
 have t2:W.Looks (model X.prog X.w) ((hh.push W.emptyDict).push (W.instObj C hh.objs.size)) (isInstance (.ref (hh.objs.size+1)) (.type "object")) true :=
  t1.andThen (Y.top.keeps λb o e=>Heap.get?_push_of_some _ (Heap.get?_push_of_some _ e))
 refine codeAny_call_builtin W.oi_plain W.entry_oi (@W.check_slot (model X.prog X.w) _ _ _ "object.__init__" "object" "__init__" (.ref (hh.objs.size+1)) [] [] _ W.oi_kind W.oi_split t2 (W.oi_args (.ref (hh.objs.size+1))) ?_)
 rw[W.oi_run]
 exact wpAny_pure (And.intro rfl ⟨V.ref (hh.objs.size+1),_,I2,rfl,hq⟩)
theorem nV(M:lI X.K C)(hm:X.mg x=some (.ref C))(hg:Gl X x:=by rfl)(hdb:(x == ("__debug__" : Str))=false:=by decide):QE X (.Call (.Name x p) [] [] pos) (zk C):=⟨by
 intro pins s σ H Q I h
 refine wpAny_Call_Name_kw (mm I hg hm ?_ hdb)
 exact W.callWith_K0 I.kIn M.kp (Hr M I h)⟩
end
structure cF (K:W.Frag) (x qual:Str) (st:Stmt) (f:Addr) (fd:FuncData) (vs:List Value):Prop where
 ex : ∃ (oc:Value) (od:Option Addr) (kV doc pm:Value) (an:Option Addr) (cdv ct:Value) (osl:Array (Option Value)) (d:Addr) (dc:Value) (dd:Option Addr) (n:Nat) (dsl:Array (Option Value)),
  fd=W.fnOf x qual (az st) (ay st) (ag st) (.ref d) kV doc pm an cdv ct/\K.lookup f=some ⟨oc,od,.func fd,osl⟩/\W.codeIn K cdv qual=true/\K.lookup d=some ⟨dc,dd,.seq vs.toArray n,dsl⟩
 kp:W.keepIn K (.ref f)=true
section
variable {P:Program}{w:World}{K:W.Frag}{mg:Str->Option Value}{base:Heap}{x qual:Str}{st:Stmt}{f:Addr}{fd:FuncData}{N ps:List Str}{k:Nat}{sp:Sp}{vs:List Value}
theorem cF.okQ(F:cF K x qual st f fd vs)(S:aB N ps (ag st))(len : ∀ vs H Q E,sp vs H Q E->vs.length=ps.length)
 (hbody : ∀ (cdv:Value) (A:Around) (outer:List Env) (s:Shared) (H:Hp) (vs:List V) (Q:VK) (E:XK),bM k (A.deeper (envOfC qual (ag st) s.heap.objs.size f cdv))->sp vs H Q E ->
   ∃ t,eY (ip bC P w K mg base N qual (ag st) f cdv A outer s H E).nox (ay st) t/\t { nx:=λ_ H'=>Q .non H',rt:=Q } (gj N vs) H):bv P w K mg base bC (k+1) f fd ps sp:=by
 obtain⟨oc,od,kV,doc,pm,an,cdv,ct,osl,d,dc,dd,n,dsl,rfl,lk,hcd,_⟩:=F.ex
 refine CF lk hcd S len λA outer s H vs Q E hr hsp=>?_
 obtain⟨t,h,q⟩:=hbody cdv A outer s H vs Q E hr hsp
 exact⟨t,h.h.nox,q⟩
theorem da{oc dc:Value}{od an dd:Option Addr}{osl dsl:Array (Option Value)}{kV doc pm cdv ct:Value}{d:Addr}{n:Nat}(l:K.lookup f=some ⟨oc,od,.func (W.fnOf x qual (az st) (ay st) (ag st) (.ref d) kV doc pm an cdv ct),osl⟩)
 (c:W.codeIn K cdv qual=true) (k:W.keepIn K (.ref f)=true) (ld:K.lookup d=some ⟨dc,dd,.seq vs.toArray n,dsl⟩):cF K x qual st f (W.fnOf x qual (az st) (ay st) (ag st) (.ref d) kV doc pm an cdv ct) vs :=
 ⟨⟨oc,od,kV,doc,pm,an,cdv,ct,osl,d,dc,dd,n,dsl,rfl,l,c,ld⟩,k⟩
theorem cF.binds{ds:List Value}(F:cF K x qual st f fd vs)
 (h : ∀ (d:Addr) (kV doc pm:Value) (an:Option Addr) (cdv ct:Value) (us:List Value),(us++ds).length=ps.length->∃ kk:Option (Array Value)->Sem (List (Str × Value)),
   bindArgs (W.fnOf x qual (az st) (ay st) (ag st) (.ref d) kV doc pm an cdv ct) ⟨us,[]⟩=seqItems? (.ref d) >>= kk/\kk (some vs.toArray)=pure (ps.zip (us++ds))):ao K fd ps ds:=by
 obtain⟨oc,od,kV,doc,pm,an,cdv,ct,osl,d,dc,dd,n,dsl,rfl,lk,hcd,ld⟩:=F.ex
 intro s us KX hl
 obtain⟨kk,h1,h2⟩:=h d kV doc pm an cdv ct us hl
 exact BindsTo.of_defaults (T:=d) rfl (KX _ _ ld) rfl h1 h2
end
structure c7 (P:Program) (w:World) (K:W.Frag) (mg:Str->Option Value) (base:Heap) (C:Addr) (m:Str) (k:Nat) (f:Addr) (fd:FuncData) (ps:List Str) (dvs:List V) (sp:Sp):Prop where
 c:cA K C
 mt:be K C m f
 b : ∃ ds,ao K fd ps ds/\aI dvs ds
 ok:bv P w K mg base bC k f fd ps sp
section
variable {X:Cx}{k j:Nat}{f C:Addr}{fd:FuncData}{ps:List Str}{sp:Sp}{m:Str}{pos apos:Pos}{e o:Expr}{es:List Expr}{ta:TE}{t:TA}{dvs:List V}
theorem bO{pl:Sem Bool}(F:c7 X.prog X.w X.K X.mg X.base C m j f fd ps dvs sp)(hr:bM k X.A)(ho:QE X o ta)(ha:QA X (e :: es) t)(hj:j<=k:=by decide)(hn:di (e :: es)=true:=by rfl)
 (ht:eval (.Call (.Attribute o m apos) (e :: es) [] pos) X.env=(do
   let ov <- eval o X.env
   standAt apos.atName
   let (f,first) <- holding [ov] (getMethod ov m pl)
   callWith pos f first (backTo pos (starEach (e :: es) X.env)) (backToKw pos (keywordEach [] X.env))):=by rfl) :
 QE X (.Call (.Attribute o m apos) (e :: es) [] pos) (lP C m sp dvs E0 ta t):=by
 obtain⟨ds,hb,hd⟩:=F.b
 exact⟨AS (pl:=pl) ho.h F.c F.mt F.ok (hr.mono hj) hb hd nY ha.h (cM (dI hn).1) (gQ (dI hn).2) ht⟩
end
def hG:List DictEntry->Option (List (Int × Addr))
 | []=>some []
 | ⟨h,.int k _,.ref a⟩ :: r=>if h == hashInt k then (match hG r with | some l=>some ((k,a) :: l) | none=>none) else none
 | _=>none
theorem hG.pairs{P:Program}{w:World} : ∀ {es:List DictEntry} {m:List (Int × Addr)},hG es=some m ->
 (∀ e∈es,∃ k,(cr P w).is k e.key=true/\e.hash=(cr P w).hash k)/\Pairs (cr P w) es (m.map λp=>((Sum.inl p.1:aP),Value.ref p.2))
 | [],m,h=>by cases h; exact⟨λ_ z=>(nomatch z),.nil⟩
 | ⟨hh,.int k tk,.ref a⟩ :: r,m,h=>by
  unfold hG at h
  by_cases c:hh == hashInt k
  ·rw[if_pos c]at h
   cases q:hG r with
   | none=>rw[q]at h; cases h
   | some l =>
    rw[q]at h
    cases h
    obtain⟨i1,i2⟩:=hG.pairs (P:=P) (w:=w) q
    refine⟨λe he=>?_,.cons (sC P w k tk) rfl i2⟩
    cases he with
    | head=>exact⟨.inl k,sC P w k tk,eq_of_beq c⟩
    | tail _ z=>exact i1 e z
  ·rw[if_neg c]at h; cases h
structure rA (K:W.Frag) (a:Addr) (m:List (Int × Addr)):Prop where
 ex : ∃ es ep,K.lookup a=some ⟨.type "dict",none,.dict es ep,#[]⟩/\hG es.toList=some m
 nd:(m.map (·.1)).Nodup
 ns:(a == sysModules)=false
theorem rA.rd{K:W.Frag}{a:Addr}{m:List (Int × Addr)}{P:Program}{w:World}{h:Heap}(D:rA K a m)(X:K.In h):h.DictOf (cr P w) a (m.map λp=>((Sum.inl p.1:aP),Value.ref p.2)):=by
 obtain⟨es,ep,l,e⟩:=D.ex
 obtain⟨i1,i2⟩:=hG.pairs (P:=P) (w:=w) e
 refine⟨_,es,ep,X _ _ l,⟨rfl,rfl,rfl⟩,rfl,λe he=>i1 e (Array.mem_toList_iff.mpr he),i2,?_⟩
 rw[List.map_map]
 have:(((λx=>x.1) ∘ λp:Int × Addr=>((Sum.inl p.1:aP),Value.ref p.2)):Int × Addr->aP)=(λi:Int=>(Sum.inl i:aP)) ∘ (·.1):=rfl
 rw[this,<- List.map_map]
 exact List.Pairwise.map _ (λa b (z:a≠b) (q:(Sum.inl a:aP)=Sum.inl b)=>z (Sum.inl.inj q)) D.nd
def mw(m:List (Int × Addr))(i:Int):Option V:=(m.find? λp=>decide (p.1=i)).map λp=>V.ref p.2
theorem Cf : ∀ (m:List (Int × Addr)) (i:Int) (z:V) (r:Value),aR z r->aR ((mw m i).getD z) ((valueAt (m.map λp=>((Sum.inl p.1:aP),Value.ref p.2)) (Sum.inl i)).getD r)
 | [],i,z,r,h=>h
 | p :: m,i,z,r,h=>by
  have ih:=Cf m i z r h
  unfold mw valueAt at ih ⊢
  rw[List.map_cons,List.find?_cons,List.find?_cons]
  by_cases c:p.1=i
  ·have c':(Sum.inl p.1:aP)=Sum.inl i:=congrArg _ c
   simp only [decide_eq_true c,decide_eq_true c',Option.map_some,Option.getD_some]
   rfl
  ·have c' : ¬ (Sum.inl p.1:aP)=Sum.inl i:=λq=>c (Sum.inl.inj q)
   simp only [decide_eq_false c,decide_eq_false c']
   exact ih
def zr(m:List (Int × Addr))(ty tx:TE):TE:=λσ H Q=>ty σ H λy H2=>tx σ H2 λz H3=>∃ i,y=.int i/\Q ((mw m i).getD z) H3
section
variable {X:Cx}{K:W.Frag}{a:Addr}{m:List (Int × Addr)}{e f:Expr}{x:Str}{p apos cpos:Pos}{ty tx:TE}
theorem HZ (h:X.K=K) (D:rA K a m) (hg:Gl X x) (hm:X.mg x=some (.ref a)) (he:QE X e ty) (hf:QE X f tx) (hd:(x == ("__debug__" : Str))=false:=by decide)
 (hbase:attributeBase (.Name x p) "get" X.env (eval (.Name x p) X.env)=eval (.Name x p) X.env:=by rfl)
 (hfew:((backTo cpos (starEach [e,f] X.env)).all (λx=>!x.1) && (backToKw cpos (keywordEach [] X.env)).all (λx=>x.1.isSome)
   && decide (([e,f]:List Expr).length+([]:List Keyword).length+(if ([]:List Keyword).isEmpty then 0 else 1) < 30))=true:=by rfl)
 (hline:(apos.endLine == cpos.line)=true:=by rfl) (htr:backTo cpos (starEach [e,f] X.env)=[(false,eval e X.env),(false,eval f X.env)]:=by rfl) :
 QE X (.Call (.Attribute (.Name x p) "get" apos) [e,f] [] cpos) (zr m ty tx):=⟨by
 subst h
 intro pins s σ H Q I h
 have ho:PE X (.Name x p) (tC (.ref a)):=(gP (v:=.ref a) hg hm rfl hd).h
 refine wpAny_Call_method hbase hfew hline PySem.F.plainAttrs_dict PySem.F.slot_dict_get PySem.F.type_dict_get (ax (ho pins s σ H (λv H'=>v=.ref a/\zr m ty tx σ H' Q) I ⟨rfl,h⟩) λu s1 ⟨x,H1,I1,rx,ex,q1⟩=>?_)
 subst ex
 obtain rfl:u=Value.ref a:=rx
 have d1:=D.rd (P:=X.prog) (w:=X.w) I1.kIn
 refine⟨d1.typeIs,λb q=>?_,?_⟩
 ·cases q
  obtain⟨ob,_,_,h1,h2,_⟩:=d1
  exact⟨ob,h1,h2.2.1⟩
 rw[htr]
 refine Calls.callWith_builtin rfl (Calls.evalArgs_plain (Calls.spliced_cons (ax (he.h pins s1 σ H1 _ I1 q1) λiv s2 ⟨y,H2,I2,ry,q2⟩ =>
  Calls.spliced_cons (ax (hf.h pins s2 σ H2 _ I2 q2) λfv s3 ⟨z,H3,I3,rz,i,ey,q3⟩=>Calls.spliced_nil ?_))))
 subst ey
 have d3:=D.rd (P:=X.prog) (w:=X.w) I3.kIn
 exact call_meetsIn PySem.F.slot_dict_get d3.typeIs PySem.F.entry_dict_get (PySem.F.args_dict_get_3 _ _ _) (meets_dict_get_default (cr X.prog X.w) a (gT (k:=.inl i) ry) D.ns fv) ⟨_,d3.mapOf,_,_,I3.tok _,Cf m i z fv rz,q3⟩⟩
end
theorem mf{o:Obj}{vs:Array Value}(hd:o.data=.fields vs)(f:Array Value->Array Value):o.mapFields f = { o with data:=.fields (f vs) }:=by
 obtain⟨c,d,dt,sl⟩:=o
 obtain rfl:dt=.fields vs:=hd
 rfl
structure eu (h:Heap) (e C:Addr) (od:Option Addr) (tb:Value) (oe:Obj) (vs:Array Value) (q:Bool:=false):Prop where
 at_:h.get? e=some oe
 cls:oe.cls=.ref C
 dict:oe.dict=od
 data:oe.data=.fields vs
 size:vs.size=6
 tb1:vs[1]? = some tb
 cx:q=false->vs[2]? = some .none
def iw(h:Heap)(e T:Addr)(fl:Value):Prop:=∃ oT ts,h.get? T=some oT/\oT.data=.fields ts/\ts[3]? = some fl/\T≠e
section
variable {M:Model}{A:Around}{E:Value->Shared->Prop}{s:Shared}
structure nj (l:List Env) (e C T':Addr) (od:Option Addr) (tb fl:Value) (h h':Heap) (q:Bool:=false):Prop where
 keep : ∀ b o,h.get? b=some o->b≠e->.ref b≠tb->b∉cW l->h'.get? b=some o
 slot : ∀ b o,h.get? b=some o->b∈cW l->∃ sl,h'.get? b=some { o with slots:=sl }
 there : ∀ b o,h.get? b=some o->∃ o',h'.get? b=some o'
 new:h.objs.size<=T'
 size:h.objs.size<=h'.objs.size
 exc : ∃ oe vs,eu h' e C od (.ref T') oe vs q
 ent:iw h' e T' fl
theorem A8{base:Heap}{env:Env}{outer:List Env}{L e C:Addr}{od:Option Addr}{oe:Obj}{vs:Array Value}{hd tb:Value}{nx q:Bool}{Q:Unit->Shared->Prop}
 (hA:A.frames=some (env :: outer)) (hF:s.heap.FunFrames base (env :: outer)) (hL:env.frame=some L) (x:eu s.heap e C od tb oe vs q)
 (k : ∀ h' T',nj (env :: outer) e C T' od .none (rawInt L) s.heap h' q->Q () { s with heap:=h' }) :
 wpAny M A (do let a <- frameOf env; let pl <- entryPlaceOf L nx; let b <- EntryCells.newEntry hd a .none (rawInt L) .none pl; setField (.ref e) 1 b) Q E s:=by
 have ne:e∉cW (env :: outer):=λm=>by
  obtain⟨_,o,ho,nf⟩:=hF.mem m
  rw[x.at_]at ho
  cases ho
  exact nf vs x.data
 refine wpAny_bind (wpAny_frameOf_fun hA hF hL λg1 y=>wpAny_bind (wpAny_entryPlaceOf λpl pk=>?_))
 unfold EntryCells.newEntry newFields
 refine wpAny_bind (wpAny_newObj_type ?_ (pk.sizeOk5 _ _ _ _ _))
 have x1:g1.get? e=some oe:=(y.2.1 e ne).trans x.at_
 obtain⟨N,hN⟩ : ∃ N:Obj,N = { cls:=.type "traceback",dict:=none,data:=.fields ([hd,.ref L,.none,rawInt L,.none]++(if pl.isEmpty then List.replicate 6 Value.none else pl)).toArray }:=⟨_,rfl⟩
 rw[<- hN]
 have x2:=Heap.get?_push_of_some N x1
 have nT:g1.objs.size≠e:=Nat.ne_of_gt (Heap.lt_size x1)
 refine wpAny_setField x2 x.data (by rw[x.size]; decide) (k _ g1.objs.size ?_)
 have x3:=Heap.get?_update_self (Obj.mapFields (·.setIfInBounds 1 (Value.ref g1.objs.size))) x2 (by rw[mf x.data]; rfl)
 rw[mf x.data]at x3
 have tN:N.data=.fields ([hd,.ref L,.none,rawInt L,.none]++(if pl.isEmpty then List.replicate 6 Value.none else pl)).toArray:=by rw[hN]
 have T3:=(Heap.get?_update_other (g1.push N) (Obj.mapFields (·.setIfInBounds 1 (Value.ref g1.objs.size))) (Ne.symm nT)).trans (Heap.get?_push_size g1 (o:=N) (by rw[hN]; rfl))
 have kp : ∀ b o,b≠e->g1.get? b=some o->((g1.push N).update e (Obj.mapFields (·.setIfInBounds 1 (Value.ref g1.objs.size)))).get? b=some o:=λb o n q=>by
  rw[Heap.get?_update_other _ _ (Ne.symm n)]
  exact Heap.get?_push_of_some _ q
 have sz:s.heap.objs.size=g1.objs.size:=y.1.symm
 refine⟨λb o q n1 _ n2=>kp b o n1 ((y.2.1 b n2).trans q),λb o q m=>?_,λb o q=>?_,Nat.le_of_eq sz,by rw[Heap.size_after_update,Heap.size_push,sz]; exact Nat.le_succ _,⟨_,_,x3,x.cls,x.dict,rfl,?_,?_,λz=>?_⟩,⟨N,_,T3,tN,?_,nT⟩⟩
 ·obtain⟨sl,hs⟩:=y.2.2 b o q
  exact⟨sl,kp b _ (λz=>ne (z ▸ m)) hs⟩
 ·by_cases n:b=e
  ·subst n; exact⟨_,x3⟩
  ·obtain⟨sl,hs⟩:=y.2.2 b o q
   exact⟨_,kp b _ n hs⟩
 ·rw[Array.size_setIfInBounds]; exact x.size
 ·have:1 < vs.size:=by rw[x.size]; decide
  simp[this]
 ·rw[Array.getElem?_setIfInBounds_ne (by decide)]; exact x.cx z
 ·rcases pk with rfl | ⟨_,_,_,_,_,_,_,rfl⟩ <;> simp
def yG(h:Heap)(e:Addr)(tb:Value):Prop:=tb=.none\/∃ T,tb=.ref T/\iw h e T .none
theorem J0{base:Heap}{env:Env}{outer:List Env}{L e C:Addr}{od:Option Addr}{oe:Obj}{vs:Array Value}{tb:Value}{q:Bool}{Q:Unit->Shared->Prop}
 (hA:A.frames=some (env :: outer)) (hF:s.heap.FunFrames base (env :: outer)) (hL:env.frame=some L) (x:eu s.heap e C od tb oe vs q) (ht:yG s.heap e tb)
 (k : ∀ h' T',nj (env :: outer) e C T' od tb (rawInt L) s.heap h' q->Q () { s with heap:=h' }):wpAny M A (noteFrame (.ref e) env) Q E s:=by
 unfold noteFrame
 simp only [hL]
 refine wpAny_bind (wpAny_field x.at_ x.data x.tb1 ?_)
 rcases ht with rfl | ⟨T,rfl,oT,ts,hT,dT,fT,nT⟩
 ·rw[if_neg (by decide)]
  exact A8 hA hF hL x k
 ·rw[if_pos (show (Value.ref T != Value.none)=true by simp)]
  refine wpAny_bind (wpAny_field hT dT fT ?_)
  rw[if_neg (show ¬ (Value.none == rawInt L)=true by simp[rawInt])]
  refine wpAny_bind (wpAny_setField hT dT (Array.getElem?_eq_some_iff.mp fT).1 ?_)
  have ot : ∀ b,b≠T->(s.heap.update T (Obj.mapFields (·.setIfInBounds 3 Value.none))).get? b=s.heap.get? b:=λb n=>Heap.get?_update_other _ _ (Ne.symm n)
  have self:=Heap.get?_update_self (Obj.mapFields (·.setIfInBounds 3 Value.none)) hT (by rw[mf dT]; rfl)
  have nF:T∉cW (env :: outer):=λm=>by
   obtain⟨_,o,ho,nf⟩:=hF.mem m
   rw[hT]at ho
   cases ho
   exact nf ts dT
  refine A8 (base:=base) hA (hF.of_keeps λb o q nf=>⟨o,(ot b λz=>?_).trans q,rfl⟩) hL ⟨(ot e (Ne.symm nT)).trans x.at_,x.cls,x.dict,x.data,x.size,x.tb1,x.cx⟩ λh' T' N=>k h' T' ⟨λb o q n1 n2 n3=>?_,λb o q m=>?_,λb o q=>?_,by have:=N.new; rwa [Heap.size_after_update]at this,by have:=N.size; rwa [Heap.size_after_update]at this,N.exc,N.ent⟩
  ·subst z; rw[hT]at q; cases q; exact nf ts dT
  ·exact N.keep b o ((ot b λz=>n2 (by rw[z])).trans q) n1 (by simp) n3
  ·exact N.slot b o ((ot b λz=>nF (z ▸ m)).trans q) m
  ·by_cases n:b=T
   ·subst n; exact N.there _ _ self
   ·exact N.there b o ((ot b n).trans q)
theorem Ls{e C T:Addr}{od:Option Addr}{oe:Obj}{vs:Array Value}{fl:Value}{q:Bool}{Q:Unit->Shared->Prop}(x:eu s.heap e C od (.ref T) oe vs q)(t:iw s.heap e T fl)
 (k : ∀ h',h'.objs.size=s.heap.objs.size->(∀ b o,s.heap.get? b=some o->b≠T->h'.get? b=some o)->(∀ b o,s.heap.get? b=some o->∃ o',h'.get? b=some o')->eu h' e C od (.ref T) oe vs q->iw h' e T .none->Q () { s with heap:=h' }):wpAny M A (setFlight (.ref e) none) Q E s:=by
 obtain⟨oT,ts,hT,dT,fT,nT⟩:=t
 unfold setFlight
 refine wpAny_bind (wpAny_field x.at_ x.data x.tb1 ?_)
 rw[if_pos (show (Value.ref T != Value.none)=true by simp)]
 have z3:=(Array.getElem?_eq_some_iff.mp fT).1
 have ot : ∀ b,b≠T->(s.heap.update T (Obj.mapFields (·.setIfInBounds 3 ((none:Option Addr).elim Value.none λf=>rawInt f)))).get? b=s.heap.get? b:=λb n=>Heap.get?_update_other _ _ (Ne.symm n)
 have self:=Heap.get?_update_self (Obj.mapFields (·.setIfInBounds 3 ((none:Option Addr).elim Value.none λf=>rawInt f))) hT (by rw[mf dT]; rfl)
 refine wpAny_setField hT dT z3 (k _ (Heap.size_after_update ..) (λb o q n=>(ot b n).trans q) (λb o q=>?_) ⟨(ot e (Ne.symm nT)).trans x.at_,x.cls,x.dict,x.data,x.size,x.tb1,x.cx⟩ ⟨_,_,self,by rw[mf dT],by simp[z3],nT⟩)
 by_cases n:b=T
 ·subst n; exact⟨_,self⟩
 ·exact⟨o,(ot b n).trans q⟩
end
def xφ(e C:Addr)(od:Option Addr)(q:Bool):Heap->Prop:=λh=>∃ tb oe vs,eu h e C od tb oe vs q
def xν(e C:Addr)(od:Option Addr):Heap->Prop:=λh=>∃ oe vs,eu h e C od .none oe vs
def XO(e C:Addr)(od:Option Addr)(q:Bool:=false):HO:=.ext (xφ e C od q)
def XN(e C:Addr)(od:Option Addr):HO:=.ext (xν e C od)
theorem eu.keeps{h h':Heap}{e C:Addr}{od:Option Addr}{tb:Value}{oe:Obj}{vs:Array Value}{q:Bool}(x:eu h e C od tb oe vs q)(k : ∀ o,h.get? e=some o->h'.get? e=some o):eu h' e C od tb oe vs q:=⟨k _ x.at_,x.cls,x.dict,x.data,x.size,x.tb1,x.cx⟩
section
variable {P:Program}{w:World}{H:Hp}{h:Heap}{e C:Addr}{od:Option Addr}
theorem Ew{tb:Value}{oe:Obj}{vs:Array Value}{q:Bool}(x:eu h e C od tb oe vs q):bF P w H h e (XO e C od q) :=
 ⟨⟨tb,oe,vs,x⟩,⟨oe,x.at_⟩,λ_ _ ⟨tb,oe,vs,y⟩ k=>⟨tb,oe,vs,y.keeps k⟩⟩
end
def yS(P:Program)(w:World):fR:=λouter H s E v s'=>∃ (e C T:Addr) (od:Option Addr) (q:Bool) (H':Hp) (oe:Obj) (vs:Array Value),v=.ref e/\s'.os=s.os/\AllBare s'.gens /\
 Un (cW outer) [] H H' s.heap s'.heap/\bw P w H' s'.heap/\H' e=some (XO e C od q)/\s.heap.get? e=none/\s.heap.objs.size<=T/\s.heap.objs.size<=s'.heap.objs.size/\H' T=none /\
 eu s'.heap e C od (.ref T) oe vs q/\iw s'.heap e T .none/\E (.ref C) (some e) H'
theorem bF.there{P:Program}{w:World}{H:Hp}{h:Heap}{a:Addr}{o:HO}(x:bF P w H h a o) : ∃ u,h.get? a=some u:=by
 cases o with
 | lst xs=>obtain⟨_,_,_,_,e⟩:=x; exact⟨_,e⟩
 | tup xs=>obtain⟨_,_,_,ob,e,_⟩:=x; exact⟨_,e⟩
 | dK kvs=>obtain⟨_,_,_,_,ob,_,_,e,_⟩:=x; exact⟨_,e⟩
 | dT kvs=>obtain⟨_,_,_,_,ob,_,_,e,_⟩:=x; exact⟨_,e⟩
 | set S n=>obtain⟨ob,_,_,_,e,_⟩:=x; exact⟨_,e⟩
 | ins C dx fs=>obtain⟨_,_,_,e,_⟩:=x; exact⟨_,e⟩
 | own y=>exact x
 | xd fs=>obtain⟨_,⟨_,_,_,e,_⟩,_⟩:=x; exact⟨_,e⟩
 | rng lo hi=>obtain⟨_,_,_,e⟩:=x; exact⟨_,e⟩
 | frz ob u=>obtain⟨e,_⟩:=x; exact⟨_,e⟩
 | tbl ps=>exact⟨_,show h.get? a=some _ from x⟩
 | met f y=>exact⟨_,show h.get? a=some _ from x⟩
 | ext φ=>exact x.2.1
def DB(X:Cx)(pins:List (Addr × Obj))(Es:St->XK)(v:Value)(s':Shared):Prop:=∃ (σ:St) (H':Hp) (e C:Addr) (od:Option Addr) (q:Bool) (tb:Value) (oe:Obj) (vs:Array Value),v=.ref e/\ae X pins σ H' s' /\
 H' e=some (XO e C od q)/\eu s'.heap e C od tb oe vs q/\yG s'.heap e tb/\(∀ T,tb=.ref T->H' T=none/\X.s₀.heap.objs.size<=T/\∀ p∈X.pn++pins,p.1≠T)/\(X.ex=[]->X.s₀.heap.get? e=none)/\Es σ (.ref C) (some e) H'
structure gE (X:Cx) (Es:St->XK):Prop where
 up : ∀ pins v s',DB X pins Es v s'->X.xe v s'
section
variable {X:Cx}{pins:List (Addr × Obj)}{σ:St}{H:Hp}{s s':Shared}{Es:St->XK}{v:Value}
theorem nj.hok{P:Program}{w:World}{l:List Env}{e C T':Addr}{od:Option Addr}{tb fl:Value}{h h':Heap}{qq:Bool}(N:nj l e C T' od tb fl h h' qq)(ok:bw P w H h)(hx:H e=some (XO e C od qq))(ht : ∀ T,tb=.ref T->H T=none)
 (hf : ∀ b∈cW l,H b=none):bw P w H h':=λb o q=>by
 have kp : ∀ c u ou,H c=some u->c≠e->h.get? c=some ou->h'.get? c=some ou:=λc u ou z n y=>N.keep c ou y n (λy2=>by rw[ht c y2.symm]at z; cases z) λm=>by rw[hf c m]at z; cases z
 by_cases n:b=e
 ·subst n
  rw[hx]at q; cases q
  obtain⟨oe,vs,x⟩:=N.exc
  exact Ew x
 ·refine (ok b o q).stay (λc u hc y=>?_) (λ_ z=>z) λ_ _ z=>z
  rcases hc with rfl | hc
  ·exact kp c o u q n y
  ·refine kp c _ u hc (λz=>?_) y
   rw[z,hx]at hc; cases hc
end
structure SM (P:Program) (w:World) (K:W.Frag) (mg:Str->Option Value) (base:Heap) (x:Str) (k:Nat) (f:Addr) (fd:FuncData) (ps:List Str) (dvs:List V) (sp:Sp):Prop where
 g:mg x=some (.ref f)
 kp:W.keepIn K (.ref f)=true
 b : ∃ ds,ao K fd ps ds/\aI dvs ds
 ok:bv P w K mg base (yS P w) k f fd ps sp
structure SN (P:Program) (w:World) (K:W.Frag) (mg:Str->Option Value) (base:Heap) (C:Addr) (m:Str) (k:Nat) (f:Addr) (fd:FuncData) (ps:List Str) (dvs:List V) (sp:Sp):Prop where
 c:cA K C
 mt:be K C m f
 b : ∃ ds,ao K fd ps ds/\aI dvs ds
 ok:bv P w K mg base (yS P w) k f fd ps sp
structure SQ (P:Program) (w:World) (K:W.Frag) (mg:Str->Option Value) (base:Heap) (x:Str) (C:Addr) (k:Nat) (f:Addr) (fd:FuncData) (ps:List Str) (dvs:List V) (sp:Sp):Prop where
 g:mg x=some (.ref C)
 mkx:Mk K C f
 b : ∃ ds,ao K fd ps ds/\aI dvs ds
 ok:bv P w K mg base (yS P w) k f fd ps sp
abbrev Di:List Value:=[.type "ValueError",.type "Exception",.type "BaseException",.type "object"]
section
variable {X:Cx}{pins:List (Addr × Obj)}{σ:St}{H:Hp}{s:Shared}{h':Heap}
abbrev Cx.tryc(X:Cx)(pn:List (Addr × Obj))(W:Value->Shared->Prop):Cx:={ X with pn:=pn,xe:=W }
abbrev Cx.hand(X:Cx)(e:Addr)(W:Value->Shared->Prop):Cx:={ X with A:=X.A.mark (some (.ref e)),calm:=false,xe:=W }
theorem Cx.Ok.tryc{pn:List (Addr × Obj)}{W:Value->Shared->Prop}(ok:X.Ok):(X.tryc pn W).Ok :=
 ⟨ok.mod,ok.kind,ok.glob,ok.blt,ok.above,ok.inj,ok.has,ok.cab,ok.hd,ok.frames,ok.stk,ok.exf,ok.bs,ok.bsz,ok.noex,ok.exfs,ok.funs,ok.frf⟩
theorem Cx.Ok.untry{pn:List (Addr × Obj)}{W:Value->Shared->Prop}(ok:(X.tryc pn W).Ok):X.Ok :=
 ⟨ok.mod,ok.kind,ok.glob,ok.blt,ok.above,ok.inj,ok.has,ok.cab,ok.hd,ok.frames,ok.stk,ok.exf,ok.bs,ok.bsz,ok.noex,ok.exfs,ok.funs,ok.frf⟩
theorem ae.tryc{W:Value->Shared->Prop}(I:ae X pins σ H s):ae (X.tryc (X.pn++pins) W) [] σ H s :=
 ⟨I.ok.tryc,I.os,I.bare,I.base,I.loc,I.cell,I.free,I.freeC,λp hp=>I.pin p (by simpa using hp),I.hok,I.len⟩
theorem ae.untry{W:Value->Shared->Prop}{pins':List (Addr × Obj)}(I:ae (X.tryc (X.pn++pins) W) pins' σ H s):ae X pins σ H s :=
 ⟨I.ok.untry,I.os,I.bare,I.base,I.loc,I.cell,I.free,I.freeC,λp hp=>I.pin p (List.mem_append_left _ hp),I.hok,I.len⟩
theorem ae.hand{e:Addr}{W:Value->Shared->Prop}(I:ae X pins σ H s):ae (X.hand e W) pins σ H s :=
 ⟨⟨I.ok.mod,I.ok.kind,I.ok.glob,I.ok.blt,I.ok.above,I.ok.inj,I.ok.has,I.ok.cab,(λz=>nomatch z),I.ok.frames,I.ok.stk,I.ok.exf,I.ok.bs,I.ok.bsz,I.ok.noex,I.ok.exfs,I.ok.funs,I.ok.frf⟩,I.os,I.bare,I.base,I.loc,I.cell,I.free,I.freeC,I.pin,I.hok,I.len⟩
theorem ae.unhand{e:Addr}{W:Value->Shared->Prop}(I:ae (X.hand e W) pins σ H s)(hd:X.calm=true->X.A.handled=none):ae X pins σ H s :=
 ⟨⟨I.ok.mod,I.ok.kind,I.ok.glob,I.ok.blt,I.ok.above,I.ok.inj,I.ok.has,I.ok.cab,hd,I.ok.frames,I.ok.stk,I.ok.exf,I.ok.bs,I.ok.bsz,I.ok.noex,I.ok.exfs,I.ok.funs,I.ok.frf⟩,I.os,I.bare,I.base,I.loc,I.cell,I.free,I.freeC,I.pin,I.hok,I.len⟩
theorem SP.untry{W:Value->Shared->Prop}{D:gf}{f:Flow}(h:SP (X.tryc (X.pn++pins) W) [] D f s):SP X pins D f s:=by
 cases f with
 | next=>obtain⟨σ',H',I,q⟩:=h; exact⟨σ',H',I.untry,q⟩
 | brk=>obtain⟨σ',H',I,q⟩:=h; exact⟨σ',H',I.untry,q⟩
 | cont=>obtain⟨σ',H',I,q⟩:=h; exact⟨σ',H',I.untry,q⟩
 | ret u=>obtain⟨v,σ',H',I,r,q⟩:=h; exact⟨v,σ',H',I.untry,r,q⟩
theorem ae.noTb{T e:Addr}{fl:Value}(I:ae X pins σ H s)(t:iw s.heap e T fl):T≠X.env.locals/\∀ x c,X.env.cells.lookup x=some c->c≠T:=by
 obtain⟨oT,ts,h1,h2,_⟩:=t
 refine⟨λz=>?_,λx c hc z=>?_⟩
 ·obtain⟨m,⟨o,es,ep,ho,hd,_⟩,_⟩:=I.loc
  rw[<- z,h1]at ho; cases ho
  rw[h2]at hd; cases hd
 ·obtain⟨v,o,ho,hd⟩:=I.cell x c hc
  rw[z,h1]at ho; cases ho
  rw[h2]at hd; cases hd
theorem ae.noted{e C T':Addr}{od:Option Addr}{tb fl:Value}{qq:Bool}(I:ae X pins σ H s)(hx:H e=some (XO e C od qq))(ht:yG s.heap e tb)(hT : ∀ T,tb=.ref T->H T=none/\X.s₀.heap.objs.size<=T/\∀ p∈X.pn++pins,p.1≠T)
 (N:nj X.stack e C T' od tb fl s.heap h' qq):ae X pins σ H { s with heap:=h' }:=by
 have ne : ∀ b,H b=none->b≠e:=λb n z=>by rw[z,hx]at n; cases n
 have ok:=N.hok I.hok hx (λT z=>(hT T z).1) I.stkFree
 have un : ∀ ch:List Addr,(∀ T,tb=.ref T->T∈ch)->Un (cW X.stack) ch H H s.heap h':=λch hc=>⟨λb o q n m c=>N.keep b o q (ne b n) (λz=>c (hc b z.symm)) m,λb o q n m c=>N.slot b o q m,λ_ _ _ n _=>n,λb o q _=>N.there b o q,λ_ _ q=>q,λ_ _ _ q=>q,λb ps q=>⟨#[],by rw[q]; simp⟩⟩
 rcases ht with rfl | ⟨T,rfl,t⟩
 ·exact I.call (g':=s.gens) (d':=s.drawn) (t':=s.toks) (ch:=[]) (un [] λT z=>by cases z) ok I.bare λb z=>absurd z (by simp)
 ·refine I.call (g':=s.gens) (d':=s.drawn) (t':=s.toks) (ch:=[T]) (un [T] λT' z=>by cases z; simp) ok I.bare λb hb=>?_
  have eb:b=T:=by simpa using hb
  subst eb
  obtain⟨h1,h2,h3⟩:=hT b rfl
  obtain⟨g1,g2⟩:=I.noTb t
  exact⟨.inr h2,g1,g2,h3⟩
end
structure hX (P:Program) (w:World) (K:W.Frag) (mg:Str->Option Value) (base:Heap) (x:Str) (C:Addr) (k:Nat) (f:Addr) (fd:FuncData) (ps:List Str) (dvs:List V) (sp:Sp):Prop where
 g:mg x=some (.ref C)
 mkx:Mk K C f
 b : ∃ ds,ao K fd ps ds/\aI dvs ds
 ok:bv P w K mg base bC k f fd ps sp
section
variable {X:Cx}{k j:Nat}{f C:Addr}{fd:FuncData}{ps:List Str}{sp:Sp}{x:Str}{p pos:Pos}{e:Expr}{es:List Expr}{t:TA}{dvs:List V}
theorem bf{t1 t2:TE}(h1:QE X e t1)(h2:QE X e t2):QE X e (λσ H Q=>t1 σ H Q\/t2 σ H Q) :=
 ⟨λpins s σ H Q I z=>z.elim (h1.h pins s σ H Q I) (h2.h pins s σ H Q I)⟩
theorem gp(F:hX X.prog X.w X.K X.mg X.base x C j f fd ps dvs sp)(hr:bM k X.A)(ha:QA X (e :: es) t)(hj:j+1<=k:=by decide)(hg:Gl X x:=by rfl)(hdb:(x == ("__debug__" : Str))=false:=by decide)(hn:di (e :: es)=true:=by rfl) :
 QE X (.Call (.Name x p) (e :: es) [] pos) (zl C sp dvs E0 t):=by
 obtain⟨ds,hb,hd⟩:=F.b
 exact⟨Jb F.mkx F.ok (hr.mono hj) hg F.g hb hd nY ha.h hdb (cM (dI hn).1) (gQ (dI hn).2)⟩
end
end L2
namespace L2
open PySem PySem.Spec PyProof.Rows PySem.W
structure yE (K:W.Frag) (C:Addr):Prop where
 ga:findIn K (.ref C) "__getattribute__" = some (some (.builtin "BaseException.__getattribute__"))
 noga:findIn K (.ref C) "__getattr__" = some none
 base:mroIn K C (.type "BaseException")=some true
 obj:mroIn K C (.type "object")=some true
 hd:hasDictIn K C=true
 cls:findIn K (.ref C) "__class__" = some (some (.builtin "object.__class__"))
 clsG:specialIn K (.builtin "object.__class__") "__get__" = some (some (.builtin "getset_descriptor.__get__"))
 clsT:takesIn K (.builtin "object.__class__")=some true
inductive yF (K:W.Frag) (H:Hp):V->Value->Prop where
 | of {x:V} {t:Value} (h:ce K H x t):yF K H x t
 | exc {e C:Addr} {q:Bool} (h:H e=some (XO e C none q)) (c:yE K C):yF K H (.ref e) (.ref C)
def CJ(K:W.Frag)(C:Addr)(bmB:List Value)(newId:String):Bool:=match K.lookup C with
 | some ⟨.type "type",_,.cls cd,sl⟩=>(match cd.mro,sl.toList with
  | .ref C' :: bm,[_,_,_,_,some (.builtin n),_]=>C' == C && (n == newId && (!cd.hasDel && (W.tailIn K bmB bm && W.nsOkIn K cd.ns)))
  | _,_=>false)
 | _=>false
structure Dy (K:W.Frag) (C f:Addr):Prop where
 x:CJ K C Di "ValueError.__new__" = true
 init:W.findIn K (.ref C) "__init__" = some (some (.ref f))
 fn:W.isFn K (.ref f)=true
 kp:W.keepIn K (.ref C)=true
structure SU (P:Program) (w:World) (K:W.Frag) (mg:Str->Option Value) (base:Heap) (x:Str) (C:Addr) (k:Nat) (f:Addr) (fd:FuncData) (ps:List Str) (sp:Sp):Prop where
 g:mg x=some (.ref C)
 mkx:Dy K C f
 b:ao K fd ps []
 ok:bv P w K mg base bC k f fd ps sp
section
variable {X:Cx}{pins:List (Addr × Obj)}{σ:St}{H:Hp}{s:Shared}{h':Heap}{e C d0:Addr}{fs:List (Str × V)}{f:Str}
structure SK (K:W.Frag) (C:Addr):Prop where
 x:CJ K C Di "ValueError.__new__" = true
 c:yE K C
 sa:W.findIn K (.ref C) "__setattr__" = some (some (.builtin "object.__setattr__"))
end
structure SX (K:W.Frag) (Y:Addr):Prop where
 sp:W.specialIn K (.ref Y) "__getattribute__" = some (some (.builtin "type.__getattribute__"))
 rd:W.readsIn K Y (.type "type")=true
 fc:W.findCls K (.ref Y) (.type "type") "__init__" = some (.val (.builtin "ValueError.__init__"))
inductive Dv (K:W.Frag) (H:Hp):V->Value->Prop where
 | of {x:V} {t:Value} (h:yF K H x t):Dv K H x t
 | exd {e C d0:Addr} {fs:List (Str × V)} (h:H e=some (XN e C (some d0))\/∃ q,H e=some (XO e C (some d0) q)) (hd:H d0=some (.xd fs)) (c:yE K C):Dv K H (.ref e) (.ref C)
structure Ri (k:Nat) (A:Around):Prop where
 dp:A.depth+3*k+5 < recursionLimit
 un:A.units+16*k+200 < cLine
structure yP (P:Program) (w:World) (K:W.Frag) (mg:Str->Option Value) (base:Heap) (k:Nat) (f:Addr) (fd:FuncData) (ps:List Str) (sp:Sp):Prop where
 len : ∀ vs H Q E,sp vs H Q E->vs.length=ps.length
 run : ∀ (A:Around) (outer:List Env) (s:Shared) (H:Hp) (args:Args) (us:List Value) (vs:List V) (Q:VK) (E:XK),Ri k A->iB P w K mg base A outer s H->BindsTo s fd args (ps.zip us)->aI vs us->sp vs H Q E ->
  codeAny (model P w) A (.call (.ref f) args) (CR bC outer P w H s Q E) s
structure ST (P:Program) (w:World) (K:W.Frag) (mg:Str->Option Value) (base:Heap) (x:Str) (C:Addr) (k:Nat) (f:Addr) (fd:FuncData) (ps:List Str) (sp:Sp):Prop where
 g:mg x=some (.ref C)
 mkx:Dy K C f
 b:ao K fd ps []
 ok:yP P w K mg base k f fd ps sp
def zb(K:W.Frag)(c:Value)(tb:(St->XK)->TS)(th:Addr->TS):TS:=λD σ H=>∃ Eb:St->XK,tb Eb D σ H/\∀ σ' C e od qq H',Eb σ' (.ref C) (some e) H'->H' e=some (XO e C od qq)->W.exmOne K (.ref C) c=some true/\th e D σ' H'
theorem Ln{X:Cx}{e:Addr}{Es:St->XK}(hx:gE X Es)(hd:X.calm=true->X.A.handled=none):gE (X.hand e X.xe) Es:=⟨by
 rintro pins v s' ⟨σ',H',e',C,od,qq,tb',oe,vs,hv,I',hx',x,ht,hT,he,q⟩
 exact hx.up pins v s' ⟨σ',H',e',C,od,qq,tb',oe,vs,hv,I'.unhand hd,hx',x,ht,hT,he,q⟩⟩
section
variable {X:Cx}{y:Str}{np hpos pos:Pos}{body suite:List Stmt}{b₀:Stmt}{Cy:Addr}{tb:(St->XK)->TS}{th:Addr->TS}{Es:St->XK}
theorem HJ(hst:X.stack=X.env :: X.outer/\X.env.frame=some X.env.locals)(hm:X.mg y=some (.ref Cy))(hE : ∀ e:Addr,PassesOwnAt (model X.prog X.w) (X.A.mark (some (.ref e))) X.A X.env X.xe)(hx:gE X Es)
 (hb : ∀ pn W Eb,gE (X.tryc pn W) Eb->eY (X.tryc pn W) body (tb Eb)) (hh : ∀ e,gE (X.hand e X.xe) Es->eY (X.hand e X.xe) (b₀ :: suite) (th e))
 (hg:Gl X y:=by rfl) (hd:(y == ("__debug__" : Str))=false:=by decide):QS X (.Try body [.ExceptHandler (some (.Name y np)) none (b₀ :: suite) hpos] [] [] pos) (zb X.K (.ref Cy) tb th):=⟨by
 intro pins s σ H D I h
 obtain⟨Eb,h1,h2⟩:=h
 have L:gE (X.tryc (X.pn++pins) (DB X pins Eb)) Eb:=⟨by
  rintro pins' v s' ⟨σ',H',e,C,od,qq,tb',oe,vs,hv,I',hx,x,ht,hT,he,q⟩
  exact⟨σ',H',e,C,od,qq,tb',oe,vs,hv,I'.untry,hx,x,ht,λT z=>⟨(hT T z).1,(hT T z).2.1,λp hp=>(hT T z).2.2 p (List.mem_append_left _ hp)⟩,he,q⟩⟩
 refine wpAny_Try_except (wpAny_mono ((hb _ _ Eb L).h [] s σ H D I.tryc h1) (λf s1 q=>?_) λv s1 q=>?_)
 ·cases f with
  | next=>obtain⟨σ',H',I',q⟩:=q; exact wpAny_execs_nil ⟨σ',H',I'.untry,q⟩
  | brk=>exact SP.untry (f:=.brk) q
  | cont=>exact SP.untry (f:=.cont) q
  | ret u=>exact SP.untry (f:=.ret u) q
 ·obtain⟨σ',H',e,C,od,qq,tb',oe,vs,rfl,I1,hxo,x,ht,hT,he,q⟩:=q
  obtain⟨hex,hth⟩:=h2 σ' C e od qq H' q hxo
  have hfr:X.A.frames=some (X.env :: X.outer):=by rw[<- hst.1]; exact I1.ok.frames
  have hff:s1.heap.FunFrames X.base (X.env :: X.outer):=by rw[<- hst.1]; exact I1.stack
  refine J0 (base:=X.base) hfr hff hst.2 x ht λh1' T1 N1=>?_
  rw[<- hst.1]at N1
  have I2:=I1.noted hxo ht hT N1
  obtain⟨oe1,vs1,x1⟩:=N1.exc
  have T1new:X.s₀.heap.objs.size<=T1:=Nat.le_trans I1.sz N1.new
  have T1none:H' T1=none:=by
   cases z:H' T1 with
   | none=>rfl
   | some o =>
    obtain⟨u,w⟩:=bF.there (I1.hok T1 o z)
    exact absurd (Nat.lt_of_lt_of_le (Heap.lt_size w) N1.new) (Nat.lt_irrefl _)
  have T1pin : ∀ p∈X.pn++pins,p.1≠T1:=λp hp z=>absurd (Nat.lt_of_lt_of_le (Heap.lt_size (I1.pin p hp).1) N1.new) (by rw[z]; exact Nat.lt_irrefl _)
  have land : ∀ {M:Model} {A:Around} {Ex:Value->Shared->Prop} {fl:Value} {s2:Shared} {oe2:Obj} {vs2:Array Value} {Q:Unit->Shared->Prop},ae X pins σ' H' s2->eu s2.heap e C od (.ref T1) oe2 vs2 qq->iw s2.heap e T1 fl ->
   (∀ s3,ae X pins σ' H' s3->eu s3.heap e C od (.ref T1) oe2 vs2 qq->iw s3.heap e T1 .none->Q () s3)->wpAny M A (setFlight (.ref e) none) Q Ex s2:=λ{M A Ex fl s2 oe2 vs2 Q} J y t kk=>by
   refine Ls y t λh3 sz k3 t3 y3 e3=>kk { s2 with heap:=h3 } ?_ y3 e3
   have ok3:bw X.prog X.w H' h3:=λb o z=>by
    refine (J.hok b o z).stay (λc u hc w=>k3 c u w λv=>?_) (λ_ q=>q) λ_ _ q=>q
    rcases hc with rfl | hc
    ·rw[v,T1none]at z; cases z
    ·rw[v,T1none]at hc; cases hc
   refine J.call (g':=s2.gens) (d':=s2.drawn) (t':=s2.toks) (ch:=[T1]) ⟨λb o z n m c=>k3 b o z (by simpa using c),λb o z n m c=>⟨o.slots,k3 b o z (by simpa using c)⟩,λ_ _ _ n _=>n,λb o z _=>t3 b o z,λ_ _ z=>z,λ_ _ _ z=>z,λb ps z=>⟨#[],by rw[z]; simp⟩⟩ ok3 J.bare λb hb'=>?_
   have eb:b=T1:=by simpa using hb'
   subst eb
   obtain⟨g1,g2⟩:=J.noTb t
   exact⟨.inr T1new,g1,g2,T1pin⟩
  refine land I2 x1 N1.ent λs3 I3 x3 t3=>?_
  refine wpAny_handleBy_cons (codeAny_handlers_test ?_) (by intro z; cases z)
  refine mm (X:=X.hand e λ_ _=>False) I3.hand hg hm ?_ hd
  have LT:W.Looks (model X.prog X.w) s3.heap (typeOf (.ref e)) (.ref C):=by
   have z:W.Looks (model X.prog X.w) s3.heap (typeOf (.ref e)) oe1.cls:=(W.Looks.ld x3.at_).andThen .now
   rw[x3.cls]at z
   exact z
  refine (W.exm_one I3.kIn LT hex) _ _ _ _ (λb o w=>w) ?_
  refine codeAny_handlers_suite (land I3 x3 t3 λs4 I4 x4 t4=>?_)
  have hd0:=I.ok.hd
  refine wpAny_mono ((hh e (Ln hx hd0)).h pins s4 _ H' _ (I4.hand (e:=e)) hth) (λf s6 q6=>?_) λv s6 z=>hE e v s6 z
  cases f with
  | next=>obtain⟨σ6,H6,I6,q6⟩:=q6; exact⟨_,H6,I6.unhand hd0,q6⟩
  | brk=>obtain⟨σ6,H6,I6,q6⟩:=q6; exact⟨_,H6,I6.unhand hd0,q6⟩
  | cont=>obtain⟨σ6,H6,I6,q6⟩:=q6; exact⟨_,H6,I6.unhand hd0,q6⟩
  | ret u=>obtain⟨v,σ6,H6,I6,r6,q6⟩:=q6; exact⟨v,_,H6,I6.unhand hd0,r6,q6⟩⟩
theorem HI{K:W.Frag}(h:X.K=K)(hst:X.stack=X.env :: X.outer/\X.env.frame=some X.env.locals)(hm:X.mg y=some (.ref Cy))(hE : ∀ e:Addr,PassesOwnAt (model X.prog X.w) (X.A.mark (some (.ref e))) X.A X.env X.xe)(hx:gE X Es)
 (hb : ∀ pn W Eb,gE (X.tryc pn W) Eb->eY (X.tryc pn W) body (tb Eb)) (hh : ∀ e,gE (X.hand e X.xe) Es->eY (X.hand e X.xe) (b₀ :: suite) (th e))
 (hg:Gl X y:=by rfl) (hd:(y == ("__debug__" : Str))=false:=by decide):QS X (.Try body [.ExceptHandler (some (.Name y np)) none (b₀ :: suite) hpos] [] [] pos) (zb K (.ref Cy) tb th):=by subst h; exact HJ hst hm hE hx hb hh hg hd
end
section
variable {X:Cx}{k j:Nat}{f C:Addr}{fd:FuncData}{ps:List Str}{sp:Sp}{x m:Str}{p pos:Pos}{e:Expr}{es:List Expr}{t:TA}{dvs:List V}{ds:List Value}{Es:St->XK}
structure SS (P:Program) (w:World) (K:W.Frag) (mg:Str->Option Value) (base:Heap) (x:Str) (k:Nat) (f:Addr) (fd:FuncData) (ps:List Str) (sp:Sp):Prop where
 g:mg x=some (.ref f)
 kp:W.keepIn K (.ref f)=true
 b:ao K fd ps []
 ok:yP P w K mg base k f fd ps sp
end
section
variable {X:Cx}{K:W.Frag}{o i value:Expr}{td ty tv:TE}{pos pos':Pos}
def Oe:R2:=λy x H Q=>∃ a ov,x=.ref a/\cK H a y ov/\Q (.bl (!ov.isSome)) H
theorem Co(hu:X.A.units+64 < cLine):aW X (compareOp .NotIn) Oe:=by
 intro pins s σ H x y v u Q I rx ry q
 obtain⟨a,ov,rfl,g,q⟩:=q
 obtain rfl:u=Value.ref a:=ry
 exact OH (by omega) I g rx λs' I'=>⟨.bl (!ov.isSome),H,I',rfl,q⟩
theorem so(hu:X.A.units+64 < cLine)(ho:QE X o td)(hi:QE X i ty)(hs:rm i:=by intro _ _; rfl):QE X (.Subscript o i pos) (zu td ty):=⟨Ji (by omega) ho.h hi.h hs⟩
theorem nW(hu:X.A.units+64 < cLine)(ho:QE X o td)(hi:QE X i ty)(hv:QE X value tv)(hs:swapsWith value (some (.Subscript o i pos')) pos.line X.env=pure false:=by rfl):QS X (.Assign [.Subscript o i pos'] value pos) (As td ty tv):=⟨Iz (by omega) ho.h hi.h hv.h hs⟩
end
section
variable {X:Cx}{K:W.Frag}{k j:Nat}{f C:Addr}{fd:FuncData}{ps:List Str}{sp:Sp}{x m:Str}{p pos apos pos' tpos:Pos}{e o value:Expr}{es:List Expr}{ta tv:TE}{t:TA}
theorem AK{f:Str}(h:X.K=K)(ha:QE X o ta)(hv:QE X value tv):QS X (.AugAssign (.Attribute o f tpos) .Add value pos) (Aq K ta tv AB f):=by subst h; exact⟨Iw ha.h hv.h LR⟩
structure SO (P:Program) (w:World) (K:W.Frag) (mg:Str->Option Value) (base:Heap) (C:Addr) (m:Str) (k:Nat) (f:Addr) (fd:FuncData) (ps:List Str) (sp:Sp):Prop where
 c:cA K C
 mt:be K C m f
 b:ao K fd ps []
 ok:yP P w K mg base k f fd ps sp
theorem Lm{X:Cx}:gE X (λ_=>E0):=⟨by
 rintro pins v s' ⟨σ',H',e',C,od,qq,tb',oe,vs,hv,I',hx',x,ht,hT,he,q⟩
 exact q.elim⟩
end
section
variable {X:Cx}{K:W.Frag}
def Oh:R2:=λy x H Q=>∃ a ov,x=.ref a/\cK H a y ov/\Q (.bl ov.isSome) H
theorem oU(hu:X.A.units+64 < cLine):aW X (compareOp .In) Oh:=by
 intro pins s σ H x y v u Q I rx ry q
 obtain⟨a,ov,rfl,g,q⟩:=q
 obtain rfl:u=Value.ref a:=ry
 exact OI (by omega) I g rx λs' I'=>⟨.bl ov.isSome,H,I',rfl,q⟩
def Cu(K:W.Frag):V->List V->Hp->VK->Prop:=λx vs H Q=>∃ (a:Addr) (y:V) (xs:List V) (j:Nat),x=.ref a/\vs=[y]/\H a=some (.lst xs)/\eS y=true/\xs.all eS=true/\(∃ z,xs[j]? = some z/\db z y=true)/\(∀ i z,i < j->xs[i]? = some z->db z y=false)/\Q (.int (j:Int)) H
theorem KR:fA X "list.index" (Cu X.K):=by
 intro pins s σ H x vs v us Q I rx rs q
 obtain⟨a,y,xs,j,rfl,rfl,hx,fy,fx,⟨z,hz,ez⟩,hno,q⟩:=q
 cases rx
 obtain⟨u,rfl,ru⟩:=je rs
 obtain⟨its,rv,pl,hsz⟩:=I.list (.of hx)
 have hl:=rv.length
 have hj:j < its.length:=by have:=(List.getElem?_eq_some_iff.mp hz).1; omega
 obtain⟨⟨ocl,odc,oda,osl⟩,n,e1,e2,e3,e4⟩:=pl
 simp only at e2 e3 e4
 subst e2 e3 e4
 have at_ : ∀ i (hi:i < its.toArray.size),∃ z,xs[i]? = some z/\dJ y its.toArray[i]=db z y:=λi hi=>by
  have hi':i < xs.length:=by rw[List.size_toArray]at hi; omega
  obtain⟨w,hw,rw'⟩:=rv.get (i:=i) (x:=xs[i]) (by simp[hi'])
  have e:its.toArray[i]=w:=by simpa using (List.getElem?_eq_some_iff.mp hw).2
  refine⟨xs[i],by simp[hi'],?_⟩
  rw[e]
  exact uS rw' (List.all_eq_true.mp fx _ (List.getElem_mem hi'))
 refine call_meets PySem.F.slot_list_index ⟨_,e1,rfl⟩ PySem.F.entry_list_index (PySem.F.args_list_index_2 _ _)
  (SeqAt.list_indexAt a its.toArray n _ _ u (dJ y) j (by simpa using hj) ?_ ?_ ?_) ⟨e1,λw hw=>kX ru fy rv fx w (by simpa using hw),⟨.int j,H,I.tok _,⟨_,rfl⟩,q⟩⟩
 ·have:sizeLine<=2 ^ 40:=by decide
  have:(2:Int) ^ 63=9223372036854775808:=by decide
  have:(2:Nat) ^ 40=1099511627776:=by decide
  omega
 ·obtain⟨z',h1,h2⟩:=at_ j (by simpa using hj)
  rw[hz]at h1
  cases h1
  rw[h2]; exact ez
 ·intro i hi hij
  obtain⟨z',h1,h2⟩:=at_ i hi
  rw[h2]
  exact hno i z' hij h1
theorem sD (h:X.K=K):fA X "list.index" (Cu K):=by subst h; exact KR
end
section
open HT
variable {prog:Program}{w:World}{A:Around}{E:Value->Shared->Prop}{s:Shared}
theorem M4{t sl:Addr}{items:Array Value}{vl vu:Value}{lo hi:Option Int}{Q:Value->Shared->Prop}(ht:IsTup s.heap t items)(hs:s.heap.IsSliceOf sl vl vu .none)(pl:IsPart vl lo)(pu:IsPart vu hi)
 (hw:sIx items.size 0 lo=0/\sIx items.size items.size hi=items.size) (h:Q (.ref t) s):wpAny (model prog w) A (getItem (.ref t) (.ref sl)) Q E s:=by
 obtain⟨os,hos,hcs,hds⟩:=id hs
 have hTs:s.TypeIs (.ref sl) "slice":=⟨os,hos,hcs⟩
 unfold getItem
 try with_reducible refine wpAny_holding ?_
 first | refine wpAny_bind (wpAny_pure ?_) | skip
 refine wpAny_bind (wpAny_sequenceKey ht.typeIs (by decide) ?_)
 refine wpAny_bind (wpAny_callSpecial?_slot (name:=Str.ofString "__getitem__") ht.typeIs PyProof.Rows.slot_tuple_getitem
  (wpAny_call_entry PyProof.Rows.slot_tuple_getitem ht.typeIs entry_tuple_getitem ?_ (args_tuple_getitem _ _)))
 show wpAny _ _ (Builtin.Tuple.tupleItemsOf (.ref t) >>= _) _ _ s
 refine wpAny_bind (tupleItemsOf_ ht ?_)
 refine wpAny_bind (wpAny_typeOf hTs ?_)
 rw[if_pos (by decide)]
 refine wpAny_bind (zX hs pl pu ?_)
 have hyes:((((sIx items.size 0 lo:Nat):Int) == 0 && (1:Int) == 1 && (sIx items.size items.size hi - sIx items.size 0 lo) == items.size)=true):=by
  rw[hw.1,hw.2]
  simp
 show wpAny _ _ (if (((sIx items.size 0 lo:Nat):Int) == 0 && (1:Int) == 1 && (sIx items.size items.size hi - sIx items.size 0 lo) == items.size)=true then _ else _) _ _ s
 rw[if_pos hyes]
 unfold Builtin.Tuple.tupleIsExact
 refine wpAny_bind (wpAny_bind (wpAny_typeOf ht.typeIs (wpAny_pure ?_)))
 rw[if_pos (by decide)]
 refine wpAny_bind (wpAny_rule ?_)
 first
  | exact wpAny_pure ⟨_,rfl,wpAny_pure h⟩
  | exact wpAny_bind (wpAny_pure ⟨_,rfl,wpAny_pure h⟩)
  | exact wpAny_bind (wpAny_pure (wpAny_pure ⟨_,rfl,wpAny_pure h⟩))
end
section
variable {X:Cx}{K:W.Frag}{pos:Pos}
def Lb:TE:=λ_ H Q=>∀ p H',aZ H p (.dT []) H'->Q (.ref p) H'
theorem AH:QE X (.Dict [] [] pos) Lb:=⟨Jf.imp λσ H Q q=>λp hp=>q p _ (.mk' hp)⟩
def Cs(K:W.Frag):V->Option Int->Option Int->Hp->VK->Prop:=λx lo hi H Q=>match x with
 | .ref a=>∃ xs,bd K H a xs/\H a=some (.tup xs)/\∀ p H',af H H'->H' p=some (.tup (de xs lo hi))->Q (.ref p) H'
 | _=>False
theorem NG:ix X (Cs X.K):=by
 intro pins s σ H x v vl vu lo hi sl Q I rx hs pl pu q
 cases x with
 | ref a =>
  obtain⟨xs,h1,h2,q⟩:=q
  by_cases hw:HT.sIx xs.length 0 lo=0/\HT.sIx xs.length xs.length hi=xs.length
  ·cases rx
   obtain⟨its,r,ht,hz⟩:=I.tuple h1
   have hlen:its.toArray.size=xs.length:=by rw[List.size_toArray]; exact r.length.symm
   refine⟨"tuple",_,PyProof.Rows.slot_tuple_getitem.lookup,ht.typeIs,?_⟩
   refine M4 ht hs pl pu (by rw[hlen]; exact hw) ?_
   refine⟨.ref a,H,I,rfl,q a H (af.refl _) ?_⟩
   rw[h2]
   unfold de
   rw[hw.1,hw.2,List.drop_zero,List.take_of_length_le (by omega)]
  ·exact Go pins s σ H _ v vl vu lo hi sl Q I rx hs pl pu ⟨a,xs,rfl,h1,hw,λp hp=>q p _ (aZ.mk' hp).sm (aZ.mk' hp).at_⟩
 | _=>exact False.elim q
theorem Cm(h:X.K=K):ix X (Cs K):=by subst h; exact NG
end
structure yL (K:W.Frag) (Y f:Addr):Prop where
 sp:W.specialIn K (.ref Y) "__getattribute__" = some (some (.builtin "type.__getattribute__"))
 rd:W.readsIn K Y (.type "type")=true
 fc:W.findCls K (.ref Y) (.type "type") "__init__" = some (.val (.ref f))
structure yN (P:Program) (w:World) (K:W.Frag) (mg:Str->Option Value) (base:Heap) (j:Nat) (f:Addr) (fd:FuncData) (ps:List Str) (dvs:List V) (sp:Sp):Prop where
 kp:W.keepIn K (.ref f)=true
 b : ∃ ds,ao K fd ps ds/\aI dvs ds
 ok:bv P w K mg base bC j f fd ps sp
section
variable {X:Cx}{K:W.Frag}{Y g:Addr}{y:Str}{np apos pos:Pos}{a:Expr}{es:List Expr}{t:TA}{k j:Nat}{fd:FuncData}{ps:List Str}{sp:Sp}{dvs:List V}
theorem AJ{pl:Sem Bool}(h:X.K=K)(B:yL K Y g)(hm:X.mg y=some (.ref Y))(F:yN X.prog X.w X.K X.mg X.base j g fd ps dvs sp)(hr:bM k X.A)(ha:QA X (a :: es) t)(hj:j<=k:=by decide)(hg:Gl X y:=by rfl)(hd:(y == ("__debug__" : Str))=false:=by decide)(hn:di (a :: es)=true:=by rfl)
 (ht:eval (.Call (.Attribute (.Name y np) "__init__" apos) (a :: es) [] pos) X.env=(do
   let ov <- eval (.Name y np) X.env
   standAt apos.atName
   let (f,first) <- holding [ov] (getMethod ov "__init__" pl)
   callWith pos f first (backTo pos (starEach (a :: es) X.env)) (backToKw pos (keywordEach [] X.env))):=by rfl) :
 QE X (.Call (.Attribute (.Name y np) "__init__" apos) (a :: es) [] pos) (lQ sp dvs E0 t):=⟨by
 subst h
 intro pins s σ H Q I h
 have ho:PE X (.Name y np) (tC (.ref Y)):=(gP (v:=.ref Y) hg hm rfl hd).h
 refine W.methodCall_KW (pl:=pl) (ax (ho pins s σ H (λv H'=>v=.ref Y/\lQ sp dvs E0 t σ H' Q) I ⟨rfl,h⟩) λu s1 ⟨x,H1,I1,rx,ex,q⟩=>?_) ht
 subst ex
 obtain rfl:u=Value.ref Y:=rx
 refine W.method_cls I1.kIn B.sp (W.cls_value (s:=s1) I1.kIn B.rd B.fc rfl ?_)
 have I2:=I1.tok (s1.toks+1)
 obtain⟨ds,hb,hds⟩:=F.b
 refine W.callWith_K (h₀:=X.base) I2.ok.mod.kin F.kp (ax (ha.h pos pins { s1 with toks:=s1.toks+1 } σ H1 _ I2 q) λus s2 ⟨vs,H2,I3,r,q2⟩=>⟨I3.kIn,?_⟩) (cM (dI hn).1) (gQ (dI hn).2)
 exact nR F.ok (hr.mono hj) hb hds AV I3 r q2⟩
end
open PySem.AutoSeq1 (wpAny_loadPart')
open PySem.MeetsSeq
theorem LU(n:Int)(ns:List Int):cm (.int n) (ns.map V.int)=decide (n∈ns):=by
 induction ns with
 | nil=>rfl
 | cons m ns ih =>
  unfold cm at *
  rw[List.map_cons,List.any_cons,ih]
  simp only [db,List.mem_cons]
  by_cases e:m=n
  ·simp[e]
  ·have : ¬ n=m:=λz=>e z.symm
   simp[e,this]
section
variable {X:Cx}{o e:Expr}{apos cpos:Pos}{td ty:TE}
theorem AL (hu:X.A.units+64 < cLine) (ho:QE X o td) (he:QE X e ty) (hb:attributeBase o "get" X.env (eval o X.env)=eval o X.env:=by rfl)
 (hf:((backTo cpos (starEach [e] X.env)).all (λx=>!x.1) && (backToKw cpos (keywordEach [] X.env)).all (λx=>x.1.isSome)
   && decide (([e]:List Expr).length+([]:List Keyword).length+(if ([]:List Keyword).isEmpty then 0 else 1) < 30))=true:=by rfl)
 (hl:(apos.endLine == cpos.line)=true:=by rfl) (ht:backTo cpos (starEach [e] X.env)=[(false,eval e X.env)]:=by rfl) :
 QE X (.Call (.Attribute o "get" apos) [e] [] cpos) (zt td ty):=⟨Jh (by omega) ho.h he.h ⟨hb,hf,hl,ht⟩⟩
end
section
variable {X:Cx}{K:W.Frag}
def Rl(H:Hp)(y:V):Prop:=eS y=true\/∃ a zs,y=.ref a/\H a=some (.lst zs)
end
def strOf? : Value->Option Str
 | .str x _=>some x
 | _=>none
def refOf? : Value->Option Addr
 | .ref a=>some a
 | _=>none
theorem strOf?.eq{v:Value}{x:Str}(h:strOf? v=some x) : ∃ t,v=.str x t:=by
 cases v <;> first | (cases h; exact⟨_,rfl⟩) | cases h
theorem refOf?.eq{v:Value}{a:Addr}(h:refOf? v=some a):v=.ref a:=by
 cases v <;> first | (cases h; rfl) | cases h
def io:List DictEntry->Option (List (Int × Str × Addr))
 | []=>some []
 | e :: r=>(strOf? e.key).bind λx=>(refOf? e.val).bind λa=>(io r).map λl=>(e.hash,x,a) :: l
theorem io.pairs{P:Program}{w:World} : ∀ {es:List DictEntry} {m:List (Int × Str × Addr)},io es=some m->(∀ p∈m,p.1=hashStr w p.2.1) ->
 (∀ e∈es,∃ k,(cr P w).is k e.key=true/\e.hash=(cr P w).hash k)/\Pairs (cr P w) es (m.map λp=>((Sum.inr p.2.1:aP),Value.ref p.2.2))
 | [],m,h,_=>by cases h; exact⟨λ_ z=>(nomatch z),.nil⟩
 | e :: r,m,h,hs=>by
  unfold io at h
  obtain⟨x,hx,h⟩:=Option.bind_eq_some_iff.mp h
  obtain⟨a,ha,h⟩:=Option.bind_eq_some_iff.mp h
  obtain⟨l,hl,h⟩:=Option.map_eq_some_iff.mp h
  subst h
  obtain⟨tk,ek⟩:=strOf?.eq hx
  obtain⟨i1,i2⟩:=io.pairs (P:=P) (w:=w) hl λp hp=>hs p (List.mem_cons_of_mem _ hp)
  have kk:(cr P w).is (.inr x) e.key=true:=by rw[ek]; exact Bg P w x tk
  refine⟨λe' he=>?_,.cons kk (refOf?.eq ha) i2⟩
  rcases List.mem_cons.mp he with rfl | he
  ·exact⟨.inr x,kk,hs _ List.mem_cons_self⟩
  ·exact i1 e' he
structure nu (K:W.Frag) (w:World) (a:Addr) (m:List (Int × Str × Addr)):Prop where
 ex : ∃ es ep,K.lookup a=some ⟨.type "dict",none,.dict es ep,#[]⟩/\io es.toList=some m
 hs : ∀ p∈m,p.1=hashStr w p.2.1
 nd:(m.map (·.2.1)).Nodup
 ns:(a == sysModules)=false
theorem nu.rd{K:W.Frag}{a:Addr}{m:List (Int × Str × Addr)}{P:Program}{w:World}{h:Heap}(D:nu K w a m)(X:K.In h):h.DictOf (cr P w) a (m.map λp=>((Sum.inr p.2.1:aP),Value.ref p.2.2)):=by
 obtain⟨es,ep,l,e⟩:=D.ex
 obtain⟨i1,i2⟩:=io.pairs (P:=P) (w:=w) e D.hs
 refine⟨_,es,ep,X _ _ l,⟨rfl,rfl,rfl⟩,rfl,λe he=>i1 e (Array.mem_toList_iff.mpr he),i2,?_⟩
 rw[List.map_map]
 have:(((λx=>x.1) ∘ λp:Int × Str × Addr=>((Sum.inr p.2.1:aP),Value.ref p.2.2)):Int × Str × Addr->aP)=(λi:Str=>(Sum.inr i:aP)) ∘ (·.2.1):=rfl
 rw[this,<- List.map_map]
 exact List.Pairwise.map _ (λa b (z:a≠b) (q:(Sum.inr a:aP)=Sum.inr b)=>z (Sum.inr.inj q)) D.nd
def gw(m:List (Int × Str × Addr))(z:Str):Option Addr:=(m.find? λp=>decide (p.2.1=z)).map (·.2.2)
theorem sW : ∀ (m:List (Int × Str × Addr)) (z:Str),valueAt (m.map λp=>((Sum.inr p.2.1:aP),Value.ref p.2.2)) (Sum.inr z)=(gw m z).map Value.ref
 | [],z=>rfl
 | p :: m,z=>by
  have ih:=sW m z
  unfold gw valueAt at ih ⊢
  rw[List.map_cons,List.find?_cons,List.find?_cons]
  by_cases c:p.2.1=z
  ·have c':(Sum.inr p.2.1:aP)=Sum.inr z:=congrArg _ c
   simp only [decide_eq_true c,decide_eq_true c',Option.map_some]
  ·have c' : ¬ (Sum.inr p.2.1:aP)=Sum.inr z:=λq=>c (Sum.inr.inj q)
   simp only [decide_eq_false c,decide_eq_false c']
   exact ih
def Og(a:Addr)(m:List (Int × Str × Addr))(neg:Bool):R2:=λx y H Q=>∃ z,x=.str z/\y=.ref a/\Q (.bl (if neg then !(gw m z).isSome else (gw m z).isSome)) H
section
variable {X:Cx}{K:W.Frag}{w:World}{a:Addr}{m:List (Int × Str × Addr)}
theorem NM(h:X.K=K)(hw:X.w=w)(D:nu K w a m):aW X (compareOp .NotIn) (Og a m true):=by
 subst h hw
 intro pins s σ H x y v u Q I rx ry q
 obtain⟨z,rfl,rfl,q⟩:=q
 obtain rfl:u=Value.ref a:=ry
 refine wpAny_notIn_of (gT (k:=.inr z) rx) D.ns (D.rd (P:=X.prog) (w:=X.w) I.kIn).mapOf ?_
 rw[sW,Option.isSome_map]
 exact⟨.bl _,H,I.tok _,rfl,q⟩
theorem HY{i:Expr}{ti:TE}{x:Str}{p pos:Pos}(h:X.K=K)(hw:X.w=w)(D:nu K w a m)(hg:Gl X x)(hm:X.mg x=some (.ref a))(hi:QE X i ti)(hs:rm i:=by intro _ _; rfl)(hd:(x == ("__debug__" : Str))=false:=by decide) :
 QE X (.Subscript (.Name x p) i pos) (λσ H Q=>ti σ H λy H1=>∃ z b,y=.str z/\gw m z=some b/\Q (.ref b) H1):=⟨by
 subst h hw
 intro pins s σ H Q I h
 have ho:PE X (.Name x p) (tC (.ref a)):=(gP (v:=.ref a) hg hm rfl hd).h
 refine zy PySem.F.slot_dict_getitem.lookup hs (ax (ho pins s σ H (λv H'=>v=.ref a/\ti σ H' λy H1=>∃ z b,y=.str z/\gw m z=some b/\Q (.ref b) H1) I ⟨rfl,h⟩) λu s1 ⟨x,H1,I1,rx,ex,q1⟩=>ax (hi.h pins s1 σ H1 _ I1 q1) λiv s2 ⟨y,H2,I2,ry,z,b,ey,g,q2⟩=>?_)
 subst ex ey
 obtain rfl:u=Value.ref a:=rx
 have dd:=D.rd (P:=X.prog) (w:=X.w) I2.kIn
 exact⟨dd.typeIs,wpAny_getItem_of (gT (k:=.inr z) ry) dd.mapOf (by rw[sW,g]; rfl) ⟨.ref b,H2,I2.tok _,rfl,q2⟩⟩⟩
end
structure SV (P:Program) (w:World) (K:W.Frag) (mg:Str->Option Value) (base:Heap) (x:Str) (k:Nat) (f:Addr) (fd:FuncData) (ps:List Str) (dvs:List V) (sp:Sp):Prop where
 g:mg x=some (.ref f)
 kp:W.keepIn K (.ref f)=true
 b : ∃ ds,ao K fd ps ds/\aI dvs ds
 ok:bv P w K mg base bC k f fd ps sp
def gk:List Value->Option (List Addr)
 | []=>some []
 | .ref m :: u=>(match gk u with | some l=>some (m :: l) | none=>none)
 | _=>none
theorem gk.vals : ∀ {us:List Value} {ns:List Addr},gk us=some ns->aI (ns.map V.ref) us
 | [],ns,h=>by cases h; exact .nil
 | .ref m :: u,ns,h=>by
  unfold gk at h
  cases q:gk u with
  | none=>rw[q]at h; cases h
  | some l=>rw[q]at h; cases h; exact .cons rfl (gk.vals q)
theorem y6 {K:W.Frag} {a:Addr} {od:Option Addr} {its:Array Value} {n:Nat} {sl:Array (Option Value)} {ns:List Addr} (h:K.lookup a=some ⟨.type "tuple",od,.seq its n,sl⟩) (hv:gk its.toList=some ns) (hz:its.size<=1000:=by decide) (H:Hp):bd K H a (ns.map V.ref) :=
 .inr ⟨_,its,n,h,rfl,rfl,sz (Nat.ble_eq_true_of_le hz),gk.vals hv⟩
end L2
namespace L2
open PySem
theorem OS{lo c:Int}{n:Nat}{cs:St}{tt:TT}{te:TE}{H:Hp}{Q:VK}(Pv:Nat->List V->Hp->Prop)(h0:Pv 0 [] H)(hl : ∀ i ys H,i<=n->Pv i ys H->ys.length<=i)(hz:n<=sizeLine)
 (hs : ∀ i ys H (N:List V->Hp->Prop),i < n->Pv i ys H->(∀ ys' H',Pv (i+1) ys' H'->N ys' H')->tt (some (.int (lo+i*c)) :: cs) H λb H4=>if b=true then te (some (.int (lo+i*c)) :: cs) H4 λy H5=>N (ys++[y]) H5 else N ys H4)
 (hd : ∀ ys H p H',Pv n ys H->aZ H p (.lst ys) H'->Q (.ref p) H') :
 iC (rp lo c n) H (List.replicate 1 none++cs) (cO 0) tt te Q:=by
 refine⟨λi m ys σ H=>m=n - i/\i<=n/\Pv i ys H/\∃ v0,σ=v0 :: cs,⟨n,by simp,Nat.zero_le _,h0,none,rfl⟩,?_⟩
 rintro i m ys σ H2 ⟨rfl,hi,p,v0,rfl⟩
 have ql:=hl i ys H2 hi p
 by_cases hlt:i < n
 ·refine .inr ⟨hlt,by omega,λys' σ' H'=>Pv (i+1) ys' H'/\∃ v0,σ'=v0 :: cs,λys' σ' H' ⟨p',e⟩=>⟨n - (i+1),by omega,rfl,hlt,p',e⟩,λx H' y=>?_⟩
  obtain⟨e,y⟩:=y
  subst e y
  exact hs i ys H' (λys' H'=>Pv (i+1) ys' H'/\∃ v0,some (V.int (lo+i*c)) :: cs=v0 :: cs) hlt p λ_ _ z=>⟨z,_,rfl⟩
 ·have e:i=n:=by omega
  subst e
  exact .inl ⟨Nat.le_refl _,by omega,λp' H' g=>hd ys H2 p' H' p g⟩
theorem OR{lo c:Int}{n:Nat}{cs:St}{te:TE}{H:Hp}{Q:VK}(rs:List V)(hl:rs.length=n)(hz:n<=sizeLine)
 (hs : ∀ (i:Nat) y H' (N:VK),i < n->rs[i]? = some y->af H H'->(∀ H'',af H' H''->N y H'')->te (some (.int (lo+i*c)) :: cs) H' N) (hd : ∀ p H',aZ H p (.lst rs) H'->Q (.ref p) H') :
 iC (rp lo c n) H (List.replicate 1 none++cs) (cO 0) fV te Q:=by
 refine OS (λi ys H'=>af H H'/\ys=rs.take i) ⟨af.refl _,rfl⟩ (λi ys H' hi z=>by rw[z.2,List.length_take]; omega) hz (λi ys H' N hi z hN=>?_) λys H' p H'' z g=>?_
 ·obtain⟨s,rfl⟩:=z
  have hi':i < rs.length:=by omega
  have hy:rs[i]? = some rs[i]:=List.getElem?_eq_getElem hi'
  simp only [fV,if_true]
  exact hs i _ H' _ hi hy s λH'' s'=>hN _ _ ⟨s.trans s',by rw[ff hy]⟩
 ·obtain⟨s,rfl⟩:=z
  rw[<- hl,List.take_length]at g
  exact hd p H'' (g.after s)
end L2
namespace My
open PySem L2
def top(i:Nat):Stmt:=PySem.Challenge.pw_bytetongue_k74_whole_seen_and_back.main.body.getD i (.Pass ⟨0,0,0,0⟩)
abbrev jQ:Stmt:=top 10
abbrev jT:Stmt:=top 11
abbrev jR:Stmt:=top 12
abbrev jN:Stmt:=top 13
abbrev jP:Stmt:=top 14
abbrev jO:Stmt:=top 15
abbrev iK:Stmt:=top 16
abbrev iJ:Stmt:=top 17
abbrev jD:Stmt:=top 26
abbrev jE:Stmt:=top 27
abbrev kr:Stmt:=bt (top 31) 0
abbrev ko:Stmt:=bt (top 31) 1
abbrev j0:Stmt:=bt (top 29) 0
abbrev km:Stmt:=bt (top 32) 0
abbrev j1:Stmt:=bt (top 29) 2
abbrev jC:Stmt:=top 33
abbrev j2:Stmt:=bt (top 37) 0
abbrev kF:Stmt:=bt (top 39) 0
abbrev kE:Stmt:=bt (top 39) 1
abbrev iM:Stmt:=bt (top 40) 0
abbrev kz:Stmt:=bt (top 35) 0
abbrev kQ:Stmt:=bt (top 42) 0
abbrev kP:Stmt:=bt (top 42) 1
abbrev kB:Stmt:=bt (top 35) 4
abbrev kA:Stmt:=bt (top 35) 7
abbrev kD:Stmt:=bt (top 35) 8
abbrev kt:Stmt:=bt (top 35) 9
abbrev ky:Stmt:=bt (top 35) 10
abbrev kx:Stmt:=bt (top 35) 11
abbrev ku:Stmt:=bt (top 35) 13
abbrev jX:Stmt:=top 44
abbrev jJ:Stmt:=top 45
abbrev jG:Stmt:=top 46
abbrev j4:Stmt:=bt (top 48) 1
abbrev j5:Stmt:=bt (top 48) 3
abbrev j3:Stmt:=bt (top 48) 4
abbrev j7:Stmt:=bt (top 48) 5
abbrev j6:Stmt:=bt (top 48) 6
abbrev jL:Stmt:=top 55
abbrev iI:Stmt:=top 56
abbrev jM:Stmt:=top 57
abbrev jY:Stmt:=top 58
abbrev jU:Stmt:=top 59
abbrev jK:Stmt:=top 60
abbrev iL:Stmt:=top 61
abbrev kO:Stmt:=bt (top 62) 1
abbrev kN:Stmt:=bt (top 62) 2
abbrev iO:Stmt:=bt (top 62) 3
abbrev jF:Stmt:=top 67
abbrev jH:Stmt:=top 68
abbrev kL:Stmt:=bt (top 69) 0
abbrev kH:Stmt:=bt (top 69) 1
abbrev kI:Stmt:=bt (top 69) 3
abbrev kK:Stmt:=bt (top 69) 4
abbrev iN:Stmt:=bt (top 69) 5
abbrev kJ:Stmt:=bt (top 69) 6
abbrev kG:Stmt:=bt (top 69) 7
abbrev kM:Stmt:=bt (top 69) 8
abbrev jZ:Stmt:=top 71
abbrev jI:Stmt:=top 75
abbrev kj:Stmt:=bt (top 76) 0
abbrev ki:Stmt:=bt (top 76) 1
abbrev kg:Stmt:=bt (top 76) 6
abbrev kh:Stmt:=bt (top 76) 7
abbrev kf:Stmt:=bt (top 76) 8
abbrev kl:Stmt:=bt (top 76) 9
abbrev jS:Stmt:=top 80
abbrev jV:Stmt:=top 81
abbrev jW:Stmt:=top 82
abbrev ka:Stmt:=bt (top 83) 0
abbrev ke:Stmt:=bt (top 83) 1
abbrev j9:Stmt:=bt (top 83) 4
abbrev j8:Stmt:=bt (top 83) 5
abbrev kc:Stmt:=bt (top 83) 6
abbrev jA:Stmt:=top 85
abbrev jx:Stmt:=top 87
abbrev jz:Stmt:=top 88
abbrev jB:Stmt:=top 89
abbrev ia:Stmt:=top 90
abbrev iH:Stmt:=top 91
abbrev jw:Stmt:=top 92
abbrev iG:Stmt:=top 93
abbrev jy:Stmt:=top 95
abbrev jv:Stmt:=top 96
abbrev jr:Stmt:=top 97
abbrev gM:Stmt:=top 98
abbrev ju:Stmt:=top 99
abbrev js:Stmt:=top 100
abbrev jt:Stmt:=top 101
abbrev jq:Stmt:=top 102
abbrev gN:Stmt:=top 103
theorem GI:aB ["thing"] ["thing"] (ag jQ):=by constructor<;>first|rfl|decide +kernel
theorem GL:aB ["thing"] ["thing"] (ag jT):=by constructor<;>first|rfl|decide +kernel
theorem GJ:aB ["number"] ["number"] (ag jR):=by constructor<;>first|rfl|decide +kernel
theorem GD:aB ["number"] ["number"] (ag jN):=by constructor<;>first|rfl|decide +kernel
theorem GF:aB ["thing"] ["thing"] (ag jP):=by constructor<;>first|rfl|decide +kernel
theorem GE:aB ["thing"] ["thing"] (ag jO):=by constructor<;>first|rfl|decide +kernel
theorem GH:aB ["thing"] ["thing"] (ag iK):=by constructor<;>first|rfl|decide +kernel
theorem GG:aB ["thing"] ["thing"] (ag iJ):=by constructor<;>first|rfl|decide +kernel
theorem jp:aB ["tongue", "text", "page", "row", "at", "sign", "spelled"] ["tongue", "text", "page"] (ag jD):=by constructor<;>first|rfl|decide +kernel
theorem Gz:aB ["tongue", "text"] ["tongue", "text"] (ag jE):=by constructor<;>first|rfl|decide +kernel
theorem G3:aB ["self", "tongue"] ["self", "tongue"] (ag kr):=by constructor<;>first|rfl|decide +kernel
theorem Al:aB ["self", "sign", "page"] ["self", "sign", "page"] (ag ko):=by constructor<;>first|rfl|decide +kernel
theorem GR:aB ["self", "tongue"] ["self", "tongue"] (ag j0):=by constructor<;>first|rfl|decide +kernel
theorem G2:aB ["self", "tongue"] ["self", "tongue"] (ag km):=by constructor<;>first|rfl|decide +kernel
theorem Af:aB ["self", "text", "written"] ["self", "text"] (ag j1):=by constructor<;>first|rfl|decide +kernel
theorem Gy:aB ["tongue", "text"] ["tongue", "text"] (ag jC):=by constructor<;>first|rfl|decide +kernel
theorem GS:aB ["self", "row"] ["self", "row"] (ag j2):=by constructor<;>first|rfl|decide +kernel
theorem Ha:aB ["self", "sign"] ["self", "sign"] (ag kF):=by constructor<;>first|rfl|decide +kernel
theorem G9:aB ["self", "row"] ["self", "row"] (ag kE):=by constructor<;>first|rfl|decide +kernel
theorem G4:aB ["self", "row"] ["self", "row"] (ag iM):=by constructor<;>first|rfl|decide +kernel
theorem G7:aB ["self", "tongue", "place"] ["self", "tongue", "place"] (ag kz):=by constructor<;>first|rfl|decide +kernel
theorem Hj:aB ["self", "tongue", "way", "place"] ["self", "tongue", "way", "place"] (ag kQ):=by constructor<;>first|rfl|decide +kernel
theorem nQ:aB ["self", "length", "kind", "told"] ["self", "length", "kind"] (ag kP):=by constructor<;>first|rfl|decide +kernel
theorem G8:aB ["self"] ["self"] (ag kB):=by constructor<;>first|rfl|decide +kernel
theorem sf:aB ["self", "row", "signs", "byte"] ["self", "row"] (ag kA):=by constructor<;>first|rfl|decide +kernel
theorem Am:aB ["self", "signs"] ["self"] (ag kD):=by constructor<;>first|rfl|decide +kernel
theorem G5:aB ["self", "byte"] ["self", "byte"] (ag kt):=by constructor<;>first|rfl|decide +kernel
theorem lW:aB ["self", "found"] ["self"] (ag ky):=by constructor<;>first|rfl|decide +kernel
theorem nP:aB ["self", "ahead_of_last"] ["self"] (ag kx):=by constructor<;>first|rfl|decide +kernel
theorem G6:aB ["self", "length", "kind"] ["self", "length", "kind"] (ag ku):=by constructor<;>first|rfl|decide +kernel
theorem GN:aB ["number", "bits"] ["number", "bits"] (ag jX):=by constructor<;>first|rfl|decide +kernel
theorem lU:aB ["number", "bits", "many", "rising", "step", "higher"] ["number", "bits", "many"] (ag jJ):=by constructor<;>first|rfl|decide +kernel
theorem nN:aB ["parts", "bits", "number", "part"] ["parts", "bits"] (ag jG):=by constructor<;>first|rfl|decide +kernel
theorem GU:aB ["self"] ["self"] (ag j4):=by constructor<;>first|rfl|decide +kernel
theorem GV:aB ["self", "sign", "page"] ["self", "sign", "page"] (ag j5):=by constructor<;>first|rfl|decide +kernel
theorem GT:aB ["self", "row", "page"] ["self", "row", "page"] (ag j3):=by constructor<;>first|rfl|decide +kernel
theorem GW:aB ["self", "row", "page"] ["self", "row", "page"] (ag j7):=by constructor<;>first|rfl|decide +kernel
theorem Ag:aB ["self", "begun", "page", "found"] ["self", "begun", "page"] (ag j6):=by constructor<;>first|rfl|decide +kernel
theorem GB:aB ["sign"] ["sign"] (ag jL):=by constructor<;>first|rfl|decide +kernel
theorem rY:aB ["sign", "length", "parts"] ["sign"] (ag iI):=by constructor<;>first|rfl|decide +kernel
theorem GC:aB ["first"] ["first"] (ag jM):=by constructor<;>first|rfl|decide +kernel
theorem GP:aB ["row", "place"] ["row", "place"] (ag jY):=by constructor<;>first|rfl|decide +kernel
theorem rZ:aB ["row", "place", "bounds"] ["row"] (ag jU):=by constructor<;>first|rfl|decide +kernel
theorem Ae:aB ["row", "lack"] ["row"] (ag jK):=by constructor<;>first|rfl|decide +kernel
theorem GO:aB ["row"] ["row"] (ag iL):=by constructor<;>first|rfl|decide +kernel
theorem Hi:aB ["self", "sign", "page"] ["self", "sign", "page"] (ag kO):=by constructor<;>first|rfl|decide +kernel
theorem Hh:aB ["self", "row", "page"] ["self", "row", "page"] (ag kN):=by constructor<;>first|rfl|decide +kernel
theorem Ap:aB ["self", "row", "page", "lack"] ["self", "row", "page"] (ag iO):=by constructor<;>first|rfl|decide +kernel
theorem Ad:aB ["sign", "parts"] ["sign"] (ag jF):=by constructor<;>first|rfl|decide +kernel
theorem GA:aB ["units"] ["units"] (ag jH):=by constructor<;>first|rfl|decide +kernel
theorem Hg:aB ["self", "order"] ["self", "order"] (ag kL):=by constructor<;>first|rfl|decide +kernel
theorem Hd:aB ["self"] ["self"] (ag kH):=by constructor<;>first|rfl|decide +kernel
theorem He:aB ["self", "pair"] ["self", "pair"] (ag kI):=by constructor<;>first|rfl|decide +kernel
theorem si:aB ["self", "units", "row", "number"] ["self", "units"] (ag kK):=by constructor<;>first|rfl|decide +kernel
theorem Hc:aB ["self", "row"] ["self", "row"] (ag iN):=by constructor<;>first|rfl|decide +kernel
theorem Hf:aB ["self", "sign", "page"] ["self", "sign", "page"] (ag kJ):=by constructor<;>first|rfl|decide +kernel
theorem An:aB ["self", "row", "page", "sign"] ["self", "row", "page"] (ag kG):=by constructor<;>first|rfl|decide +kernel
theorem Ao:aB ["self", "row", "page", "rest"] ["self", "row", "page"] (ag kM):=by constructor<;>first|rfl|decide +kernel
theorem GQ:aB ["one", "other"] ["one", "other"] (ag jZ):=by constructor<;>first|rfl|decide +kernel
theorem nO:aB ["signs", "which", "places", "place", "sign"] ["signs", "which"] (ag jI):=by constructor<;>first|rfl|decide +kernel
theorem G0:aB ["self", "first", "second"] ["self", "first", "second"] (ag kj):=by constructor<;>first|rfl|decide +kernel
theorem sd:aB ["self", "page", "place", "sign"] ["self", "page"] (ag ki):=by constructor<;>first|rfl|decide +kernel
theorem GY:aB ["self", "sign", "page"] ["self", "sign", "page"] (ag kg):=by constructor<;>first|rfl|decide +kernel
theorem GZ:aB ["self", "byte", "page"] ["self", "byte", "page"] (ag kh):=by constructor<;>first|rfl|decide +kernel
theorem r9:aB ["self", "row", "page", "sign"] ["self", "row", "page"] (ag kf):=by constructor<;>first|rfl|decide +kernel
theorem G1:aB ["self", "row", "page"] ["self", "row", "page"] (ag kl):=by constructor<;>first|rfl|decide +kernel
theorem GK:aB ["thing"] ["thing"] (ag jS):=by constructor<;>first|rfl|decide +kernel
theorem GM:aB ["one", "other"] ["one", "other"] (ag jV):=by constructor<;>first|rfl|decide +kernel
theorem lV:aB ["rows", "other", "entry", "one", "earlier"] ["rows"] (ag jW):=by constructor<;>first|rfl|decide +kernel
theorem Ai:aB ["self", "rows", "entry"] ["self", "rows"] (ag ka):=by constructor<;>first|rfl|decide +kernel
theorem Ak:aB ["self", "sign", "row", "size"] ["self", "sign", "row"] (ag ke):=by constructor<;>first|rfl|decide +kernel
theorem GX:aB ["self", "sign", "page"] ["self", "sign", "page"] (ag j9):=by constructor<;>first|rfl|decide +kernel
theorem Ah:aB ["self", "row", "page", "sign"] ["self", "row", "page"] (ag j8):=by constructor<;>first|rfl|decide +kernel
theorem Aj:aB ["self", "row", "page", "rest"] ["self", "row", "page"] (ag kc):=by constructor<;>first|rfl|decide +kernel
theorem Gx:aB ["_law_script", "_law_at"] ["_law_script", "_law_at"] (ag jA):=by constructor<;>first|rfl|decide +kernel
theorem Ab:aB ["_law_number", "_law_k"] ["_law_number", "_law_k"] (ag jx):=by constructor<;>first|rfl|decide +kernel
theorem nM:aB ["_law_number", "_law_sign"] ["_law_number"] (ag jz):=by constructor<;>first|rfl|decide +kernel
theorem Ac:aB ["_law_number", "_law_edges"] ["_law_number"] (ag jB):=by constructor<;>first|rfl|decide +kernel
theorem jo:aB ["_law_number", "_law_sizes", "_law_base", "_law_first", "_law_second"] ["_law_number"] (ag ia):=by constructor<;>first|rfl|decide +kernel
theorem h9:aB ["_law_number", "_law_signs", "_law_rows", "_law_k", "_law_far", "_law_row_here"] ["_law_number"] (ag iH):=by constructor<;>first|rfl|decide +kernel
theorem jn:aB ["_law_cell", "_law_number", "_law_first", "_law_second", "_law_signs", "_law_rows"] ["_law_cell"] (ag jw):=by constructor<;>first|rfl|decide +kernel
theorem nK:aB ["_law_model_here", "_law_word", "_law_first", "_law_second"] ["_law_model_here"] (ag iG):=by constructor<;>first|rfl|decide +kernel
theorem Gw:aB ["_law_sign"] ["_law_sign"] (ag jy):=by constructor<;>first|rfl|decide +kernel
theorem iF:aB ["_law_sign", "_law_word", "_law_units", "_law_row_here", "_law_number"] ["_law_sign", "_law_word"] (ag jv):=by constructor<;>first|rfl|decide +kernel
theorem nL:aB ["_law_model_here", "_law_sign", "_law_page", "_law_word", "_law_first", "_law_second"] ["_law_model_here", "_law_sign", "_law_page"] (ag jr):=by constructor<;>first|rfl|decide +kernel
theorem jl:aB ["_law_model_here", "_law_cells", "_law_word", "_law_first", "_law_second", "_law_some"] ["_law_model_here", "_law_cells"] (ag gM):=by constructor<;>first|rfl|decide +kernel
theorem iE:aB ["_law_row_here", "_law_cell", "_law_pieces_here", "_law_at", "_law_number", "_law_size"] ["_law_row_here", "_law_cell"] (ag ju):=by constructor<;>first|rfl|decide +kernel
theorem eI:aB ["_law_model_here", "_law_cells", "_law_edges", "_law_text_here", "_law_row_here", "_law_page", "_law_k", "_law_cell", "_law_way", "_law_part", "_law_after"] ["_law_model_here", "_law_cells"] (ag js):=by constructor<;>first|rfl|decide +kernel
theorem jm:aB ["_law_reader", "_law_other", "_law_pieces_here", "_law_found", "_law_beside", "_law_piece"] ["_law_reader", "_law_other", "_law_pieces_here"] (ag jt):=by constructor<;>first|rfl|decide +kernel
theorem lT:aB ["_law_tongue_here", "_law_text_here", "_law_cell", "_law_writer", "_law_found", "_law_piece"] ["_law_tongue_here", "_law_text_here", "_law_cell"] (ag jq):=by constructor<;>first|rfl|decide +kernel
theorem dZ:aB ["_law_script", "_law_model_here", "_law_row_here", "_law_tongue_here", "_law_pieces_here", "_law_seer", "_law_putter", "_law_seen", "_law_put", "_law_text_here", "_law_leaver", "_law_signs", "_law_passed"] ["_law_script"] (ag gN):=by constructor<;>first|rfl|decide +kernel
set_option genInjectivity false in
structure Adr where
 xV:Addr
 uj:FuncData
 xY:Addr
 um:FuncData
 xW:Addr
 uk:FuncData
 xQ:Addr
 ue:FuncData
 xS:Addr
 ug:FuncData
 xR:Addr
 uf:FuncData
 xU:Addr
 ui:FuncData
 xT:Addr
 uh:FuncData
 xE:Addr
 tU:FuncData
 xF:Addr
 tV:FuncData
 ym:Addr
 uG:FuncData
 qY:Addr
 pD:FuncData
 yc:Addr
 uz:FuncData
 yl:Addr
 uF:FuncData
 yd:Addr
 uA:FuncData
 xD:Addr
 tT:FuncData
 ye:Addr
 uB:FuncData
 yy:Addr
 pG:FuncData
 ud_Put_init_0:Tok
 yw:Addr
 uN:FuncData
 yn:Addr
 uH:FuncData
 yq:Addr
 pF:FuncData
 ud_Reader_init_0:Tok
 m6:Addr
 lB:FuncData
 ud_GoingReader_init_0:Tok
 ri:Addr
 pH:FuncData
 yt:Addr
 uL:FuncData
 yr:Addr
 uK:FuncData
 yu:Addr
 uM:FuncData
 yo:Addr
 uI:FuncData
 m4:Addr
 mI:FuncData
 qZ:Addr
 pE:FuncData
 yp:Addr
 uJ:FuncData
 x8:Addr
 ut:FuncData
 xK:Addr
 t0:FuncData
 xH:Addr
 tX:FuncData
 gA:Addr
 i4:FuncData
 yg:Addr
 pz:FuncData
 ud_Tongue_spell_0:Tok
 yf:Addr
 ph:FuncData
 ud_Tongue_whole_0:Tok
 yh:Addr
 pA:FuncData
 ud_Tongue_fill_0:Tok
 fO:Addr
 gZ:FuncData
 ud_Tongue_look_0:Tok
 xM:Addr
 ua:FuncData
 xO:Addr
 ud:FuncData
 xN:Addr
 uc:FuncData
 ya:Addr
 uv:FuncData
 xZ:Addr
 uo:FuncData
 xL:Addr
 t5:FuncData
 x9:Addr
 uu:FuncData
 rg:Addr
 mO:FuncData
 ud_LeadTongue_spell_0:Tok
 rf:Addr
 mN:FuncData
 ud_LeadTongue_whole_0:Tok
 rh:Addr
 mP:FuncData
 ud_LeadTongue_fill_0:Tok
 xG:Addr
 tW:FuncData
 xI:Addr
 tY:FuncData
 rc:Addr
 mL:FuncData
 ud_PairTongue_init_0:Tok
 yA:Addr
 uP:FuncData
 yB:Addr
 uQ:FuncData
 yC:Addr
 uR:FuncData
 yz:Addr
 uO:FuncData
 q9:Addr
 mK:FuncData
 ud_PairTongue_spell_0:Tok
 q8:Addr
 mJ:FuncData
 ud_PairTongue_whole_0:Tok
 re:Addr
 mM:FuncData
 ud_PairTongue_fill_0:Tok
 yb:Addr
 uw:FuncData
 xJ:Addr
 tZ:FuncData
 qW:Addr
 pC:FuncData
 yk:Addr
 uE:FuncData
 qV:Addr
 mG:FuncData
 ud_ShiftTongue_spell_0:Tok
 yj:Addr
 uD:FuncData
 qU:Addr
 mF:FuncData
 ud_ShiftTongue_whole_0:Tok
 qX:Addr
 mH:FuncData
 ud_ShiftTongue_fill_0:Tok
 xX:Addr
 ul:FuncData
 x5:Addr
 uq:FuncData
 x6:Addr
 ur:FuncData
 qS:Addr
 pB:FuncData
 yi:Addr
 uC:FuncData
 qR:Addr
 mD:FuncData
 ud_TableTongue_spell_0:Tok
 qQ:Addr
 mC:FuncData
 ud_TableTongue_whole_0:Tok
 qT:Addr
 mE:FuncData
 ud_TableTongue_fill_0:Tok
 xB:Addr
 tR:FuncData
 xx:Addr
 tM:FuncData
 xA:Addr
 tQ:FuncData
 xC:Addr
 tS:FuncData
 xy:Addr
 tO:FuncData
 xp:Addr
 tF:FuncData
 xw:Addr
 tL:FuncData
 xn:Addr
 tD:FuncData
 xz:Addr
 tP:FuncData
 xv:Addr
 tK:FuncData
 xq:Addr
 tG:FuncData
 xo:Addr
 tE:FuncData
 xu:Addr
 tJ:FuncData
 xr:Addr
 tH:FuncData
 xt:Addr
 tI:FuncData
 xm:Addr
 tB:FuncData
 xP:Addr
 o9:FuncData
 dL:Addr
 eW:Addr
 fN:Addr
 df:Addr
 fM:Addr
 bu:Addr
 dW:Addr
 dX:Addr
 cw:Addr
 bL:Addr
 bW:Addr
 C9:Addr
 Da:Addr
 Ox:Addr
 EU:Tok
 ET:Tok
 yD:Addr
 h_FILLS_0:Int
 a_FILLS_0:Addr
 a_FILLS_0_0:Addr
 a_FILLS_0_1:Addr
 a_FILLS_0_2:Addr
 a_FILLS_0_3:Addr
 a_FILLS_0_4:Addr
 h_FILLS_1:Int
 a_FILLS_1:Addr
 a_FILLS_1_0:Addr
 a_FILLS_1_1:Addr
 a_FILLS_1_2:Addr
 a_FILLS_1_3:Addr
 a_FILLS_1_4:Addr
 ES:Tok
 ER:Tok
 EQ:Tok
 EO:Tok
 EN:Tok
 EM:Tok
 EL:Tok
 EK:Tok
 EJ:Tok
 EI:Tok
 EH:Tok
 m5:Addr
 EG:Tok
 EF:Tok
 EE:Tok
 Du:Addr
 a_SECONDS_0:Addr
 a_SECONDS_1:Addr
 a_SECONDS_2:Addr
 a_SECONDS_3:Addr
 a_SECONDS_4:Addr
 lE:Addr
structure Txt (w:World) (K:PySem.W.Frag) (mg:Str->Option Value) (t:Adr):Prop where
 Ea:aO K "is_number" "is_number" jQ t.xV t.uj
 Qb:ao K t.uj ["thing"] []
 NZ:mg "is_number" = some (.ref t.xV)
 Ee:aO K "is_byte" "is_byte" jT t.xY t.um
 Qe:ao K t.um ["thing"] []
 N3:mg "is_byte" = some (.ref t.xY)
 Ec:aO K "is_head" "is_head" jR t.xW t.uk
 Qc:ao K t.uk ["number"] []
 N0:mg "is_head" = some (.ref t.xW)
 D5:aO K "is_tail" "is_tail" jN t.xQ t.ue
 P6:ao K t.ue ["number"] []
 NU:mg "is_tail" = some (.ref t.xQ)
 D7:aO K "is_seen_byte" "is_seen_byte" jP t.xS t.ug
 P8:ao K t.ug ["thing"] []
 NW:mg "is_seen_byte" = some (.ref t.xS)
 D6:aO K "is_sign" "is_sign" jO t.xR t.uf
 P7:ao K t.uf ["thing"] []
 NV:mg "is_sign" = some (.ref t.xR)
 D9:aO K "is_row" "is_row" iK t.xU t.ui
 Qa:ao K t.ui ["thing"] []
 NY:mg "is_row" = some (.ref t.xU)
 D8:aO K "is_seen" "is_seen" iJ t.xT t.uh
 P9:ao K t.uh ["thing"] []
 NX:mg "is_seen" = some (.ref t.xT)
 DT:aO K "write_from" "write_from" jD t.xE t.tU
 PR:ao K t.tU ["tongue", "text", "page"] []
 NC:mg "write_from" = some (.ref t.xE)
 DU:aO K "write" "write" jE t.xF t.tV
 PU:ao K t.tV ["tongue", "text"] []
 ND:mg "write" = some (.ref t.xF)
 RG:aO K "__init__" "SeenSpeller.__init__" kr t.ym t.uG
 QH:ao K t.uG ["self", "tongue"] []
 En:aO K "spell" "SeenSpeller.spell" ko t.qY t.pD
 Dp:ao K t.pD ["self", "sign", "page"] []
 Em:aO K "__init__" "Writer.__init__" j0 t.yc t.uz
 Qm:ao K t.uz ["self", "tongue"] []
 RF:aO K "__init__" "SeenWriter.__init__" km t.yl t.uF
 QF:ao K t.uF ["self", "tongue"] []
 Rm:aO K "feed" "Writer.feed" j1 t.yd t.uA
 Qn:ao K t.uA ["self", "text"] []
 DS:aO K "write_seen" "write_seen" jC t.xD t.tT
 PQ:ao K t.tT ["tongue", "text"] []
 NB:mg "write_seen" = some (.ref t.xD)
 Rn:aO K "told" "Way.told" j2 t.ye t.uB
 Qo:ao K t.uB ["self", "row"] []
 RO:cF K "__init__" "Put.__init__" kF t.yy t.pG [.int 65533 t.ud_Put_init_0]
 SC:ao K t.pG ["self", "sign"] [.int 65533 t.ud_Put_init_0]
 QU:ao K t.pG ["self", "sign"] []
 RN:aO K "told" "Put.told" kE t.yw t.uN
 QR:ao K t.uN ["self", "row"] []
 RH:aO K "told" "See.told" iM t.yn t.uH
 QJ:ao K t.uH ["self", "row"] []
 Ep:cF K "__init__" "Reader.__init__" kz t.yq t.pF [.int 0 t.ud_Reader_init_0]
 SB:ao K t.pF ["self", "tongue", "place"] [.int 0 t.ud_Reader_init_0]
 QM:ao K t.pF ["self", "tongue", "place"] []
 R5:cF K "__init__" "GoingReader.__init__" kQ t.m6 t.lB [.int 0 t.ud_GoingReader_init_0]
 Pt:ao K t.lB ["self", "tongue", "way", "place"] [.int 0 t.ud_GoingReader_init_0]
 Q9:ao K t.lB ["self", "tongue", "way", "place"] []
 Er:aO K "meet" "GoingReader.meet" kP t.ri t.pH
 Dr:ao K t.pH ["self", "length", "kind"] []
 RL:aO K "faults" "Reader.faults" kB t.yt t.uL
 QP:ao K t.uL ["self"] []
 RK:aO K "feed" "Reader.feed" kA t.yr t.uK
 QN:ao K t.uK ["self", "row"] []
 RM:aO K "end" "Reader.end" kD t.yu t.uM
 QQ:ao K t.uM ["self"] []
 RI:aO K "take" "Reader.take" kt t.yo t.uI
 QK:ao K t.uI ["self", "byte"] []
 yR:aO K "look_at_begun" "Reader.look_at_begun" ky t.m4 t.mI
 xl:ao K t.mI ["self"] []
 Eo:aO K "meet_none" "Reader.meet_none" kx t.qZ t.pE
 Dq:ao K t.pE ["self"] []
 RJ:aO K "note" "Reader.note" ku t.yp t.uJ
 QL:ao K t.uJ ["self", "length", "kind"] []
 Ei:aO K "check_room" "check_room" jX t.x8 t.ut
 Qi:ao K t.ut ["number", "bits"] []
 N9:mg "check_room" = some (.ref t.x8)
 DZ:aO K "parted" "parted" jJ t.xK t.t0
 P0:ao K t.t0 ["number", "bits", "many"] []
 NL:mg "parted" = some (.ref t.xK)
 DW:aO K "together" "together" jG t.xH t.tX
 PX:ao K t.tX ["parts", "bits"] []
 NF:mg "together" = some (.ref t.xH)
 Rp:aO K "unit" "Tongue.unit" j4 t.gA t.i4
 qO:ao K t.i4 ["self"] []
 Rq:cF K "spell" "Tongue.spell" j5 t.yg t.pz [.int 0 t.ud_Tongue_spell_0]
 Sq:ao K t.pz ["self", "sign", "page"] [.int 0 t.ud_Tongue_spell_0]
 Qq:ao K t.pz ["self", "sign", "page"] []
 Ro:cF K "whole" "Tongue.whole" j3 t.yf t.ph [.int 0 t.ud_Tongue_whole_0]
 So:ao K t.ph ["self", "row", "page"] [.int 0 t.ud_Tongue_whole_0]
 Qp:ao K t.ph ["self", "row", "page"] []
 Rs:cF K "fill" "Tongue.fill" j7 t.yh t.pA [.int 0 t.ud_Tongue_fill_0]
 Su:ao K t.pA ["self", "row", "page"] [.int 0 t.ud_Tongue_fill_0]
 Qr:ao K t.pA ["self", "row", "page"] []
 Rr:cF K "look" "Tongue.look" j6 t.fO t.gZ [.int 0 t.ud_Tongue_look_0]
 Sr:ao K t.gZ ["self", "begun", "page"] [.int 0 t.ud_Tongue_look_0]
 mX:ao K t.gZ ["self", "begun", "page"] []
 D2:aO K "length_of" "length_of" jL t.xM t.ua
 P2:ao K t.ua ["sign"] []
 NQ:mg "length_of" = some (.ref t.xM)
 D4:aO K "lead_row" "lead_row" iI t.xO t.ud
 P4:ao K t.ud ["sign"] []
 NS:mg "lead_row" = some (.ref t.xO)
 D3:aO K "length_behind" "length_behind" jM t.xN t.uc
 P3:ao K t.uc ["first"] []
 NR:mg "length_behind" = some (.ref t.xN)
 Ek:aO K "bounds_behind" "bounds_behind" jY t.ya t.uv
 Qk:ao K t.uv ["row", "place"] []
 Ob:mg "bounds_behind" = some (.ref t.ya)
 Ef:aO K "fits_behind" "fits_behind" jU t.xZ t.uo
 Qf:ao K t.uo ["row"] []
 N5:mg "fits_behind" = some (.ref t.xZ)
 D1:aO K "missing" "missing" jK t.xL t.t5
 P1:ao K t.t5 ["row"] []
 NP:mg "missing" = some (.ref t.xL)
 Ej:aO K "carried" "carried" iL t.x9 t.uu
 Qj:ao K t.uu ["row"] []
 Oa:mg "carried" = some (.ref t.x9)
 RZ:cF K "spell" "LeadTongue.spell" kO t.rg t.mO [.int 0 t.ud_LeadTongue_spell_0]
 SI:ao K t.mO ["self", "sign", "page"] [.int 0 t.ud_LeadTongue_spell_0]
 Q7:ao K t.mO ["self", "sign", "page"] []
 RY:cF K "whole" "LeadTongue.whole" kN t.rf t.mN [.int 0 t.ud_LeadTongue_whole_0]
 SH:ao K t.mN ["self", "row", "page"] [.int 0 t.ud_LeadTongue_whole_0]
 Q6:ao K t.mN ["self", "row", "page"] []
 R0:cF K "fill" "LeadTongue.fill" iO t.rh t.mP [.int 0 t.ud_LeadTongue_fill_0]
 SJ:ao K t.mP ["self", "row", "page"] [.int 0 t.ud_LeadTongue_fill_0]
 Q8:ao K t.mP ["self", "row", "page"] []
 DV:aO K "units_of" "units_of" jF t.xG t.tW
 PV:ao K t.tW ["sign"] []
 NE:mg "units_of" = some (.ref t.xG)
 DX:aO K "sign_of" "sign_of" jH t.xI t.tY
 PY:ao K t.tY ["units"] []
 NI:mg "sign_of" = some (.ref t.xI)
 RW:cF K "__init__" "PairTongue.__init__" kL t.rc t.mL [.str "high" t.ud_PairTongue_init_0]
 SF:ao K t.mL ["self", "order"] [.str "high" t.ud_PairTongue_init_0]
 Q4:ao K t.mL ["self", "order"] []
 RS:aO K "unit" "PairTongue.unit" kH t.yA t.uP
 QY:ao K t.uP ["self"] []
 RT:aO K "turned" "PairTongue.turned" kI t.yB t.uQ
 QZ:ao K t.uQ ["self", "pair"] []
 RV:aO K "row_of" "PairTongue.row_of" kK t.yC t.uR
 Q3:ao K t.uR ["self", "units"] []
 RQ:aO K "units_in" "PairTongue.units_in" iN t.yz t.uO
 QX:ao K t.uO ["self", "row"] []
 RU:cF K "spell" "PairTongue.spell" kJ t.q9 t.mK [.int 0 t.ud_PairTongue_spell_0]
 SE:ao K t.mK ["self", "sign", "page"] [.int 0 t.ud_PairTongue_spell_0]
 Q0:ao K t.mK ["self", "sign", "page"] []
 RP:cF K "whole" "PairTongue.whole" kG t.q8 t.mJ [.int 0 t.ud_PairTongue_whole_0]
 SD:ao K t.mJ ["self", "row", "page"] [.int 0 t.ud_PairTongue_whole_0]
 QV:ao K t.mJ ["self", "row", "page"] []
 RX:cF K "fill" "PairTongue.fill" kM t.re t.mM [.int 0 t.ud_PairTongue_fill_0]
 SG:ao K t.mM ["self", "row", "page"] [.int 0 t.ud_PairTongue_fill_0]
 Q5:ao K t.mM ["self", "row", "page"] []
 El:aO K "begins" "begins" jZ t.yb t.uw
 Ql:ao K t.uw ["one", "other"] []
 Oc:mg "begins" = some (.ref t.yb)
 DY:aO K "places_in" "places_in" jI t.xJ t.tZ
 PZ:ao K t.tZ ["signs", "which"] []
 NK:mg "places_in" = some (.ref t.xJ)
 RD:aO K "__init__" "ShiftTongue.__init__" kj t.qW t.pC
 QC:ao K t.pC ["self", "first", "second"] []
 RC:aO K "row_beyond" "ShiftTongue.row_beyond" ki t.yk t.uE
 QB:ao K t.uE ["self", "page"] []
 RA:cF K "spell" "ShiftTongue.spell" kg t.qV t.mG [.int 0 t.ud_ShiftTongue_spell_0]
 Sz:ao K t.mG ["self", "sign", "page"] [.int 0 t.ud_ShiftTongue_spell_0]
 Qy:ao K t.mG ["self", "sign", "page"] []
 RB:aO K "sign_of" "ShiftTongue.sign_of" kh t.yj t.uD
 Qz:ao K t.uD ["self", "byte", "page"] []
 Ry:cF K "whole" "ShiftTongue.whole" kf t.qU t.mF [.int 0 t.ud_ShiftTongue_whole_0]
 Sy:ao K t.mF ["self", "row", "page"] [.int 0 t.ud_ShiftTongue_whole_0]
 Qx:ao K t.mF ["self", "row", "page"] []
 RE:cF K "fill" "ShiftTongue.fill" kl t.qX t.mH [.int 0 t.ud_ShiftTongue_fill_0]
 SA:ao K t.mH ["self", "row", "page"] [.int 0 t.ud_ShiftTongue_fill_0]
 QD:ao K t.mH ["self", "row", "page"] []
 Ed:aO K "is_entry" "is_entry" jS t.xX t.ul
 Qd:ao K t.ul ["thing"] []
 N2:mg "is_entry" = some (.ref t.xX)
 Eg:aO K "collide" "collide" jV t.x5 t.uq
 Qg:ao K t.uq ["one", "other"] []
 N7:mg "collide" = some (.ref t.x5)
 Eh:aO K "check_table" "check_table" jW t.x6 t.ur
 Qh:ao K t.ur ["rows"] []
 N8:mg "check_table" = some (.ref t.x6)
 Rv:aO K "__init__" "TableTongue.__init__" ka t.qS t.pB
 Qu:ao K t.pB ["self", "rows"] []
 Rx:aO K "enter" "TableTongue.enter" ke t.yi t.uC
 Qw:ao K t.uC ["self", "sign", "row"] []
 Ru:cF K "spell" "TableTongue.spell" j9 t.qR t.mD [.int 0 t.ud_TableTongue_spell_0]
 Sw:ao K t.mD ["self", "sign", "page"] [.int 0 t.ud_TableTongue_spell_0]
 Qt:ao K t.mD ["self", "sign", "page"] []
 Rt:cF K "whole" "TableTongue.whole" j8 t.qQ t.mC [.int 0 t.ud_TableTongue_whole_0]
 Sv:ao K t.mC ["self", "row", "page"] [.int 0 t.ud_TableTongue_whole_0]
 Qs:ao K t.mC ["self", "row", "page"] []
 Rw:cF K "fill" "TableTongue.fill" kc t.qT t.mE [.int 0 t.ud_TableTongue_fill_0]
 Sx:ao K t.mE ["self", "row", "page"] [.int 0 t.ud_TableTongue_fill_0]
 Qv:ao K t.mE ["self", "row", "page"] []
 DQ:aO K "_law_drawn" "_law_drawn" jA t.xB t.tR
 PN:ao K t.tR ["_law_script", "_law_at"] []
 Nz:mg "_law_drawn" = some (.ref t.xB)
 DM:aO K "_law_mixed" "_law_mixed" jx t.xx t.tM
 PJ:ao K t.tM ["_law_number", "_law_k"] []
 Nu:mg "_law_mixed" = some (.ref t.xx)
 DP:aO K "_law_gapped" "_law_gapped" jz t.xA t.tQ
 PM:ao K t.tQ ["_law_number"] []
 Ny:mg "_law_gapped" = some (.ref t.xA)
 DR:aO K "_law_as_sign" "_law_as_sign" jB t.xC t.tS
 PP:ao K t.tS ["_law_number"] []
 NA:mg "_law_as_sign" = some (.ref t.xC)
 DN:aO K "_law_lists" "_law_lists" ia t.xy t.tO
 PK:ao K t.tO ["_law_number"] []
 Nv:mg "_law_lists" = some (.ref t.xy)
 DF:aO K "_law_table" "_law_table" iH t.xp t.tF
 Py:ao K t.tF ["_law_number"] []
 Nm:mg "_law_table" = some (.ref t.xp)
 DL:aO K "_law_model" "_law_model" jw t.xw t.tL
 PH:ao K t.tL ["_law_cell"] []
 Nt:mg "_law_model" = some (.ref t.xw)
 DD:aO K "_law_tongue" "_law_tongue" iG t.xn t.tD
 Pw:ao K t.tD ["_law_model_here"] []
 Nk:mg "_law_tongue" = some (.ref t.xn)
 DO:aO K "_law_lead_row" "_law_lead_row" jy t.xz t.tP
 PL:ao K t.tP ["_law_sign"] []
 Nw:mg "_law_lead_row" = some (.ref t.xz)
 DK:aO K "_law_pair_row" "_law_pair_row" jv t.xv t.tK
 PF:ao K t.tK ["_law_sign", "_law_word"] []
 Nr:mg "_law_pair_row" = some (.ref t.xv)
 DG:aO K "_law_spell" "_law_spell" jr t.xq t.tG
 Pz:ao K t.tG ["_law_model_here", "_law_sign", "_law_page"] []
 Nn:mg "_law_spell" = some (.ref t.xq)
 DE:aO K "_law_text" "_law_text" gM t.xo t.tE
 Px:ao K t.tE ["_law_model_here", "_law_cells"] []
 Nl:mg "_law_text" = some (.ref t.xo)
 DJ:aO K "_law_pieces" "_law_pieces" ju t.xu t.tJ
 PD:ao K t.tJ ["_law_row_here", "_law_cell"] []
 Nq:mg "_law_pieces" = some (.ref t.xu)
 DH:aO K "_law_row" "_law_row" js t.xr t.tH
 PB:ao K t.tH ["_law_model_here", "_law_cells"] []
 No:mg "_law_row" = some (.ref t.xr)
 DI:aO K "_law_read_both" "_law_read_both" jt t.xt t.tI
 PC:ao K t.tI ["_law_reader", "_law_other", "_law_pieces_here"] []
 Np:mg "_law_read_both" = some (.ref t.xt)
 DC:aO K "_law_written" "_law_written" jq t.xm t.tB
 Pu:ao K t.tB ["_law_tongue_here", "_law_text_here", "_law_cell"] []
 Nj:mg "_law_written" = some (.ref t.xm)
 yQ:aO K "law" "law" gN t.xP t.o9
 P5:ao K t.o9 ["_law_script"] []
 Cq:mg "law" = some (.ref t.xP)
 Na:mg "SeenSpeller" = some (.ref t.dL)
 i8:cA K t.dL
 KK:Mk K t.dL t.ym
 Bc:be K t.dL "spell" t.qY
 md:cy K t.dL "tongue"
 Sd : ∀ H a dx fs,H a=some (.ins t.dL dx fs)->ce K H (.ref a) (.ref t.dL)
 M9:mg "SeenWriter" = some (.ref t.eW)
 lC:cA K t.eW
 KJ:Mk K t.eW t.yl
 mt_SeenWriter_feed:be K t.eW "feed" t.yd
 sv:cy K t.eW "at_page"
 A9:cy K t.eW "tongue"
 Sc : ∀ H a dx fs,H a=some (.ins t.eW dx fs)->ce K H (.ref a) (.ref t.eW)
 Nh:mg "Leave" = some (.ref t.fN)
 OX:cA K t.fN
 KP:lI K t.fN
 mt_Leave_told:be K t.fN "told" t.ye
 Si : ∀ H a dx fs,H a=some (.ins t.fN dx fs)->ce K H (.ref a) (.ref t.fN)
 Nf:mg "Put" = some (.ref t.df)
 wu:cA K t.df
 KL:Mk K t.df t.yy
 Ks:be K t.df "told" t.yw
 Ba:cy K t.df "sign"
 Sf : ∀ H a dx fs,H a=some (.ins t.df dx fs)->ce K H (.ref a) (.ref t.df)
 Nb:mg "See" = some (.ref t.fM)
 OW:cA K t.fM
 KO:lI K t.fM
 Kr:be K t.fM "told" t.yn
 Se : ∀ H a dx fs,H a=some (.ins t.fM dx fs)->ce K H (.ref a) (.ref t.fM)
 Cl:mg "GoingReader" = some (.ref t.bu)
 ar:cA K t.bu
 Bf:Mk K t.bu t.m6
 Bd:be K t.bu "meet" t.ri
 mt_GoingReader_faults:be K t.bu "faults" t.yt
 mt_GoingReader_feed:be K t.bu "feed" t.yr
 mt_GoingReader_end:be K t.bu "end" t.yu
 mt_GoingReader_take:be K t.bu "take" t.yo
 mt_GoingReader_look_at_begun:be K t.bu "look_at_begun" t.m4
 mt_GoingReader_meet_none:be K t.bu "meet_none" t.qZ
 mt_GoingReader_note:be K t.bu "note" t.yp
 fi:cy K t.bu "at_page"
 bD:cy K t.bu "begun"
 me:cy K t.bu "ended"
 oj:cy K t.bu "many"
 sy:cy K t.bu "met"
 Bb:cy K t.bu "place"
 bS:cy K t.bu "tongue"
 iS:cy K t.bu "way"
 Sk : ∀ H a dx fs,H a=some (.ins t.bu dx fs)->ce K H (.ref a) (.ref t.bu)
 M6:mg "Tongue" = some (.ref t.dW)
 mU:cA K t.dW
 KN:lI K t.dW
 Kc:be K t.dW "unit" t.gA
 Ke:be K t.dW "spell" t.yg
 Kb:be K t.dW "whole" t.yf
 Kg:be K t.dW "fill" t.yh
 Kf:be K t.dW "look" t.fO
 R9 : ∀ H a dx fs,H a=some (.ins t.dW dx fs)->ce K H (.ref a) (.ref t.dW)
 Ni:mg "LeadTongue" = some (.ref t.dX)
 mW:cA K t.dX
 KQ:lI K t.dX
 KD:be K t.dX "spell" t.rg
 KC:be K t.dX "whole" t.rf
 KE:be K t.dX "fill" t.rh
 mt_LeadTongue_unit:be K t.dX "unit" t.gA
 mt_LeadTongue_look:be K t.dX "look" t.fO
 Sj : ∀ H a dx fs,H a=some (.ins t.dX dx fs)->ce K H (.ref a) (.ref t.dX)
 Ng:mg "PairTongue" = some (.ref t.cw)
 gb:cA K t.cw
 KM:Mk K t.cw t.rc
 Kx:be K t.cw "unit" t.yA
 Ky:be K t.cw "turned" t.yB
 KA:be K t.cw "row_of" t.yC
 Kw:be K t.cw "units_in" t.yz
 Kz:be K t.cw "spell" t.q9
 Ku:be K t.cw "whole" t.q8
 KB:be K t.cw "fill" t.re
 mt_PairTongue_look:be K t.cw "look" t.fO
 sx:cy K t.cw "order"
 Sh : ∀ H a dx fs,H a=some (.ins t.cw dx fs)->ce K H (.ref a) (.ref t.cw)
 M8:mg "ShiftTongue" = some (.ref t.bL)
 cX:cA K t.bL
 KI:Mk K t.bL t.qW
 Ko:be K t.bL "row_beyond" t.yk
 Km:be K t.bL "spell" t.qV
 Kn:be K t.bL "sign_of" t.yj
 Kl:be K t.bL "whole" t.qU
 Kq:be K t.bL "fill" t.qX
 mt_ShiftTongue_unit:be K t.bL "unit" t.gA
 mt_ShiftTongue_look:be K t.bL "look" t.fO
 oi:cy K t.bL "lists"
 iR:cy K t.bL "places"
 oh:cy K t.bL "shifted"
 Sb : ∀ H a dx fs,H a=some (.ins t.bL dx fs)->ce K H (.ref a) (.ref t.bL)
 M7:mg "TableTongue" = some (.ref t.bW)
 dU:cA K t.bW
 KH:Mk K t.bW t.qS
 Kk:be K t.bW "enter" t.yi
 Ki:be K t.bW "spell" t.qR
 Kh:be K t.bW "whole" t.qQ
 Kj:be K t.bW "fill" t.qT
 mt_TableTongue_unit:be K t.bW "unit" t.gA
 mt_TableTongue_look:be K t.bW "look" t.fO
 su:cy K t.bW "rest_by_row"
 og:cy K t.bW "row_by_sign"
 sr:cy K t.bW "sign_by_row"
 Sa : ∀ H a dx fs,H a=some (.ins t.bW dx fs)->ce K H (.ref a) (.ref t.bW)
 M5:mg "Writer" = some (.ref t.C9)
 Pr:yL K t.C9 t.yc
 Nd:mg "Reader" = some (.ref t.Da)
 Ps:yL K t.Da t.yq
 mx:mg "NoSign" = some (.ref t.Ox)
 Dg:mg "BITS" = some (.int 6 t.EU)
 Df:mg "BYTE_BITS" = some (.int 8 t.ET)
 De:mg "FILLS" = some (.ref t.yD)
 CS:nu K w t.yD [(t.h_FILLS_0, "high",t.a_FILLS_0),(t.h_FILLS_1, "low",t.a_FILLS_1)]
 q_FILLS_0 : ∀ H,bd K H t.a_FILLS_0 (([t.a_FILLS_0_0,t.a_FILLS_0_1,t.a_FILLS_0_2,t.a_FILLS_0_3,t.a_FILLS_0_4]:List Addr).map V.ref)
 q_FILLS_0_0 : ∀ H,bd K H t.a_FILLS_0_0 (([]:List Int).map V.int)
 q_FILLS_0_1 : ∀ H,bd K H t.a_FILLS_0_1 (([0]:List Int).map V.int)
 q_FILLS_0_2 : ∀ H,bd K H t.a_FILLS_0_2 (([0,0]:List Int).map V.int)
 q_FILLS_0_3 : ∀ H,bd K H t.a_FILLS_0_3 (([220,0]:List Int).map V.int)
 q_FILLS_0_4 : ∀ H,bd K H t.a_FILLS_0_4 (([0,220,0]:List Int).map V.int)
 q_FILLS_1 : ∀ H,bd K H t.a_FILLS_1 (([t.a_FILLS_1_0,t.a_FILLS_1_1,t.a_FILLS_1_2,t.a_FILLS_1_3,t.a_FILLS_1_4]:List Addr).map V.ref)
 q_FILLS_1_0 : ∀ H,bd K H t.a_FILLS_1_0 (([]:List Int).map V.int)
 q_FILLS_1_1 : ∀ H,bd K H t.a_FILLS_1_1 (([0]:List Int).map V.int)
 q_FILLS_1_2 : ∀ H,bd K H t.a_FILLS_1_2 (([220]:List Int).map V.int)
 q_FILLS_1_3 : ∀ H,bd K H t.a_FILLS_1_3 (([0,0]:List Int).map V.int)
 q_FILLS_1_4 : ∀ H,bd K H t.a_FILLS_1_4 (([0,220]:List Int).map V.int)
 qN:mg "FIRST_BEHIND" = some (.int 128 t.ES)
 xb:mg "FIRST_HEAD" = some (.int 55296 t.ER)
 xa:mg "FIRST_SEEN" = some (.int 61184 t.EQ)
 qM:mg "FIRST_TAIL" = some (.int 56320 t.EO)
 w9:mg "FIRST_WIDE" = some (.int 65536 t.EN)
 Dd:mg "HALF_BITS" = some (.int 10 t.EM)
 Dc:mg "LAST_BEHIND" = some (.int 191 t.EL)
 Pj:mg "LAST_BYTE" = some (.int 255 t.EK)
 Ph:mg "LAST_SEEN" = some (.int 61439 t.EJ)
 Pg:mg "LAST_SIGN" = some (.int 1114111 t.EI)
 Pf:mg "LAST_TAIL" = some (.int 57343 t.EH)
 Db:mg "LEADS" = some (.ref t.m5)
 AM : ∀ H,bd K H t.m5 (([0,0,192,224,240]:List Int).map V.int)
 Sn : ∃ o,K.lookup t.m5=some o/\o.cls=.type "tuple"/\o.dict=none
 Pe:mg "MOST_BYTES" = some (.int 6 t.EG)
 Pd:mg "MOST_SIGNS" = some (.int 250 t.EF)
 Pc:mg "MOST_TUPLES" = some (.int 64 t.EE)
 Pb:mg "SECONDS" = some (.ref t.Du)
 OL:rA K t.Du [(224,t.a_SECONDS_0),(237,t.a_SECONDS_1),(238,t.a_SECONDS_2),(240,t.a_SECONDS_3),(244,t.a_SECONDS_4)]
 q_SECONDS_0 : ∀ H,bd K H t.a_SECONDS_0 (([160,191]:List Int).map V.int)
 q_SECONDS_1 : ∀ H,bd K H t.a_SECONDS_1 (([128,159]:List Int).map V.int)
 q_SECONDS_2 : ∀ H,bd K H t.a_SECONDS_2 (([128,187]:List Int).map V.int)
 q_SECONDS_3 : ∀ H,bd K H t.a_SECONDS_3 (([144,191]:List Int).map V.int)
 q_SECONDS_4 : ∀ H,bd K H t.a_SECONDS_4 (([128,143]:List Int).map V.int)
 w6:mg "SHIFTS" = some (.ref t.lE)
 sq : ∀ H,bd K H t.lE (([254,255]:List Int).map V.int)
 Sm : ∃ o,K.lookup t.lE=some o/\o.cls=.type "tuple"/\o.dict=none
 n_all:mg "all" = none
 n_bool:mg "bool" = none
 n_enumerate:mg "enumerate" = none
 n_int:mg "int" = none
 n_isinstance:mg "isinstance" = none
 n_len:mg "len" = none
 n_list:mg "list" = none
 n_range:mg "range" = none
 n_reversed:mg "reversed" = none
 n_str:mg "str" = none
 n_sum:mg "sum" = none
 n_tuple:mg "tuple" = none
 n_zip:mg "zip" = none
end My
namespace My
open PySem L2
def iU:V->Bool
 | .int _=>true
 | _=>false
def cZ(v:V)(lo hi:Int):Bool:=match v with
 | .int i=>decide (lo<=i) && decide (i<=hi)
 | _=>false
def c6(v:V):Bool:=cZ v 0 1114111 && !(cZ v 55296 57343) && !(cZ v 61184 61439)
theorem sI{v:V}(h:iU v=true) : ∃ i,v=.int i:=by
 cases v <;> first | exact⟨_,rfl⟩ | cases h
def lR(f:V->Bool)(K:PySem.W.Frag):Sp:=λvs H Q _=>∃ v,vs=[v]/\fP K H v/\Q (.bl (f v)) H
def rX(f:Int->Bool):Sp:=λvs H Q _=>∃ i,vs=[.int i]/\Q (.bl (f i)) H
theorem ox{f:V->Bool}{K:PySem.W.Frag}{x:Str} : ∀ vs H Q E,lR f K vs H Q E->vs.length=[x].length:=λvs H Q E h=>by
 obtain⟨v,rfl,_⟩:=h
 rfl
theorem Br{f:Int->Bool}{x:Str} : ∀ vs H Q E,rX f vs H Q E->vs.length=[x].length:=λvs H Q E h=>by
 obtain⟨v,rfl,_⟩:=h
 rfl
def Sg(n:Int):Prop:=0<=n/\n<=1114111/\¬ (55296<=n/\n<=57343)/\¬ (61184<=n/\n<=61439)
theorem gL(n:Int):c6 (.int n)=true ↔ Sg n:=by
 unfold c6 cZ Sg
 simp
 omega
def cf(n:Int):List Int:=if n < 65536 then [n] else [55296+(n - 65536) / 1024,56320+(n - 65536)%1024]
def ub(h:Bool)(m:Int):List Int:=if h then [m / 256,m%256] else [m%256,m / 256]
def d8(h:Bool)(n:Int):List Int:=(cf n).flatMap (ub h)
def f6(h:Bool):Str:=if h then "high" else "low"
theorem EC(h:Bool)(m:Int):(ub h m).length=2:=by unfold ub; cases h <;> rfl
theorem rG(n:Int):(cf n).length<=2:=by
 unfold cf
 by_cases c:n < 65536
 ·rw[if_pos c]; simp
 ·rw[if_neg c]; simp
theorem yZ{n u:Int}(h:Sg n)(hu:u∈cf n):0<=u/\u < 65536:=by
 obtain⟨h0,h1,_,_⟩:=h
 unfold cf at hu
 by_cases c:n < 65536
 ·rw[if_pos c]at hu; simp at hu; omega
 ·rw[if_neg c]at hu; simp at hu; omega
theorem mz(h:Bool)(us:List Int):(us.flatMap (ub h)).length=2*us.length:=by
 induction us with
 | nil=>rfl
 | cons a r ih=>rw[List.flatMap_cons,List.length_append,EC,ih,List.length_cons]; omega
theorem IF(h:Bool)(n:Int):(d8 h n).length<=4:=by
 unfold d8; rw[mz]; have:=rG n; omega
def u2(h:Bool)(x y:Int):Int:=if h then x*256+y else y*256+x
def fe(h:Bool):List Int->List Int
 | x :: y :: r=>u2 h x y :: fe h r
 | _=>[]
def h8:List Int->Option Int
 | [u]=>if c6 (.int u) then some u else none
 | [u,v]=>if (55296<=u/\u < 56320)/\56320<=v/\v<=57343 then some (65536+((u - 55296)*1024+(v - 56320))) else none
 | _=>none
def fE(h:Bool)(r:List Int):Option Int:=if r.length=2\/r.length=4 then h8 (fe h r) else none
def oV(o:Option Int):V:=o.elim .non V.int
def il(h:Bool):List (List Int):=if h then [[],[0],[0,0],[220,0],[0,220,0]] else [[],[0],[220],[0,0],[0,220]]
def bq(r:List Int):Prop:=∀ b∈r,0<=b/\b<=255
theorem bq.app{r s:List Int}(a:bq r)(b:bq s):bq (r++s):=λx hx=>by
 rcases List.mem_append.mp hx with h | h
 ·exact a x h
 ·exact b x h
theorem Om{h:Bool}{f:List Int}(hf:f∈il h):bq f:=by
 unfold il at hf
 cases h <;> simp at hf <;> rcases hf with rfl | rfl | rfl | rfl | rfl <;> intro x hx <;> simp at hx <;> omega
theorem Ol{h:Bool}{f:List Int}(hf:f∈il h):f.length<=3:=by
 unfold il at hf
 cases h <;> simp at hf <;> rcases hf with rfl | rfl | rfl | rfl | rfl <;> decide
def lb(f:Int):Int:=if f < 128 then 1 else if f < 194\/244 < f then 0 else if f < 224 then 2 else if f < 240 then 3 else 4
def kY(f:Int):Int:=if f=224 then 160 else if f=240 then 144 else 128
def ij(f:Int):Int:=if f=237 then 159 else if f=238 then 187 else if f=244 then 143 else 191
def eg(f:Int)(p:Nat):Int:=if p=1 then kY f else 128
def fK(f:Int)(p:Nat):Int:=if p=1 then ij f else 191
def rq(f:Int)(r:List Int):Prop:=∀ i x,r[i]? = some x->eg f (i+1)<=x/\x<=fK f (i+1)
def lM(f:Int)(r:List Int):Prop:=(r.length:Int)+1<=lb f/\rq f r
def yT:List Int->Prop
 | []=>True
 | f :: r=>lM f r
def ir:List Int->Prop
 | []=>False
 | f :: r=>lM f r/\(r.length:Int)+1=lb f
def o7:List Int->List Int
 | []=>[0]
 | f :: r=>(List.range (lb f - ((r.length:Int)+1)).toNat).map λi=>eg f (r.length+1+i)
theorem oy(f:Int):0<=lb f/\lb f<=4:=by unfold lb; repeat' split <;> omega
theorem Lf(f:Int)(p:Nat):128<=eg f p:=by unfold eg kY; repeat' split <;> omega
theorem L8(f:Int)(p:Nat):fK f p<=191:=by unfold fK ij; repeat' split <;> omega
theorem CH(f:Int)(r:List Int):rq f r ↔ (∀ x∈r,128<=x/\x<=191)/\∀ x,r[0]? = some x->kY f<=x/\x<=ij f:=by
 constructor
 ·intro h
  refine⟨λx hx=>?_,λx hx=>?_⟩
  ·obtain⟨i,hi⟩:=List.getElem?_of_mem hx
   have:=h i x hi
   have h1:=Lf f (i+1)
   have h2:=L8 f (i+1)
   omega
  ·have:=h 0 x hx
   simpa [eg,fK] using this
 ·rintro⟨h1,h2⟩ i x hx
  cases i with
  | zero=>simpa [eg,fK] using h2 x hx
  | succ i =>
   have:=h1 x (List.mem_of_getElem? hx)
   simp only [eg,fK]
   rw[if_neg (by omega),if_neg (by omega)]
   exact this
def row(n:Int):List Int:=if n < 128 then [n] else if n < 2048 then [192+n / 64,128+n%64] else if n < 65536 then [224+n / 4096,128+n / 64%64,128+n%64] else [240+n / 262144,128+n / 4096%64,128+n / 64%64,128+n%64]
theorem Av(n:Int):1<=(row n).length/\(row n).length<=4:=by
 unfold row
 by_cases c1:n < 128
 ·rw[if_pos c1]; simp
 rw[if_neg c1]
 by_cases c2:n < 2048
 ·rw[if_pos c2]; simp
 rw[if_neg c2]
 by_cases c3:n < 65536
 ·rw[if_pos c3]; simp
 rw[if_neg c3]; simp
def cB{α β:Type}(R:α->β->Prop)(xs:List α)(ys:List β):Prop:=xs.length=ys.length/\∀ (i:Nat) x y,xs[i]? = some x->ys[i]? = some y->R x y
theorem cB.nil{α β:Type}{R:α->β->Prop}:cB R [] []:=⟨rfl,λi x y h=>by simp at h⟩
theorem cB.cons{α β:Type}{R:α->β->Prop}{x:α}{y:β}{xs:List α}{ys:List β}(h:R x y)(t:cB R xs ys):cB R (x :: xs) (y :: ys):=⟨by simp[t.1],λi a b ha hb=>by
 cases i with
 | zero=>simp at ha hb; subst ha hb; exact h
 | succ i=>exact t.2 i a b (by simpa using ha) (by simpa using hb)⟩
theorem cB.imp{α β:Type}{R S:α->β->Prop}{xs:List α}{ys:List β}(h:cB R xs ys)(k : ∀ x y,R x y->S x y):cB S xs ys:=⟨h.1,λi x y a b=>k x y (h.2 i x y a b)⟩
theorem cB.app{α β:Type}{R:α->β->Prop}{xs us:List α}{ys vs:List β}(h:cB R xs ys)(k:cB R us vs):cB R (xs++us) (ys++vs):=by
 refine⟨by simp[h.1,k.1],λi x y a b=>?_⟩
 by_cases hi:i < xs.length
 ·rw[List.getElem?_append_left hi]at a
  rw[List.getElem?_append_left (by rw[<- h.1]; exact hi)]at b
  exact h.2 i x y a b
 ·rw[List.getElem?_append_right (by omega)]at a
  rw[List.getElem?_append_right (by rw[<- h.1]; omega),<- h.1]at b
  exact k.2 _ x y a b
theorem cB.right{α β:Type}{R:α->β->Prop}{xs:List α}{ys:List β}(h:cB R xs ys){i:Nat}{x:α}(hx:xs[i]? = some x) : ∃ y,ys[i]? = some y/\R x y:=by
 have hi:=(List.getElem?_eq_some_iff.mp hx).1
 have hy:ys[i]? = some (ys[i]'(by rw[<- h.1]; exact hi)):=by simp
 exact⟨_,hy,h.2 i x _ hx hy⟩
theorem cB.left{α β:Type}{R:α->β->Prop}{xs:List α}{ys:List β}(h:cB R xs ys){i:Nat}{y:β}(hy:ys[i]? = some y) : ∃ x,xs[i]? = some x/\R x y:=by
 have hi:=(List.getElem?_eq_some_iff.mp hy).1
 have hx:xs[i]? = some (xs[i]'(by rw[h.1]; exact hi)):=by simp
 exact⟨_,hx,h.2 i _ y hx hy⟩
def Kp(a:Addr)(H H':Hp):Prop:=∀ c u,c≠a->H c=some u->H' c=some u
theorem Kp.trans{a:Addr}{H H1 H2:Hp}(h:Kp a H H1)(h':Kp a H1 H2):Kp a H H2:=λc u n e=>h' c u n (h c u n e)
theorem Kp.of{a:Addr}{H H1:Hp}(h:af H H1):Kp a H H1:=λc u _ e=>h c u e
theorem Kp.upd{a:Addr}{H:Hp}{o:HO}:Kp a H (upd H a o):=λc u n e=>by rw[aw n]; exact e
end My
namespace My
open PySem L2
section
variable {P:Program}{w:World}{K:PySem.W.Frag}{mg:Str->Option Value}{base:Heap}{t:Adr}
def FB:Sp:=λvs H Q _=>∃ (n:Int) (b:Nat),vs=[.int n,.int (b:Int)]/\0<=n/\n < 2 ^ b/\Q .non H
theorem BU (T:Txt w K mg t):bp P w K mg base "check_room" 1 t.x8 t.ut ["number", "bits"] FB:=by
 refine⟨T.N9,T.Ei.kp,T.Qi,T.Ei.okQ GN (λvs H Q E h=>by obtain⟨n,b,rfl,_⟩:=h; rfl) λcdv A outer s H vs Q E hr h=>?_⟩
 obtain⟨n,b,rfl,h0,h1,k⟩:=h
 refine⟨_,(ah (aF (bZ (dv (av dA (aa 0) aj (aD _)) (du (av gy (AE (K:=K) rfl PySem.F.plainAttrs_int PySem.F.slot_int_bit_length PySem.F.type_int_bit_length KU (aa 0)) (aa 1) (aD _))))) (ah fG) aG)),?_⟩
 refine ak (λe=>absurd (of_decide_eq_true e) (by omega)) (λ_=>?_)
 refine⟨rfl,?_⟩
 have hb:Builtin.Int.intBits n<=b:=intBits_le_iff.mpr (by
  have:(n.natAbs:Int) < ((2 ^ b:Nat):Int):=by rw[Int.natAbs_of_nonneg h0,Int.natCast_pow]; exact h1
  exact Int.ofNat_lt.mp this)
 refine ak (λe=>absurd (of_decide_eq_true e) (by omega)) (λ_=>?_)
 exact k
def Fl(K:PySem.W.Frag):Sp:=λvs H Q _=>∃ (a:Addr) (ps:List Int) (b:Nat),vs=[.ref a,.int (b:Int)]/\aE K H a (ps.map V.int)/\(∀ p∈ps,0<=p/\p < 2 ^ b)/\b<=1000/\ps.length<=1000/\Q (.int (cb b ps)) H
theorem sP (T:Txt w K mg t):bp P w K mg base "together" 2 t.xH t.tX ["parts", "bits"] (Fl K):=by
 refine⟨T.NF,T.DW.kp,T.PX,T.DW.okQ nN (λvs H Q E h=>by obtain⟨a,ps,b,rfl,_⟩:=h; rfl) λcdv A outer s H vs Q E hr h=>?_⟩
 obtain⟨a,ps,b,rfl,h1,h2,hb,hl,k⟩:=h
 refine⟨_,(ai (aJ (i:=2) nN.nd rfl (by first | exact Or.inl rfl | exact Or.inr rfl) aj)
  (ai (dw PassesOwn.never rfl (dz (K:=K) rfl (aa 0)) (ba (i:=3) nN.nd rfl (by first | exact Or.inl rfl | exact Or.inr rfl)) (ai (cT (aN (BU T) hr (ab (aa 3) (ab (aa 1) ad))))
  (ah (aJ (i:=2) nN.nd rfl (by first | exact Or.inl rfl | exact Or.inr rfl) (au (aX (K:=K) rfl) (au Cn (aa 2) (aa 1)) (aa 3))))))
  (ah (al (aa 2))))),?_⟩
 refine⟨a,rfl,⟨_,h1⟩,iY (K:=K) (a:=a) (xs:=ps.map V.int) (λi σ H'=>H'=H/\∃ v3,σ=[some (.ref a),some (.int b),some (.int (cb b (ps.take i))),v3]) ⟨rfl,_,rfl⟩ (λi σ H' _ z=>by rw[z.1]; exact h1) ?_ ?_⟩
 ·rintro i x σ H2 hi ⟨rfl,v3,rfl⟩
  obtain⟨p,hp,rfl⟩ : ∃ p,ps[i]? = some p/\x=.int p:=by
   rw[List.getElem?_map]at hi
   cases e:ps[i]? with
   | none=>rw[e]at hi; cases hi
   | some p=>rw[e]at hi; cases hi; exact⟨p,rfl,rfl⟩
  have hpm:=h2 p (List.mem_of_getElem? hp)
  refine⟨p,b,rfl,hpm.1,hpm.2,?_⟩
  have hi':i < ps.length:=(List.getElem?_eq_some_iff.mp hp).1
  have ht:=E5 (b:=b) (ps:=ps.take i) λq hq=>h2 q (List.mem_of_mem_take hq)
  have hbits:Builtin.Int.intBits (cb b (ps.take i))<=b*(ps.take i).length:=intBits_le_iff.mpr (by
   have:((cb b (ps.take i)).natAbs:Int) < ((2 ^ (b*(ps.take i).length):Nat):Int):=by rw[Int.natAbs_of_nonneg ht.1,Int.natCast_pow]; exact ht.2
   exact Int.ofNat_lt.mp this)
  have hl2:(ps.take i).length<=1000:=by rw[List.length_take]; omega
  have hbm:b*(ps.take i).length<=1000000:=Nat.mul_le_mul hb hl2
  refine⟨⟨by omega,show ((Builtin.Int.intBits (cb b (ps.take i)):Nat):Int)+(b:Int)<=2 ^ 27 by omega⟩,?_⟩
  refine⟨rfl,?_⟩
  have e:ps.take (i+1)=ps.take i++[p]:=by rw[List.take_add_one,hp]; rfl
  rw[e,E4]
  exact⟨_,rfl⟩
 ·rintro σ H2 ⟨rfl,v3,rfl⟩
  rw[List.length_map,List.take_length]
  exact k
theorem sS (T:Txt w K mg t):bp P w K mg base "is_number" 1 t.xV t.uj ["thing"] (lR iU K):=by
 refine⟨T.NZ,T.Ea.kp,T.Qb,T.Ea.okQ GI ox λcdv A outer s H vs Q E hr h=>?_⟩
 obtain⟨v,rfl,kd,k⟩:=h
 refine⟨_,(ah (al (ib (bi (i9 (K:=K) rfl) T.n_isinstance PyProof.Rows.boot_isinstance (ab (aa 0) (ab (iQ rfl T.n_int PyProof.Rows.boot_int) ad))) (gl (AG (bi (i9 (K:=K) rfl) T.n_isinstance PyProof.Rows.boot_isinstance (ab (aa 0) (ab (iQ rfl T.n_bool PyProof.Rows.boot_bool) ad)))))))),?_⟩
 obtain⟨ty,hty,e0⟩:=kd.isInt
 refine⟨ty,_,hty,e0,?_⟩
 refine ak (λe=>?_) (λe=>?_)
 ·obtain⟨ty,hty,e0⟩:=kd.isBl
  refine⟨ty,_,hty,e0,?_⟩
  exact cc k (by cases v <;> simp_all [iU,sJ,Bx])
 ·exact cc k (by cases v <;> simp_all [iU,sJ])
theorem BT (T:Txt w K mg t):bp P w K mg base "is_head" 1 t.xW t.uk ["number"] (rX λi=>decide (55296<=i) && decide (i < 56320)):=by
 refine⟨T.N0,T.Ec.kp,T.Qc,T.Ec.okQ GJ Br λcdv A outer s H vs Q E hr h=>?_⟩
 obtain⟨i,rfl,k⟩:=h
 refine⟨_,(ah (al (kT fk dA (bP T.xb) (aa 0) (bP T.qM)))),?_⟩
 refine ak (λe1=>?_) (λe1=>?_)
 ·exact cc k (by simp at *; omega)
 ·exact cc k (by simp at *; omega)
theorem BS (T:Txt w K mg t):bp P w K mg base "is_tail" 1 t.xQ t.ue ["number"] (rX λi=>decide (56320<=i) && decide (i<=57343)):=by
 refine⟨T.NU,T.D5.kp,T.P6,T.D5.okQ GD Br λcdv A outer s H vs Q E hr h=>?_⟩
 obtain⟨i,rfl,k⟩:=h
 refine⟨_,(ah (al (kT fk fk (bP T.qM) (aa 0) (bP T.Pf)))),?_⟩
 refine ak (λe1=>?_) (λe1=>?_)
 ·exact cc k (by simp at *; omega)
 ·exact cc k (by simp at *; omega)
theorem sR (T:Txt w K mg t):bp P w K mg base "is_seen_byte" 2 t.xS t.ug ["thing"] (lR (λv=>cZ v 61184 61439) K):=by
 refine⟨T.NW,T.D7.kp,T.P8,T.D7.okQ GF ox λcdv A outer s H vs Q E hr h=>?_⟩
 obtain⟨v,rfl,kd,k⟩:=h
 refine⟨_,(ah (al (ib (aN (sS T) hr (ab (aa 0) ad)) (gl (kT fk fk (bP T.xa) (aa 0) (bP T.Ph)))))),?_⟩
 refine⟨v,rfl,kd,?_⟩
 refine ak (λe=>?_) (λe=>?_)
 ·obtain⟨i,rfl⟩:=sI e
  refine ak (λe1=>?_) (λe1=>?_)
  ·exact cc k (by simp[cZ]at *; omega)
  ·exact cc k (by simp[cZ]at *; omega)
 ·exact cc k (by cases v <;> simp_all [iU,cZ])
theorem ik (T:Txt w K mg t):bp P w K mg base "is_sign" 3 t.xR t.uf ["thing"] (lR c6 K):=by
 refine⟨T.NV,T.D6.kp,T.P7,T.D6.okQ GE ox λcdv A outer s H vs Q E hr h=>?_⟩
 obtain⟨v,rfl,kd,k⟩:=h
 refine⟨_,(ai (aF (bZ (dv (eJ (dE (aN (sS T) hr (ab (aa 0) ad)))) (du (eJ (AF fk fk aj (aa 0) (bP T.Pg)))))) (ah (al fY)) aG)
  (ah (al (AG (lY (aN (BT T) hr (ab (aa 0) ad)) (lY (aN (BS T) hr (ab (aa 0) ad)) (gl (aN (sR T) hr (ab (aa 0) ad))))))))),?_⟩
 refine⟨v,rfl,kd,?_⟩
 refine ak (λe=>?_) (λe=>?_)
 ·refine gU ?_
  exact cc k (by cases v <;> simp_all [iU,cZ,c6])
 ·obtain⟨i,rfl⟩:=sI (v:=v) (by simpa using e)
  refine ak (λe1=>?_) (λe1=>?_)
  ·refine ak (λe2=>?_) (λe2=>?_)
   ·exact cc k (by simp[c6,cZ]at *; omega)
   ·refine⟨i,rfl,?_⟩
    refine ak (λe3=>?_) (λe3=>?_)
    ·exact cc k (by simp[c6,cZ]at *; omega)
    ·refine⟨i,rfl,?_⟩
     refine ak (λe4=>?_) (λe4=>?_)
     ·exact cc k (by simp[c6,cZ]at *; omega)
     ·refine⟨_,rfl,kd,?_⟩
      exact cc k (by rw[Bool.eq_iff_iff]; simp[c6,cZ]at *; omega)
  ·refine gU ?_
   exact cc k (by simp[c6,cZ]at *; omega)
def Fs(K:PySem.W.Frag):Sp:=λvs H Q _=>∃ (a:Addr) (us:List Int),vs=[.ref a]/\aE K H a (us.map V.int)/\us.length<=2/\∀ H',af H H'->Q (oV (h8 us)) H'
theorem EW : ∀ {us:List Int},us.length=2->∃ u v,us=[u,v]
 | [u,v],_=>⟨u,v,rfl⟩
theorem E6(x y:Int):cb 10 [x,y]=x*1024+y:=by
 show (0*2 ^ 10+x)*2 ^ 10+y=_
 have:(2:Int) ^ 10=1024:=by decide
 rw[this]
 omega
theorem Mu (T:Txt w K mg t):bp P w K mg base "sign_of" 4 t.xI t.tY ["units"] (Fs K):=by
 refine⟨T.NI,T.DX.kp,T.PY,T.DX.okQ GA (λvs H Q E h=>by obtain⟨a,us,rfl,_⟩:=h; rfl) λcdv A outer s H vs Q E hr h=>?_⟩
 obtain⟨a,us,rfl,ha,hl,k⟩:=h
 have hu:=hr.units
 obtain⟨o,eo⟩ : ∃ o,o=h8 us:=⟨_,rfl⟩
 rw[<- eo]at k
 obtain⟨L,eL⟩ : ∃ L:Int,L=((us.map V.int).length:Int):=⟨_,rfl⟩
 have eL2:L=(us.length:Int):=by rw[eL,List.length_map]
 refine⟨_,(ai (aF (bZ (fF (av (bo (K:=K) rfl hu) (bi (bA (K:=K) rfl) T.n_len PySem.boot_len (ab (aa 0) ad)) aj (aD _)) (fX (dE (aN (ik T) hr (ab (aL (aM (K:=K) rfl) (aa 0) aj (λ_ _=>rfl)) ad)))))) (ah (al (aL (aM (K:=K) rfl) (aa 0) aj (λ_ _=>rfl)))) aG)
  (ai (aF (bZ (fF (av (bo (K:=K) rfl hu) (bi (bA (K:=K) rfl) T.n_len PySem.boot_len (ab (aa 0) ad)) aj (aD _)) (fF (dE (aN (BT T) hr (ab (aL (aM (K:=K) rfl) (aa 0) aj (λ_ _=>rfl)) ad))) (fX (dE (aN (BS T) hr (ab (aL (aM (K:=K) rfl) (aa 0) aj (λ_ _=>rfl)) ad))))))) (ah (al (au (aX (K:=K) rfl) (bP T.w9) (aN (sP T) hr (ab (aS (ab (au cv (aL (aM (K:=K) rfl) (aa 0) aj (λ_ _=>rfl)) (bP T.xb)) (ab (au cv (aL (aM (K:=K) rfl) (aa 0) aj (λ_ _=>rfl)) (bP T.qM)) ad))) (ab (bP T.Dd) ad)))))) aG)
  (ah (al bY)))),?_⟩
 have second : ∀ {Q1:Prop} {Q2:Prop} {b:Bool},(b=true->Q1)->(b=false->Q2)->if b=true then Q1 else Q2:=λ{Q1 Q2 b} x y=>by
  cases b with
  | true=>exact x rfl
  | false=>exact y rfl
 refine⟨_,.inl ha,?_⟩
 rw[<- eL]
 refine ak (λe=>?_) (λe=>?_)
 ·have e:L=1:=of_decide_eq_true e
  obtain⟨u,rfl⟩ : ∃ u,us=[u]:=List.length_eq_one_iff.mp (by omega)
  refine⟨_,.int u,.inl ha,aV (j:=0) rfl,?_⟩
  refine⟨.int u,rfl,.int u,?_⟩
  refine ak (λe1=>?_) (λe1=>?_)
  ·refine⟨_,.int u,.inl ha,aV (j:=0) rfl,?_⟩
   have es:o=some u:=eo.trans (if_pos e1)
   subst es
   exact k _ (af.refl _)
  ·have es:o=none:=eo.trans (if_neg e1)
   subst es
   refine⟨_,.inl ha,?_⟩
   rw[<- eL]
   refine ak (λe2=>absurd (of_decide_eq_true e2) (by omega)) (λ_=>?_)
   exact k _ (af.refl _)
 have e : ¬ L=1:=λz=>e (decide_eq_true z)
 refine⟨_,.inl ha,?_⟩
 rw[<- eL]
 refine ak (λe2=>?_) (λe2=>?_)
 ·have e2:L=2:=of_decide_eq_true e2
  obtain⟨u,v,rfl⟩ : ∃ u v,us=[u,v]:=EW (by omega)
  refine⟨_,.int u,.inl ha,aV (j:=0) rfl,?_⟩
  refine⟨u,rfl,?_⟩
  refine ak (λe1=>?_) (λe1=>?_)
  ·simp only [Bool.and_eq_true,decide_eq_true_eq]at e1
   refine⟨_,.int v,.inl ha,aV (j:=1) rfl,?_⟩
   refine⟨v,rfl,?_⟩
   refine ak (λe2=>?_) (λe2=>?_)
   ·simp only [Bool.and_eq_true,decide_eq_true_eq]at e2
    have es:o=some (65536+((u - 55296)*1024+(v - 56320))):=eo.trans (if_pos ⟨e1,e2⟩)
    subst es
    refine⟨_,.int u,.inl ha,aV (j:=0) rfl,?_⟩
    refine⟨_,.int v,.inl ha,aV (j:=1) rfl,?_⟩
    refine⟨sz rfl,λp1 H1 g1=>?_⟩
    have et:=E6 (u - 55296) (v - 56320)
    have g2:aE K H1 p1 (([u - 55296,v - 56320]:List Int).map V.int):=g1.lst
    obtain⟨ps,e5⟩ : ∃ ps:List Int,ps=[u - 55296,v - 56320]:=⟨_,rfl⟩
    rw[<- e5]at g2 et
    have e10:(2:Int) ^ 10=1024:=by decide
    refine⟨p1,ps,10,rfl,g2,?_,by decide,by rw[e5]; simp,?_⟩
    ·intro x hx
     rw[e5]at hx
     simp at hx
     rcases hx with rfl | rfl <;> omega
    ·rw[et]
     exact k _ g1.sm
   ·have es:o=none:=eo.trans (if_neg λz=>e2 (by simp; exact z.2))
    subst es
    exact k _ (af.refl _)
  ·have es:o=none:=eo.trans (if_neg λz=>e1 (by simp; exact z.1))
   subst es
   exact k _ (af.refl _)
 ·have e2 : ¬ L=2:=λz=>e2 (decide_eq_true z)
  have z0:us=[]:=List.length_eq_zero_iff.mp (by omega)
  subst z0
  subst eo
  exact k _ (af.refl _)
def Po(t:Adr)(H:Hp)(o:Addr)(h:Bool):Prop:=∃ dx,H o=some (.ins t.cw dx [("order",.str (f6 h))])
theorem Po.mono{H H':Hp}{o:Addr}{h:Bool}(p:Po t H o h)(s:af H H'):Po t H' o h:=let ⟨dx,z⟩:=p; ⟨dx,s _ _ z⟩
def zQ(t:Adr):Sp:=λvs H Q _=>∃ (x dx:Addr) (h:Bool),vs=[.ref x,.str (f6 h)]/\H x=some (.ins t.cw dx [])/\Q .non (upd H x (.ins t.cw dx [("order",.str (f6 h))]))
theorem JS (T:Txt w K mg t):bv P w K mg base bC 1 t.rc t.mL ["self", "order"] (zQ t):=by
 refine T.RW.okQ Hg (λvs H Q E h=>by obtain⟨x,dx,v,rfl,_⟩:=h; rfl) λcdv A outer s H vs Q E hr h=>?_
 obtain⟨x,dx,h,rfl,hx,k⟩:=h
 refine⟨_,(ai (aF (bZ (dv (eJ (dE (bi (i9 (K:=K) rfl) T.n_isinstance PyProof.Rows.boot_isinstance (ab (aa 1) (ab (iQ rfl T.n_str PyProof.Rows.boot_str) ad))))) (du (av (NM (K:=K) rfl rfl T.CS) (aa 1) (gP (v:=.ref t.yD) rfl T.De rfl) (by with_unfolding_all rfl))))) (ah fG) aG)
  (ah (cg (K:=K) rfl (aa 0) (aa 1)))),?_⟩
 refine⟨_,_,.str _,by with_unfolding_all rfl,?_⟩
 refine⟨_,rfl,rfl,?_⟩
 refine ak (λe=>absurd e (by cases h <;> simp[gw,f6])) (λ_=>?_)
 exact⟨x,_,dx,_,rfl,hx,T.gb,T.sx,by decide,k⟩
theorem L0 (T:Txt w K mg t):hX P w K mg base "PairTongue" t.cw 1 t.rc t.mL ["self", "order"] [] (zQ t):=⟨T.Ng,T.KM,⟨[],T.Q4,.nil⟩,JS T⟩
theorem MI (T:Txt w K mg t):bp P w K mg base "is_byte" 2 t.xY t.um ["thing"] (lR (λv=>cZ v 0 255) K):=by
 refine⟨T.N3,T.Ee.kp,T.Qe,T.Ee.okQ GL ox λcdv A outer s H vs Q E hr h=>?_⟩
 obtain⟨v,rfl,kd,k⟩:=h
 refine⟨_,(ah (al (ib (aN (sS T) hr (ab (aa 0) ad)) (gl (kT fk fk aj (aa 0) (bP T.Pj)))))),?_⟩
 refine⟨v,rfl,kd,?_⟩
 refine ak (λe=>?_) (λe=>?_)
 ·obtain⟨i,rfl⟩:=sI e
  refine ak (λe1=>?_) (λe1=>?_)
  ·exact cc k (by simp[cZ]at *; omega)
  ·exact cc k (by simp[cZ]at *; omega)
 ·exact cc k (by cases v <;> simp_all [iU,cZ])
def Fk(t:Adr):Sp:=λvs H Q _=>∃ (o a:Addr) (h:Bool) (x y:Int),vs=[.ref o,.ref a]/\Po t H o h/\H a=some (.lst [.int x,.int y])/\∀ p H',af H H'->H' p=some (.lst ((if h then [x,y] else [y,x]).map V.int))->Q (.ref p) H'
theorem B8 (T:Txt w K mg t):bT P w K mg base t.cw "turned" 1 t.yB t.uQ ["self", "pair"] (Fk t):=by
 refine⟨T.gb,T.Ky,T.QZ,T.RT.okQ He (λvs H Q E h=>by obtain⟨o,a,h,x,y,rfl,_⟩:=h; rfl) λcdv A outer s H vs Q E hr h=>?_⟩
 obtain⟨o,a,h,x,y,rfl,⟨dx,ho⟩,ha,k⟩:=h
 have hu:=hr.units
 refine⟨_,(ah (al (gn (av (bo (K:=K) rfl hu) (aq (K:=K) rfl (aa 0)) bX (aD _)) (aa 1) (aS (ab (aL (aM (K:=K) rfl) (aa 1) aj (λ_ _=>rfl)) (ab (aL (aM (K:=K) rfl) (aa 1) aj (λ_ _=>rfl)) ad)))))),?_⟩
 refine⟨o,_,dx,_,_,rfl,ho,T.gb,T.sx,rfl,?_⟩
 cases h with
 | true =>
  refine⟨_,_,ap.str _,ap.str _,by decide +kernel,by decide +kernel,?_⟩
  refine ak (λ_=>?_) (λe=>absurd (by decide +kernel) e)
  exact k _ _ (af.refl _) ha
 | false =>
  refine⟨_,_,ap.str _,ap.str _,by decide +kernel,by decide +kernel,?_⟩
  refine ak (λe=>absurd e (by decide +kernel)) (λ_=>?_)
  refine⟨_,.int y,.inl (.of ha),aV (j:=1) rfl,?_⟩
  refine⟨_,.int x,.inl (.of ha),aV (j:=0) rfl,?_⟩
  exact⟨sz rfl,λp H' g=>k _ _ g.sm g.at_⟩
def Fi(K:PySem.W.Frag)(t:Adr):Sp:=λvs H Q _=>∃ (o a:Addr) (h:Bool) (r:List Int),vs=[.ref o,.ref a]/\Po t H o h/\aE K H a (r.map V.int)/\(r.length=2\/r.length=4)/\bq r/\∀ p H',aZ H p (.lst ((fe h r).map V.int)) H'->Q (.ref p) H'
theorem MT (T:Txt w K mg t):bT P w K mg base t.cw "units_in" 3 t.yz t.uO ["self", "row"] (Fi K t):=by
 refine⟨T.gb,T.Kw,T.QX,T.RQ.okQ Hc (λvs H Q E h=>by obtain⟨o,a,h,r,rfl,_⟩:=h; rfl) λcdv A outer s H vs Q E hr h=>?_⟩
 obtain⟨o,a,h,r,rfl,po,ha,hl,hb,k⟩:=h
 have hu:=hr.units
 refine⟨_,(ah (al (fh rfl (cG.of (fns:=(ag iN).names) (N:=["self", "row"]) (Nc:=["at", "self", "row"]) (nv:=1) (caps:=[0,1]) rfl rfl (by decide +kernel)) (HQ rfl T.n_range (ab aj (ab (bi (bA (K:=K) rfl) T.n_len PySem.boot_len (ab (aa 1) ad)) (ab aj ad)))) (λ_ _ _ _=>(ba (i:=0) (show List.Nodup (["at", "self", "row"]:List Str) by decide +kernel) rfl (Or.inl rfl) (Or.inr rfl))) (λ_ _ _ _=>d6) (λ_ _ _ _=>(aN (sP T) hr (ab (bJ (B8 T) hr (aa 1) (ab (cU (c9 (K:=K) rfl) (aa 2) (ci (aa 0)) (ci (au (aX (K:=K) rfl) (aa 0) aj))) ad)) (ab (bP T.Df) ad))))))),?_⟩
 refine⟨_,.inl ha,?_⟩
 refine⟨r.length,2,by rw[List.length_map]; rfl,by omega,by decide,by decide,?_⟩
 have hn:(fe h r).length=(r.length+(2 - 1)) / 2:=by
  match r,hl with
  | [x,y],_=>simp[fe]
  | [x,y,z,v],_=>simp[fe]
 refine OR (cs:=[some (.ref o),some (.ref a)]) ((fe h r).map V.int) (by rw[List.length_map,hn]) (bB (by omega)) (λi y H2 N hi hy s2 hN=>?_) k
 obtain⟨x1,x2,ec,m1,m2,rfl⟩ : ∃ x1 x2,eV r (some ((0:Int)+(i:Int)*((2:Nat):Int))) (some ((0:Int)+(i:Int)*((2:Nat):Int)+2))=[x1,x2]/\x1∈r/\x2∈r/\y=.int (u2 h x1 x2):=by
  match r,hl,hi,hy with
  | [x,z],_,hi,hy =>
   have:i=0:=by simp at hi; omega
   subst this
   cases hy
   exact⟨x,z,rfl,by simp,by simp,rfl⟩
  | [x,z,v,u],_,hi,hy =>
   have:i=0\/i=1:=by simp at hi; omega
   rcases this with rfl | rfl
   ·cases hy
    exact⟨x,z,rfl,by simp,by simp,rfl⟩
   ·cases hy
    exact⟨v,u,rfl,by simp,by simp,rfl⟩
 obtain⟨dx,ho⟩:=po.mono s2
 refine⟨o,dx,_,rfl,ho,rfl,?_⟩
 refine⟨_,rfl,_,rfl,_,s2.seq ha,λp3 H3 g3=>?_⟩
 rw[eU,ec]at g3
 refine⟨o,p3,h,x1,x2,rfl,⟨dx,g3.sm _ _ ho⟩,g3.at_,λp4 H4 s4 h4=>?_⟩
 have b1:=hb x1 m1
 have b2:=hb x2 m2
 have e8:(2:Int) ^ 8=256:=by decide
 refine⟨p4,if h then [x1,x2] else [x2,x1],8,rfl,.of h4,?_,by decide,by cases h <;> simp,?_⟩
 ·intro q hq
  cases h <;> simp at hq <;> rcases hq with rfl | rfl <;> omega
 ·have et:cb 8 (if h then [x1,x2] else [x2,x1])=u2 h x1 x2:=by cases h <;> simp[cb,u2]
  rw[et]
  exact hN _ (g3.sm.trans s4)
theorem EB(h:Bool) : ∀ r:List Int,r.length=2\/r.length=4->(fe h r).length<=2
 | [_,_],_=>by simp[fe]
 | [_,_,_,_],_=>by simp[fe]
def zF(K:PySem.W.Frag)(t:Adr):Sp:=λvs H Q _=>∃ (o a:Addr) (h:Bool) (r:List Int),vs=[.ref o,.ref a,.int 0]/\Po t H o h/\aE K H a (r.map V.int)/\bq r/\r.length<=1000/\(∀ n,fE h r=some n->∀ p H',aZ H p (.tup [.int n,.int 0]) H'->Q (.ref p) H')/\(fE h r=none->∀ H',af H H'->Q .non H')
theorem JK (T:Txt w K mg t):bv P w K mg base bC 5 t.q8 t.mJ ["self", "row", "page"] (zF K t):=by
 refine T.RP.okQ An (λvs H Q E h=>by obtain⟨o,a,h,r,rfl,_⟩:=h; rfl) λcdv A outer s H vs Q E hr h=>?_
 obtain⟨o,a,h,r,rfl,po,ha,hb,hl,k1,k2⟩:=h
 have hu:=hr.units
 refine⟨_,(ai (aF (av (Cp (K:=K) rfl) (bi (bA (K:=K) rfl) T.n_len PySem.boot_len (ab (aa 1) ad)) (bK (ab aj (ab aj ad))) (by with_unfolding_all rfl)) (ah (al bY)) aG)
  (ai (aJ (i:=3) An.nd rfl (by first | exact Or.inl rfl | exact Or.inr rfl) (aN (Mu T) hr (ab (bJ (MT T) hr (aa 0) (ab (aa 1) ad)) ad)))
  (ah (al (gn (av iX (aa 3) bY (aD _)) bY (bK (ab (aa 3) (ab (aa 2) ad)))))))),?_⟩
 refine⟨_,.inl ha,?_⟩
 refine⟨sz rfl,λp1 H1 g1=>?_⟩
 refine⟨_,.inr g1.tup,rfl,rfl,?_⟩
 have ei:cm (.int ((r.map V.int).length:Int)) [V.int 2,V.int 4]=decide (r.length=2\/r.length=4):=by
  rw[List.length_map,Bool.eq_iff_iff]
  simp[cm,db]
  omega
 refine ak (λe=>?_) (λe=>?_)
 ·have e:(!cm (.int ((r.map V.int).length:Int)) [V.int 2,V.int 4])=true:=e
  rw[ei]at e
  have c : ¬ (r.length=2\/r.length=4):=by simpa using e
  exact k2 (if_neg c) _ g1.sm
 have e : ¬ (!cm (.int ((r.map V.int).length:Int)) [V.int 2,V.int 4])=true:=e
 rw[ei]at e
 have c:r.length=2\/r.length=4:=by simp at e; omega
 have ew:fE h r=h8 (fe h r):=if_pos c
 obtain⟨dx,ho⟩:=po.mono g1.sm
 refine⟨o,dx,_,rfl,ho,rfl,?_⟩
 refine⟨o,a,h,r,rfl,⟨dx,ho⟩,g1.sm.seq ha,c,hb,λp2 H2 g2=>?_⟩
 refine⟨p2,fe h r,rfl,g2.lst,EB h r c,λH3 s3=>?_⟩
 have sA:=g1.sm.trans (g2.sm.trans s3)
 rw[ew]at k1 k2
 cases es:h8 (fe h r) with
 | none=>exact k2 es _ sA
 | some n=>exact⟨sz rfl,λp4 H4 g4=>k1 n es p4 H4 (g4.after sA)⟩
theorem B7 (T:Txt w K mg t):c7 P w K mg base t.cw "whole" 5 t.q8 t.mJ ["self", "row", "page"] [] (zF K t) :=
 ⟨T.gb,T.Ku,⟨_,T.QV,.nil⟩,JK T⟩
def lA(h:Bool)(r:List Int):Option (List Int):=(il h).find? λf=>(fE h (r++f)).isSome
def zV(K:PySem.W.Frag)(t:Adr):Sp:=λvs H Q _=>∃ (o a:Addr) (h:Bool) (r:List Int),vs=[.ref o,.ref a,.int 0]/\Po t H o h/\aE K H a (r.map V.int)/\bq r/\r.length<=900/\(∀ f,lA h r=some f->∀ p H',aZ H p (.lst (f.map V.int)) H'->Q (.ref p) H')/\(lA h r=none->∀ H',af H H'->Q .non H')
def pI(t:Adr)(h:Bool):List Addr:=if h then [t.a_FILLS_0_0,t.a_FILLS_0_1,t.a_FILLS_0_2,t.a_FILLS_0_3,t.a_FILLS_0_4] else [t.a_FILLS_1_0,t.a_FILLS_1_1,t.a_FILLS_1_2,t.a_FILLS_1_3,t.a_FILLS_1_4]
theorem Os(T:Txt w K mg t)(h:Bool){i:Nat}{x:V}(hx:((pI t h).map V.ref)[i]? = some x) : ∃ b f,x=.ref b/\(il h)[i]? = some f/\∀ H,bd K H b (f.map V.int):=by
 cases h with
 | true =>
  match i,hx with
  | 0,hx=>cases hx; exact⟨_,_,rfl,rfl,T.q_FILLS_0_0⟩
  | 1,hx=>cases hx; exact⟨_,_,rfl,rfl,T.q_FILLS_0_1⟩
  | 2,hx=>cases hx; exact⟨_,_,rfl,rfl,T.q_FILLS_0_2⟩
  | 3,hx=>cases hx; exact⟨_,_,rfl,rfl,T.q_FILLS_0_3⟩
  | 4,hx=>cases hx; exact⟨_,_,rfl,rfl,T.q_FILLS_0_4⟩
 | false =>
  match i,hx with
  | 0,hx=>cases hx; exact⟨_,_,rfl,rfl,T.q_FILLS_1_0⟩
  | 1,hx=>cases hx; exact⟨_,_,rfl,rfl,T.q_FILLS_1_1⟩
  | 2,hx=>cases hx; exact⟨_,_,rfl,rfl,T.q_FILLS_1_2⟩
  | 3,hx=>cases hx; exact⟨_,_,rfl,rfl,T.q_FILLS_1_3⟩
  | 4,hx=>cases hx; exact⟨_,_,rfl,rfl,T.q_FILLS_1_4⟩
theorem CI{α:Type}{p:α->Bool} : ∀ {l:List α} {i:Nat} {f:α},l[i]? = some f->(∀ g∈l.take i,p g=false)->p f=true->l.find? p=some f
 | a :: r,0,f,h,_,hp=>by cases h; rw[List.find?_cons,hp]
 | a :: r,i+1,f,h,hn,hp=>by
  rw[List.find?_cons,hn a (by simp)]
  exact CI (l:=r) (i:=i) h (λg hg=>hn g (by simp[hg])) hp
theorem JV (T:Txt w K mg t):bv P w K mg base bC 6 t.re t.mM ["self", "row", "page"] (zV K t):=by
 refine T.RX.okQ Ao (λvs H Q E h=>by obtain⟨o,a,h,r,rfl,_⟩:=h; rfl) λcdv A outer s H vs Q E hr h=>?_
 obtain⟨o,a,h,r,rfl,po,ha,hb,hl,k1,k2⟩:=h
 have hu:=hr.units
 refine⟨_,(ai (dw PassesOwn.never rfl (HN (K:=K) rfl (HY (K:=K) rfl rfl T.CS rfl T.De (aq (K:=K) rfl (aa 0)))) (ba (i:=3) Ao.nd rfl (by first | exact Or.inl rfl | exact Or.inr rfl)) (ah (aF (av oS (bO (B7 T) hr (aa 0) (ab (au (aX (K:=K) rfl) (aa 1) (dR (fw (K:=K) rfl) T.n_list PyProof.Rows.boot_list (ab (aa 3) ad))) (ab (aa 2) ad))) bY (aD _)) (ah (al (dR (fw (K:=K) rfl) T.n_list PyProof.Rows.boot_list (ab (aa 3) ad)))) aG)))
  (ah (al bY))),?_⟩
 obtain⟨dx,ho⟩:=id po
 refine⟨o,_,dx,_,_,rfl,ho,T.gb,T.sx,rfl,?_⟩
 obtain⟨F,eF,qF⟩ : ∃ F,gw [(t.h_FILLS_0, "high",t.a_FILLS_0),(t.h_FILLS_1, "low",t.a_FILLS_1)] (f6 h)=some F/\∀ H,bd K H F ((pI t h).map V.ref):=by
  cases h with
  | true=>exact⟨_,by simp[gw,f6],T.q_FILLS_0⟩
  | false=>exact⟨t.a_FILLS_1,by simp[gw,f6,show ¬ (("high" : Str) = "low") by decide],T.q_FILLS_1⟩
 refine⟨_,F,rfl,eF,?_⟩
 have eL:((pI t h).map V.ref).length=(il h).length:=by cases h <;> rfl
 refine⟨_,rfl,⟨_,qF _⟩,Oi (K:=K) (a:=F) (xs:=(pI t h).map V.ref) (λi σ H'=>af H H'/\(∀ g∈(il h).take i,(fE h (r++g)).isSome=false)/\∃ v3,σ=[some (.ref o),some (.ref a),some (.int 0),v3]) ⟨af.refl _,λg z=>by simp at z,_,rfl⟩ (λi σ H' _ z=>qF _) ?_ ?_⟩
 ·rintro i x σ H2 hx ⟨s2,hn,v3,rfl⟩
  obtain⟨b,f,rfl,hf,qb⟩:=Os T h hx
  have hm:=List.mem_of_getElem? hf
  have hfl:=Ol hm
  refine⟨o,dx,_,rfl,s2 _ _ ho,rfl,?_⟩
  refine⟨_,.inr (qb _),λp3 H3 g3=>?_⟩
  have s3:=s2.trans g3.sm
  refine⟨_,_,s3.seq ha,g3.lst,bB (by rw[List.length_map,List.length_map]; omega),λp4 H4 g4=>?_⟩
  rw[<- List.map_append]at g4
  have s4:=s3.trans g4.sm
  refine⟨o,p4,h,r++f,rfl,⟨dx,s4 _ _ ho⟩,g4.lst,hb.app (Om hm),by rw[List.length_append]; omega,λn hw p5 H5 g5=>?_,λhw H5 s5=>?_⟩
  ·have ef:lA h r=some f:=CI hf hn (by rw[hw]; rfl)
   exact⟨_,.inr (qb _),λp6 H6 g6=>k1 f ef p6 H6 (g6.after (s4.trans g5.sm))⟩
  ·refine⟨s4.trans s5,λg hg=>?_,_,rfl⟩
   rw[List.take_add_one,hf]at hg
   rcases List.mem_append.mp hg with hg | hg
   ·exact hn g hg
   ·have:g=f:=by simpa using hg
    rw[this,hw]; rfl
 ·rintro σ H2 ⟨s2,hn,v3,rfl⟩
  rw[eL,List.take_length]at hn
  exact k2 (List.find?_eq_none.mpr λg hg=>by rw[hn g hg]; simp) _ s2
theorem MV (T:Txt w K mg t):c7 P w K mg base t.cw "fill" 6 t.re t.mM ["self", "row", "page"] [] (zV K t) :=
 ⟨T.gb,T.KB,⟨_,T.Q5,.nil⟩,JV T⟩
theorem IE(h:Bool)(n:Int):(d8 h n).length=if n < 65536 then 2 else 4:=by
 unfold d8 cf
 by_cases c:n < 65536
 ·rw[if_pos c,if_pos c,mz]; rfl
 ·rw[if_neg c,if_neg c,mz]; rfl
theorem ED(h:Bool){u:Int}(hu:0<=u/\u < 65536):bq (ub h u):=by
 intro b hb
 unfold ub at hb
 cases h <;> simp at hb <;> omega
theorem IG(h:Bool){n:Int}(hs:Sg n):bq (d8 h n):=by
 intro b hb
 unfold d8 at hb
 obtain⟨u,hu,hb⟩:=List.mem_flatMap.mp hb
 exact ED h (yZ hs hu) b hb
theorem C1(f:Int)(r:List Int):de ((f :: r).map V.int) (some 1) none=r.map V.int:=by
 rw[eU]
 congr 1
 exact mS (f :: r) 1
def FR:Sp:=λvs H Q _=>∃ f,vs=[.int f]/\Q (.int (lb f)) H
theorem MC (T:Txt w K mg t):bp P w K mg base "length_behind" 1 t.xN t.uc ["first"] FR:=by
 refine⟨T.NR,T.D3.kp,T.P3,T.D3.okQ GC (λvs H Q E h=>by obtain⟨f,rfl,_⟩:=h; rfl) λcdv A outer s H vs Q E hr h=>?_⟩
 obtain⟨f,rfl,k⟩:=h
 have hu:=hr.units
 refine⟨_,(ai (aF (av dA (aa 0) aj (aD _)) (ah (al aj)) aG)
  (ai (aF (bZ (dv (av dA (aa 0) aj (aD _)) (du (av gy (aa 0) aj (aD _))))) (ah (al aj)) aG)
  (ai (aF (av dA (aa 0) aj (aD _)) (ah (al aj)) aG)
  (ai (aF (av dA (aa 0) aj (aD _)) (ah (al aj)) aG)
  (ah (al aj)))))),?_⟩
 have fit : ∀ {n:Int},n=lb f->Q (.int n) H:=λe=>e ▸ k
 refine ak (λe=>fit ?_) (λe=>?_)
 ·simp at e; unfold lb; rw[if_pos (by omega)]
 refine ak (λe1=>?_) (λe1=>?_)
 ·exact fit (by simp at e e1; unfold lb; rw[if_neg (by omega),if_pos (by omega)])
 refine ak (λe2=>?_) (λe2=>?_)
 ·exact fit (by simp at e e1 e2; unfold lb; rw[if_neg (by omega),if_pos (by omega)])
 refine ak (λe3=>?_) (λe3=>?_)
 ·exact fit (by simp at e e1 e2 e3; unfold lb; rw[if_neg (by omega),if_neg (by omega),if_pos (by omega)])
 refine ak (λe4=>?_) (λe4=>?_)
 ·exact fit (by simp at e e1 e2 e3 e4; unfold lb; rw[if_neg (by omega),if_neg (by omega),if_neg (by omega),if_pos (by omega)])
 ·exact fit (by simp at e e1 e2 e3 e4; unfold lb; rw[if_neg (by omega),if_neg (by omega),if_neg (by omega),if_neg (by omega)])
def Gi(K:PySem.W.Frag):Sp:=λvs H Q _=>∃ (a:Addr) (f:Int) (r:List Int) (p:Nat),vs=[.ref a,.int (p:Int)]/\aE K H a ((f :: r).map V.int)/\∀ b H',af H H'->bd K H' b [.int (eg f p),.int (fK f p)]->Q (.ref b) H'
theorem BV (T:Txt w K mg t):bp P w K mg base "bounds_behind" 1 t.ya t.uv ["row", "place"] (Gi K):=by
 refine⟨T.Ob,T.Ek.kp,T.Qk,T.Ek.okQ GP (λvs H Q E h=>by obtain⟨a,f,r,p,rfl,_⟩:=h; rfl) λcdv A outer s H vs Q E hr h=>?_⟩
 obtain⟨a,f,r,p,rfl,h1,k⟩:=h
 have hu:=hr.units
 refine⟨_,(ai (aF (av (bo (K:=K) rfl hu) (aa 1) aj (aD _)) (ah (al (HZ (K:=K) rfl T.OL rfl T.Pb (aL (aM (K:=K) rfl) (aa 0) aj (λ_ _=>rfl)) (bK (ab (bP T.qN) (ab (bP T.Dc) ad)))))) aG)
  (ah (al (bK (ab (bP T.qN) (ab (bP T.Dc) ad)))))),?_⟩
 refine ak (λe=>?_) (λe=>?_)
 ·have hp:p=1:=by have:=of_decide_eq_true e; omega
  subst hp
  refine⟨_,.int f,.inl h1,aV (j:=0) rfl,?_⟩
  refine⟨sz rfl,λp1 H1 g1=>?_⟩
  refine⟨f,rfl,?_⟩
  by_cases c1:f=224
  ·subst c1; exact k _ _ g1.sm (T.q_SECONDS_0 H1)
  by_cases c2:f=237
  ·subst c2; exact k _ _ g1.sm (T.q_SECONDS_1 H1)
  by_cases c3:f=238
  ·subst c3; exact k _ _ g1.sm (T.q_SECONDS_2 H1)
  by_cases c4:f=240
  ·subst c4; exact k _ _ g1.sm (T.q_SECONDS_3 H1)
  by_cases c5:f=244
  ·subst c5; exact k _ _ g1.sm (T.q_SECONDS_4 H1)
  have e:mw [(224,t.a_SECONDS_0),(237,t.a_SECONDS_1),(238,t.a_SECONDS_2),(240,t.a_SECONDS_3),(244,t.a_SECONDS_4)] f=none:=by
   simp[mw,Ne.symm c1,Ne.symm c2,Ne.symm c3,Ne.symm c4,Ne.symm c5]
  rw[e]
  refine k _ _ g1.sm ?_
  rw[eg,fK,if_pos rfl,if_pos rfl,kY,ij,if_neg c1,if_neg c4,if_neg c2,if_neg c3,if_neg c5]
  exact g1.tup
 ·refine⟨sz rfl,λp1 H1 g1=>?_⟩
  have hp:p≠1:=λz=>by subst z; exact e rfl
  refine k _ _ g1.sm ?_
  rw[eg,fK,if_neg hp,if_neg hp]
  exact g1.tup
def FY(K:PySem.W.Frag):Sp:=λvs H Q _=>∃ (a:Addr) (f:Int) (r:List Int),vs=[.ref a]/\aE K H a ((f :: r).map V.int)/\r.length<=1000/\∀ H',af H H'->(rq f r->Q (.bl true) H')/\(¬ rq f r->Q (.bl false) H')
theorem MJ (T:Txt w K mg t):bp P w K mg base "fits_behind" 2 t.xZ t.uo ["row"] (FY K):=by
 refine⟨T.N5,T.Ef.kp,T.Qf,T.Ef.okQ rZ (λvs H Q E h=>by obtain⟨a,f,r,rfl,_⟩:=h; rfl) λcdv A outer s H vs Q E hr h=>?_⟩
 obtain⟨a,f,r,rfl,h1,hl,k⟩:=h
 have hu:=hr.units
 refine⟨_,(ai (dw PassesOwn.never rfl (AD rfl T.n_range (ab aj (ab (bi (bA (K:=K) rfl) T.n_len PySem.boot_len (ab (aa 0) ad)) ad))) (ba (i:=1) rZ.nd rfl (by first | exact Or.inl rfl | exact Or.inr rfl)) (ai (aJ (i:=2) rZ.nd rfl (by first | exact Or.inl rfl | exact Or.inr rfl) (aN (BV T) hr (ab (aa 0) (ab (aa 1) ad))))
  (ah (aF (eJ (AF fk fk (aL (aM (K:=K) rfl) (aa 2) aj (λ_ _=>rfl)) (aL (aM (K:=K) rfl) (aa 0) (aa 1) (λ_ _=>rfl)) (aL (aM (K:=K) rfl) (aa 2) aj (λ_ _=>rfl)))) (ah (al fY)) aG))))
  (ah (al fY))),?_⟩
 refine⟨_,.inl h1,?_⟩
 have hL:((List.map V.int (f :: r)).length:Int)=(r.length:Int)+1:=by simp
 refine⟨1,_,rfl,⟨by omega,by omega,by omega,by omega⟩,?_⟩
 have hN:(((List.map V.int (f :: r)).length:Int) - 1).toNat=r.length:=by omega
 rw[hN]
 refine o0 (lo:=1) (n:=r.length) (λi σ H'=>af H H'/\(∀ j x,j < i->r[j]? = some x->eg f (j+1)<=x/\x<=fK f (j+1))/\∃ v1 v2,σ=[some (.ref a),v1,v2])
  ⟨af.refl _,λj x z=>absurd z (Nat.not_lt_zero _),_,_,rfl⟩ ?_ ?_
 ·rintro i σ H2 hi ⟨s2,p2,v1,v2,rfl⟩
  obtain⟨x,hx⟩ : ∃ x,r[i]? = some x:=⟨_,List.getElem?_eq_getElem hi⟩
  have c1:(1:Int)+(i:Int)=((i+1:Nat):Int):=by omega
  refine⟨a,f,r,i+1,by rw[<- c1]; rfl,s2.seq h1,λb H3 s3 hb=>?_⟩
  refine⟨_,.int (eg f (i+1)),.inr hb,aV (j:=0) rfl,?_⟩
  have hax:cR (List.map V.int (f :: r)) (1+(i:Int))=some (.int x):=by
   rw[c1]; exact aV (by rw[List.map_cons,List.getElem?_cons_succ,List.getElem?_map,hx]; rfl)
  refine⟨_,.int x,.inl (s3.seq (s2.seq h1)),hax,?_⟩
  have bad : ¬ (eg f (i+1)<=x/\x<=fK f (i+1))->Q (.bl false) H3:=λz=>(k _ (s2.trans s3)).2 λy=>z (y i x hx)
  refine ak (λe=>?_) (λe=>?_)
  ·refine⟨_,.int (fK f (i+1)),.inr hb,aV (j:=1) rfl,?_⟩
   refine ak (λe2=>?_) (λe2=>?_)
   ·exact bad λz=>by simp at e2; omega
   ·refine⟨s2.trans s3,λj y hj hy=>?_,_,_,rfl⟩
    by_cases c:j < i
    ·exact p2 j y c hy
    ·have:j=i:=by omega
     subst this
     rw[hx]at hy; cases hy
     have:=of_decide_eq_true e
     simp at e2
     omega
  ·exact bad λz=>e (decide_eq_true z.1)
 ·rintro σ H2 ⟨s2,p2,v1,v2,rfl⟩
  exact (k _ s2).1 λi x hx=>p2 i x (List.getElem?_eq_some_iff.mp hx).1 hx
def FK(K:PySem.W.Frag):Sp:=λvs H Q _=>∃ (a:Addr) (f:Int) (r:List Int),vs=[.ref a]/\aE K H a ((f :: r).map V.int)/\r.length<=1000/\∀ H',af H H'->(lM f r->Q (.int (lb f - ((r.length:Int)+1))) H')/\(¬ lM f r->Q .non H')
theorem BP (T:Txt w K mg t):bp P w K mg base "missing" 3 t.xL t.t5 ["row"] (FK K):=by
 refine⟨T.NP,T.D1.kp,T.P1,T.D1.okQ Ae (λvs H Q E h=>by obtain⟨a,f,r,rfl,_⟩:=h; rfl) λcdv A outer s H vs Q E hr h=>?_⟩
 obtain⟨a,f,r,rfl,h1,hl,k⟩:=h
 have hu:=hr.units
 refine⟨_,(ai (aJ (i:=1) Ae.nd rfl (by first | exact Or.inl rfl | exact Or.inr rfl) (au cv (aN (MC T) hr (ab (aL (aM (K:=K) rfl) (aa 0) aj (λ_ _=>rfl)) ad)) (bi (bA (K:=K) rfl) T.n_len PySem.boot_len (ab (aa 0) ad))))
  (ai (aF (bZ (dv (av dA (aa 1) aj (aD _)) (du (eJ (dE (aN (MJ T) hr (ab (aa 0) ad))))))) (ah (al bY)) aG)
  (ah (al (aa 1))))),?_⟩
 refine⟨_,.int f,.inl h1,aV (j:=0) rfl,?_⟩
 refine⟨f,rfl,?_⟩
 refine⟨_,.inl h1,?_⟩
 have hL:((List.map V.int (f :: r)).length:Int)=(r.length:Int)+1:=by simp
 refine ak (λe=>?_) (λe=>?_)
 ·exact (k _ (af.refl _)).2 λz=>by have:=of_decide_eq_true e; have:=z.1; omega
 ·have e' : ¬ (lb f - ((List.map V.int (f :: r)).length:Int) < 0):=λz=>e (decide_eq_true z)
  refine⟨a,f,r,rfl,h1,hl,λH2 s2=>⟨λy=>?_,λy=>?_⟩⟩
  ·have q:=(k _ s2).1 ⟨by omega,y⟩
   rw[<- hL]at q
   exact q
  ·exact (k _ s2).2 λz=>y z.2
def zU(K:PySem.W.Frag):Sp:=λvs H Q _=>∃ (o a:Addr) (rr:List Int),vs=[.ref o,.ref a,.int 0]/\aE K H a (rr.map V.int)/\rr.length<=1000/\(yT rr->∀ p H',aZ H p (.lst ((o7 rr).map V.int)) H'->Q (.ref p) H')/\(¬ yT rr->∀ H',af H H'->Q .non H')
theorem JW (T:Txt w K mg t):bv P w K mg base bC 4 t.rh t.mP ["self", "row", "page"] (zU K):=by
 refine T.R0.okQ Ap (λvs H Q E h=>by obtain⟨o,a,rr,rfl,_⟩:=h; rfl) λcdv A outer s H vs Q E hr h=>?_
 obtain⟨o,a,rr,rfl,h1,hl,k1,k2⟩:=h
 have hu:=hr.units
 refine⟨_,(ai (aF (eJ (fZ (K:=K) rfl (aa 1))) (ah (al (aS (ab aj ad)))) aG)
  (ai (aJ (i:=3) Ap.nd rfl (by first | exact Or.inl rfl | exact Or.inr rfl) (aN (BP T) hr (ab (aa 1) ad)))
  (ai (aF (av iX (aa 3) bY (aD _)) (ah (al bY)) aG)
  (ah (al (fh rfl (cG.of (fns:=(ag iO).names) (N:=["self", "row", "page", "lack"]) (Nc:=["place", "row"]) (nv:=1) (caps:=[1]) rfl rfl (by decide +kernel)) (AD rfl T.n_range (ab (bi (bA (K:=K) rfl) T.n_len PySem.boot_len (ab (aa 1) ad)) (ab (au (aX (K:=K) rfl) (bi (bA (K:=K) rfl) T.n_len PySem.boot_len (ab (aa 1) ad)) (aa 3)) ad))) (λ_ _ _ _=>(ba (i:=0) (show List.Nodup (["place", "row"]:List Str) by decide +kernel) rfl (Or.inl rfl) (Or.inr rfl))) (λ_ _ _ _=>d6) (λ_ _ _ _=>(aL (aM (K:=K) rfl) (aN (BV T) hr (ab (aa 1) (ab (aa 0) ad))) aj (λ_ _=>rfl))))))))),?_⟩
 refine⟨_,.inl h1,?_⟩
 cases rr with
 | nil =>
  refine gU ?_
  exact⟨sz rfl,λp H' g=>k1 trivial p H' g⟩
 | cons f r =>
  refine mn ?_
  refine⟨a,f,r,rfl,h1,by simp at hl; omega,λH2 s2=>⟨λy=>?_,λy=>?_⟩⟩
  ·refine⟨_,.inl (s2.seq h1),?_⟩
   refine⟨_,.inl (s2.seq h1),?_⟩
   have hL:((List.map V.int (f :: r)).length:Int)=(r.length:Int)+1:=by simp
   have hb:=oy f
   have hy:=y.1
   refine⟨_,_,rfl,⟨by omega,by omega,by omega,by omega⟩,?_⟩
   have hn:(((List.map V.int (f :: r)).length:Int)+(lb f - ((r.length:Int)+1)) - ((List.map V.int (f :: r)).length:Int)).toNat=(lb f - ((r.length:Int)+1)).toNat:=by omega
   rw[hn]
   refine qk ((o7 (f :: r)).map V.int) (by rw[List.length_map,o7,List.length_map,List.length_range]) (bB (by omega)) (λi v H3 N hi hv s3 hN=>?_) λp H3 g3=>k1 y p H3 (g3.after s2)
   have ev:v=.int (eg f (r.length+1+i)):=by
    rw[List.getElem?_map,o7,List.getElem?_map,List.getElem?_range hi]at hv
    cases hv
    rfl
   subst ev
   have c1:((List.map V.int (f :: r)).length:Int)+(i:Int)=((r.length+1+i:Nat):Int):=by omega
   refine⟨a,f,r,r.length+1+i,by rw[<- c1]; rfl,s3.seq (s2.seq h1),λb H4 s4 hb=>?_⟩
   exact⟨_,.int (eg f (r.length+1+i)),.inr hb,aV (j:=0) rfl,hN _ s4⟩
  ·exact k2 y _ s2
theorem MX (T:Txt w K mg t):c7 P w K mg base t.dX "fill" 4 t.rh t.mP ["self", "row", "page"] [] (zU K) :=
 ⟨T.mW,T.KE,⟨_,T.Q8,.nil⟩,JW T⟩
def ig(n:Nat):Int:=if n=1 then 192 else if n=2 then 224 else 240
def fL:List Int->Int
 | []=>0
 | [f]=>f
 | f :: r=>cb 6 ((f - ig r.length) :: r.map λb=>b - 128)
def Gh(K:PySem.W.Frag):Sp:=λvs H Q _=>∃ (a:Addr) (rr:List Int),vs=[.ref a]/\aE K H a (rr.map V.int)/\ir rr/\∀ H',af H H'->Q (.int (fL rr)) H'
theorem Ez{f x:Int}{r:List Int}(h:ir (f :: x :: r)):(∀ y∈x :: r,128<=y/\y<=191)/\0<=f - ig (r.length+1)/\f - ig (r.length+1) < 64/\r.length<=2/\(∃ v,[0,0,192,224,240][r.length+2]? = some v/\v=ig (r.length+1)):=by
 have hl:=oy f
 obtain⟨⟨h1,h2⟩,h3⟩:lM f (x :: r)/\((x :: r).length:Int)+1=lb f:=h
 refine⟨((CH f _).mp h2).1,?_⟩
 have hn:(r.length:Int)+2=lb f:=by simp at h3; omega
 have hr:r.length<=2:=by omega
 unfold lb at hn
 have:r.length=0\/r.length=1\/r.length=2:=by omega
 rcases this with z | z | z <;> rw[z]at hn ⊢ <;> simp only [ig] <;> (repeat' split at hn) <;> first | omega | exact⟨by simp; omega,by simp; omega,by omega,_,rfl,rfl⟩
theorem MM (T:Txt w K mg t):bp P w K mg base "carried" 3 t.x9 t.uu ["row"] (Gh K):=by
 refine⟨T.Oa,T.Ej.kp,T.Qj,T.Ej.okQ GO (λvs H Q E h=>by obtain⟨a,rr,rfl,_⟩:=h; rfl) λcdv A outer s H vs Q E hr h=>?_⟩
 obtain⟨a,rr,rfl,h1,hw,k⟩:=h
 have hu:=hr.units
 refine⟨_,(ai (aF (av (bo (K:=K) rfl hu) (bi (bA (K:=K) rfl) T.n_len PySem.boot_len (ab (aa 0) ad)) aj (aD _)) (ah (al (aL (aM (K:=K) rfl) (aa 0) aj (λ_ _=>rfl)))) aG)
  (ah (al (aN (sP T) hr (ab (au (aX (K:=K) rfl) (aS (ab (au cv (aL (aM (K:=K) rfl) (aa 0) aj (λ_ _=>rfl)) (aL (aM (K:=K) rfl) (gP (v:=.ref t.m5) rfl T.Db rfl) (bi (bA (K:=K) rfl) T.n_len PySem.boot_len (ab (aa 0) ad)) (λ_ _=>rfl))) ad)) (fh rfl (cG.of (fns:=(ag iL).names) (N:=["row"]) (Nc:=["byte"]) (nv:=1) (caps:=[]) rfl rfl (by decide +kernel)) (dz (K:=K) rfl (cU (c9 (K:=K) rfl) (aa 0) (ci aj) dD)) (λ_ _ _ _=>(ba (i:=0) (show List.Nodup (["byte"]:List Str) by decide +kernel) rfl (Or.inl rfl) (Or.inr rfl))) (λ_ _ _ _=>d6) (λ_ _ _ _=>(au cv (aa 0) (bP T.qN))))) (ab (bP T.Dg) ad)))))),?_⟩
 refine⟨_,.inl h1,?_⟩
 match rr,h1,hw,k with
 | [],_,hw,_=>exact hw.elim
 | [f],h1,hw,k =>
  exact⟨_,.int f,.inl h1,aV (j:=0) rfl,k _ (af.refl _)⟩
 | f :: x :: r,h1,hw,k =>
  obtain⟨b1,b2,b3,b4,v,hv,ev⟩:=Ez hw
  have hL:((List.map V.int (f :: x :: r)).length:Int)=((r.length+2:Nat):Int):=by simp; omega
  refine⟨_,.int f,.inl h1,aV (j:=0) rfl,?_⟩
  refine⟨_,.inl h1,?_⟩
  have hat:cR (([0,0,192,224,240]:List Int).map V.int) ((List.map V.int (f :: x :: r)).length:Int)=some (.int v):=by
   rw[hL]; exact aV (by rw[List.getElem?_map,hv]; rfl)
  refine⟨_,.int v,.inr (T.AM _),hat,?_⟩
  refine⟨sz rfl,λp1 H1 g1=>?_⟩
  refine⟨_,rfl,_,g1.sm.seq h1,λp2 H2 g2=>?_⟩
  rw[C1]at g2
  refine⟨_,rfl,⟨_,g2.lst⟩,?_⟩
  refine i7 (((x :: r).map λb=>b - 128).map V.int) (by simp) g2.lst (bB (by simp; omega)) (λi y v H3 N hy hv s3 hN=>?_) λp3 H3 g3=>?_
  ·rw[List.getElem?_map]at hy
   obtain⟨y,hy',rfl⟩:=Option.map_eq_some_iff.mp hy
   rw[List.getElem?_map,List.getElem?_map,hy']at hv
   cases hv
   exact hN _ (af.refl _)
  refine⟨_,_,(g2.sm.trans g3.sm).seq g1.lst,g3.lst,bB (by simp; omega),λp4 H4 g4=>?_⟩
  refine⟨p4,(f - v) :: (x :: r).map λb=>b - 128,6,rfl,g4.lst,?_,by decide,by simp; omega,?_⟩
  ·intro y hy
   rcases List.mem_cons.mp hy with rfl | hy
   ·rw[ev]; exact⟨b2,b3⟩
   ·obtain⟨b,hb,rfl⟩:=List.mem_map.mp hy
    have:=b1 b hb
    exact⟨by omega,show b - 128 < 64 by omega⟩
  ·rw[ev]
   exact k _ (g1.sm.trans (g2.sm.trans (g3.sm.trans g4.sm)))
def zG(K:PySem.W.Frag):Sp:=λvs H Q _=>∃ (o a:Addr) (rr:List Int),vs=[.ref o,.ref a,.int 0]/\aE K H a (rr.map V.int)/\rr.length<=1000/\(ir rr->∀ p H',aZ H p (.tup [.int (fL rr),.int 0]) H'->Q (.ref p) H')/\(¬ ir rr->∀ H',af H H'->Q .non H')
theorem JL (T:Txt w K mg t):bv P w K mg base bC 4 t.rf t.mN ["self", "row", "page"] (zG K):=by
 refine T.RY.okQ Hh (λvs H Q E h=>by obtain⟨o,a,rr,rfl,_⟩:=h; rfl) λcdv A outer s H vs Q E hr h=>?_
 obtain⟨o,a,rr,rfl,h1,hl,k1,k2⟩:=h
 have hu:=hr.units
 refine⟨_,(ai (aF (bZ (fF (fZ (K:=K) rfl (aa 1)) (fX (av (bo (K:=K) rfl hu) (aN (BP T) hr (ab (aa 1) ad)) aj (aD _))))) (ah (al (bK (ab (aN (MM T) hr (ab (aa 1) ad)) (ab (aa 2) ad))))) aG)
  (ah (al bY))),?_⟩
 refine⟨_,.inl h1,?_⟩
 cases rr with
 | nil=>exact k2 id _ (af.refl _)
 | cons f r =>
  refine⟨a,f,r,rfl,h1,by simp at hl; omega,λH2 s2=>⟨λy=>?_,λy=>?_⟩⟩
  ·refine ak (λe=>?_) (λe=>?_)
   ·have hw:ir (f :: r):=⟨y,by have:=of_decide_eq_true e; omega⟩
    refine⟨a,f :: r,rfl,s2.seq h1,hw,λH3 s3=>?_⟩
    exact⟨sz rfl,λp H' g=>k1 hw p H' (g.after (s2.trans s3))⟩
   ·exact k2 (λz=>e (decide_eq_true (by have:=z.2; omega))) _ s2
  ·refine⟨_,_,ap.non,ap.int 0,rfl,rfl,?_⟩
   exact k2 (λz=>y z.1) _ s2
theorem MW (T:Txt w K mg t):c7 P w K mg base t.dX "whole" 4 t.rf t.mN ["self", "row", "page"] [] (zG K) :=
 ⟨T.mW,T.KC,⟨_,T.Q6,.nil⟩,JL T⟩
end
end My
namespace My
open PySem L2
def cu:List Int->Int->Option Nat
 | [],_=>none
 | m :: ms,n=>if m=n then some 0 else (cu ms n).map (· + 1)
theorem fJ{ns:List Int}{n:Int}:cu ns n=none ↔ n∉ns:=by
 induction ns with
 | nil=>simp[cu]
 | cons m ms ih =>
  unfold cu
  by_cases e:m=n
  ·simp[e]
  ·rw[if_neg e]
   have e' : ¬ n=m:=λz=>e z.symm
   simp[ih,e']
theorem ii : ∀ {ns:List Int} {n:Int} {i:Nat},cu ns n=some i->ns[i]? = some n/\∀ j,j < i->ns[j]? ≠ some n
 | [],n,i,h=>by cases h
 | m :: ms,n,i,h=>by
  unfold cu at h
  by_cases e:m=n
  ·rw[if_pos e]at h
   cases h
   exact⟨by simp[e],λj hj=>absurd hj (by omega)⟩
  ·rw[if_neg e]at h
   obtain⟨k,hk,rfl⟩:=Option.map_eq_some_iff.mp h
   obtain⟨a,b⟩:=ii hk
   refine⟨by simpa using a,λj hj=>?_⟩
   cases j with
   | zero=>simpa using e
   | succ j=>simpa using b j (by omega)
theorem LV(ns:List Int)(n m:Int):cu (ns++[n]) m=match cu ns m with
 | some i=>some i
 | none=>if n=m then some ns.length else none:=by
 induction ns with
 | nil=>simp[cu]
 | cons a as ih =>
  rw[List.cons_append,cu,cu]
  by_cases e:a=m
  ·rw[if_pos e,if_pos e]
  ·rw[if_neg e,if_neg e,ih]
   cases cu as m with
   | some i=>rfl
   | none =>
    dsimp only [Option.map]
    by_cases e2:n=m
    ·rw[if_pos e2,if_pos e2]; simp
    ·rw[if_neg e2,if_neg e2]
theorem iV{ns:List Int}{n:Int}(h:n∈ns) : ∃ i,cu ns n=some i/\i < ns.length:=by
 cases e:cu ns n with
 | none=>exact absurd h (fJ.mp e)
 | some i=>exact⟨i,rfl,(List.getElem?_eq_some_iff.mp (ii e).1).1⟩
def am{α:Type}(g:Int)(x y:α):α:=if g=0 then x else y
def cJ(g:Int):Prop:=g=0\/g=1
theorem lD{g:Int}{x y:V}(h:cJ g):cR [x,y] g=some (am g x y):=by
 rcases h with rfl | rfl <;> rfl
theorem cJ.flip{g:Int}(h:cJ g):cJ (1 - g):=by
 rcases h with rfl | rfl
 ·exact .inr rfl
 ·exact .inl rfl
theorem zZ{α:Type}{g:Int}{x y:α}(h:cJ g):am (1 - g) x y=am g y x:=by
 rcases h with rfl | rfl <;> rfl
theorem jk{α β:Type}(f:α->β)(g:Int)(x y:α):am g (f x) (f y)=f (am g x y):=by
 unfold am; split <;> rfl
def mZ(O P:List Int)(b:Nat):Bool:=!decide (O.getD b 0∈P)
def gc(O P:List Int):List Nat:=(List.range O.length).filter (mZ O P)
theorem Bi{O P:List Int}{b:Nat}:b∈gc O P ↔ ∃ n,O[b]? = some n/\n∉P:=by
 unfold gc mZ
 rw[List.mem_filter,List.mem_range]
 constructor
 ·rintro⟨h,k⟩
  refine⟨O[b],List.getElem?_eq_getElem h,?_⟩
  rw[List.getD_eq_getElem?_getD,List.getElem?_eq_getElem h]at k
  simpa using k
 ·rintro⟨n,h,k⟩
  refine⟨(List.getElem?_eq_some_iff.mp h).1,?_⟩
  rw[List.getD_eq_getElem?_getD,h]
  simpa using k
theorem BH{f:Nat->Bool}{i:Nat}(h : ∀ j,j < i->f j=false)(k:f i=true) : ∀ {n:Nat},i < n->((List.range n).filter f).head? = some i
 | 0,z=>absurd z (by omega)
 | n+1,z=>by
  rw[List.range_succ,List.filter_append,List.head?_append]
  by_cases c:i < n
  ·rw[BH h k c]; rfl
  ·obtain rfl:i=n:=by omega
   have e:(List.range i).filter f=[]:=by
    rw[List.filter_eq_nil_iff]
    intro j hj
    rw[h j (List.mem_range.mp hj)]
    decide
   rw[e]
   simp[k]
theorem Oj{f:Nat->Bool}{n:Nat}(h : ∀ j,j < n->f j=false):(List.range n).filter f=[]:=by
 rw[List.filter_eq_nil_iff]
 intro j hj
 rw[h j (List.mem_range.mp hj)]
 decide
def cY(O P:List Int)(g:Int):List Int:=match (gc O P).head? with
 | some b=>[254+(1 - g),(b:Int)]
 | none=>[]
def cE(ns:List Int):Prop:=(∀ n∈ns,Sg n)/\ns.Nodup/\ns.length<=250
theorem nJ{g:Int}{ns ms:List Int}(h:cE ns)(k:cE ms):cE (am g ns ms):=by
 unfold am; split
 ·exact h
 ·exact k
structure Fp where
 dx:Addr
 pp:Addr
 pl:Addr
 ps:Addr
 d0:Addr
 d1:Addr
 l0:Addr
 l1:Addr
 s0:Addr
 s1:Addr
def gD(H:Hp)(d:Addr)(ns:List Int):Prop:=∃ kv,H d=some (.dK kv)/\∀ n:Int,bj kv (.inl n)=(cu ns n).map λi=>V.int (i:Int)
structure Tg (t:Adr) (H:Hp) (a:Addr) (f:Fp) (ns ms:List Int):Prop where
 o:H a=some (.ins t.bL f.dx [("places",.ref f.pp),("lists",.ref f.pl),("shifted",.ref f.ps)])
 p:H f.pp=some (.lst [.ref f.d0,.ref f.d1])
 l:H f.pl=some (.lst [.ref f.l0,.ref f.l1])
 s:H f.ps=some (.lst [.ref f.s0,.ref f.s1])
 d0:gD H f.d0 ns
 d1:gD H f.d1 ms
 l0:H f.l0=some (.lst (ns.map V.int))
 l1:H f.l1=some (.lst (ms.map V.int))
 s0:H f.s0=some (.lst ((cY ms ns 0).map V.int))
 s1:H f.s1=some (.lst ((cY ns ms 1).map V.int))
 k0:cE ns
 k1:cE ms
section
variable {t:Adr}{H H':Hp}{a:Addr}{f:Fp}{ns ms:List Int}{g:Int}
theorem Tg.keep(h:Tg t H a f ns ms)(k : ∀ c u,c∈[a,f.pp,f.pl,f.ps,f.d0,f.d1,f.l0,f.l1,f.s0,f.s1]->H c=some u->H' c=some u):Tg t H' a f ns ms:=by
 obtain⟨o,p,l,s,⟨v0,d0,e0⟩,⟨v1,d1,e1⟩,l0,l1,s0,s1,k0,k1⟩:=h
 exact⟨k _ _ (by simp) o,k _ _ (by simp) p,k _ _ (by simp) l,k _ _ (by simp) s,⟨v0,k _ _ (by simp) d0,e0⟩,⟨v1,k _ _ (by simp) d1,e1⟩,k _ _ (by simp) l0,k _ _ (by simp) l1,k _ _ (by simp) s0,k _ _ (by simp) s1,k0,k1⟩
theorem Tg.mono(h:Tg t H a f ns ms)(k:af H H'):Tg t H' a f ns ms:=h.keep λc u _ e=>k c u e
theorem Tg.dk(h:Tg t H a f ns ms)(tg:cJ g):gD H (am g f.d0 f.d1) (am g ns ms):=by
 rcases tg with rfl | rfl
 ·exact h.d0
 ·exact h.d1
theorem Tg.ll(h:Tg t H a f ns ms)(tg:cJ g):H (am g f.l0 f.l1)=some (.lst ((am g ns ms).map V.int)):=by
 rcases tg with rfl | rfl
 ·exact h.l0
 ·exact h.l1
theorem Tg.ss(h:Tg t H a f ns ms)(tg:cJ g):H (am g f.s0 f.s1)=some (.lst ((cY (am g ms ns) (am g ns ms) g).map V.int)):=by
 rcases tg with rfl | rfl
 ·exact h.s0
 ·exact h.s1
def FF(K:PySem.W.Frag):Sp:=λvs H Q _=>∃ (a:Addr) (ns:List Int) (wh:Int),vs=[.ref a,.int wh]/\aE K H a (ns.map V.int)/\cE ns/\∀ p H',af H H'->H p=none->gD H' p ns->Q (.ref p) H'
theorem BO (T:Txt w K mg t):bp P w K mg base "places_in" 4 t.xJ t.tZ ["signs", "which"] (FF K):=by
 refine⟨T.NK,T.DY.kp,T.PZ,T.DY.okQ nO (λvs H Q E h=>by obtain⟨a,xs,wh,rfl,_⟩:=h; rfl) λcdv A outer s H vs Q E hr h=>?_⟩
 obtain⟨a,ns,wh,rfl,h1,⟨sg,nd,ln⟩,kq⟩:=h
 have hu:=hr.units
 refine⟨_,(ai (aF (av gy (bi (bA (K:=K) rfl) T.n_len PySem.boot_len (ab (aa 0) ad)) (bP T.Pd) (aD _)) (ah fG) aG)
  (ai (aJ (i:=2) nO.nd rfl (by first | exact Or.inl rfl | exact Or.inr rfl) AI)
  (ai (dw PassesOwn.never rfl (kS (K:=K) rfl rfl T.n_enumerate (ab (aa 0) ad)) (eN (K:=K) rfl rfl (bR (ba (i:=3) nO.nd rfl (by first | exact Or.inl rfl | exact Or.inr rfl)) (bR (ba (i:=4) nO.nd rfl (by first | exact Or.inl rfl | exact Or.inr rfl)) eK))) (ai (aF (bZ (dv (eJ (dE (aN (ik T) hr (ab (aa 4) ad)))) (du (av (oU hu) (aa 4) (aa 2) (by with_unfolding_all rfl))))) (ah fG) aG)
  (ah (nW hu (aa 2) (aa 4) (aa 3)))))
  (ah (al (aa 2)))))),?_⟩
 refine⟨_,.inl h1,?_⟩
 refine ak (λz=>?_) (λ_=>?_)
 ·have z:((ns.map V.int).length:Int) > 250:=of_decide_eq_true z
  rw[List.length_map]at z
  omega
 refine λpd H1 g1=>?_
 refine⟨a,_,rfl,g1.sm.seq h1,ls (K:=K) (a:=a) (xs:=ns.map V.int) (λi σ H'=>af H H'/\∃ (kvs:List (aP × V)) (v3 v4:Option V),H' pd=some (.dK kvs)/\kvs.length<=i/\(∀ n:Int,bj kvs (.inl n)=(cu (ns.take i) n).map λi=>V.int (i:Int))/\σ=[some (.ref a),some (.int wh),some (.ref pd),v3,v4]) ⟨g1.sm,[],_,_,g1.at_,by simp,(λn=>by simp[bj,cu]),rfl⟩ (λi σ H' _ z=>z.1.seq h1) ?_ ?_⟩
 ·rintro i x p σ H2 H3 hx ⟨s2,kvs,v3,v4,h2,lk,hv,rfl⟩ g3
  obtain⟨n,hn,rfl⟩:=dn hx
  have hi:=(List.getElem?_eq_some_iff.mp hn).1
  refine⟨p,_,rfl,g3.tup,rfl,_,_,rfl,_,_,rfl,rfl,?_⟩
  have s3:=s2.trans g3.sm
  have d3:=g3.sm _ _ h2
  have yes:c6 (.int n)=true:=(gL n).mpr (sg n (List.mem_of_getElem? hn))
  refine⟨_,rfl,.int n,?_⟩
  refine ak (λy=>?_) (λ_=>?_)
  ·have y:(!c6 (.int n))=true:=y
   rw[yes]at y
   cases y
  have nin:n∉ns.take i:=λz=>by
   obtain⟨j,hj⟩:=List.getElem?_of_mem z
   have hji:j < i:=by
    have:=(List.getElem?_eq_some_iff.mp hj).1
    rw[List.length_take]at this
    omega
   rw[List.getElem?_take_of_lt hji]at hj
   obtain⟨a1,e1⟩:=List.getElem?_eq_some_iff.mp hj
   obtain⟨a2,e2⟩:=List.getElem?_eq_some_iff.mp hn
   exact absurd (e1.trans e2.symm) (List.pairwise_iff_getElem.mp nd j i a1 a2 hji)
  have vn:bj kvs (.inl n)=none:=by rw[hv,fJ.mpr nin]; rfl
  refine⟨pd,_,rfl,cK.k (k:=.inl n) d3,?_⟩
  refine ak (λy=>?_) (λ_=>?_)
  ·have y:(bj kvs (.inl n)).isSome=true:=y
   rw[vn]at y
   cases y
  refine⟨pd,_,rfl,gF.k (k:=.inl n) d3 (dP (by omega)),?_⟩
  refine⟨s3.put g1.nw,_,_,_,aQ,?_,λm=>?_,rfl⟩
  ·rw[Ie _ vn,List.length_append]; simp; omega
  ·rw[gh,ff hn,LV,List.length_take,Nat.min_eq_left (by omega)]
   by_cases q:m=n
   ·subst q
    rw[if_pos rfl,fJ.mpr nin]
    simp
   ·rw[if_neg (λz=>q (Sum.inl.inj z)),hv]
    have q' : ¬ n=m:=λz=>q z.symm
    cases cu (ns.take i) m with
    | some j=>rfl
    | none=>simp[q']
 ·rintro σ H2 ⟨s2,kvs,v3,v4,h2,lk,hv,rfl⟩
  rw[List.length_map,List.take_length]at hv
  exact kq pd H2 s2 g1.nw ⟨kvs,h2,hv⟩
structure nt (t:Adr) (H:Hp) (a dx pp pl d0 d1 l0 l1:Addr) (ns ms:List Int):Prop where
 o:H a=some (.ins t.bL dx [("places",.ref pp),("lists",.ref pl)])
 p:H pp=some (.lst [.ref d0,.ref d1])
 l:H pl=some (.lst [.ref l0,.ref l1])
 d0:gD H d0 ns
 d1:gD H d1 ms
 l0:H l0=some (.lst (ns.map V.int))
 l1:H l1=some (.lst (ms.map V.int))
theorem gD.mono{H H':Hp}{d:Addr}{ns:List Int}(h:gD H d ns)(s:af H H'):gD H' d ns:=by
 obtain⟨kv,a,b⟩:=h
 exact⟨kv,s _ _ a,b⟩
theorem nt.mono{H H':Hp}{a dx pp pl d0 d1 l0 l1:Addr}{ns ms:List Int}(h:nt t H a dx pp pl d0 d1 l0 l1 ns ms)(s:af H H'):nt t H' a dx pp pl d0 d1 l0 l1 ns ms :=
 ⟨s _ _ h.o,s _ _ h.p,s _ _ h.l,h.d0.mono s,h.d1.mono s,s _ _ h.l0,s _ _ h.l1⟩
def FD(t:Adr):Sp:=λvs H Q _=>∃ (a dx pp pl d0 d1 l0 l1:Addr) (ns ms:List Int) (g:Int),vs=[.ref a,.int g]/\cJ g/\nt t H a dx pp pl d0 d1 l0 l1 ns ms/\∀ p H',af H H'->H p=none->H' p=some (.lst ((cY (am g ms ns) (am g ns ms) g).map V.int))->Q (.ref p) H'
theorem B3 (T:Txt w K mg t):bT P w K mg base t.bL "row_beyond" 1 t.yk t.uE ["self", "page"] (FD t):=by
 refine⟨T.cX,T.Ko,T.QB,T.RC.okQ sd (λvs H Q E h=>by obtain⟨a,dx,pp,pl,d0,d1,l0,l1,ns,ms,g,rfl,_⟩:=h; rfl) λcdv A outer s H vs Q E hr h=>?_⟩
 obtain⟨a,dx,pp,pl,d0,d1,l0,l1,ns,ms,g,rfl,tg,hf,k⟩:=h
 have hu:=hr.units
 refine⟨_,(ai (dw PassesOwn.never rfl (kS (K:=K) rfl rfl T.n_enumerate (ab (aL (aM (K:=K) rfl) (aq (K:=K) rfl (aa 0)) (au cv aj (aa 1)) (λ_ _=>rfl)) ad)) (eN (K:=K) rfl rfl (bR (ba (i:=2) sd.nd rfl (by first | exact Or.inl rfl | exact Or.inr rfl)) (bR (ba (i:=3) sd.nd rfl (by first | exact Or.inl rfl | exact Or.inr rfl)) eK))) (ah (aF (av (Co hu) (aa 3) (aL (aM (K:=K) rfl) (aq (K:=K) rfl (aa 0)) (aa 1) (λ_ _=>rfl)) (by with_unfolding_all rfl)) (ah (al (aS (ab (aL (aM (K:=K) rfl) (gP (v:=.ref t.lE) rfl T.w6 rfl) (au cv aj (aa 1)) (λ_ _=>rfl)) (ab (aa 2) ad))))) aG)))
  (ah (al (aS ad)))),?_⟩
 have ln:H (am (1 - g) l0 l1)=some (.lst ((am g ms ns).map V.int)):=by
  rcases tg with rfl | rfl
  ·exact hf.l1
  ·exact hf.l0
 have pk:gD H (am g d0 d1) (am g ns ms):=by
  rcases tg with rfl | rfl
  ·exact hf.d0
  ·exact hf.d1
 obtain⟨kv,hkv,vkv⟩:=pk
 have sh:cR (([254,255]:List Int).map V.int) (1 - g)=some (.int (254+(1 - g))):=by
  rcases tg with rfl | rfl <;> rfl
 generalize hO:am g ms ns=O at *
 generalize hP:am g ns ms=P' at *
 refine⟨a,_,dx,_,_,rfl,hf.o,T.cX,T.oi,rfl,?_⟩
 refine⟨_,.ref (am (1 - g) l0 l1),.inl (.of hf.l),by rw[lD tg.flip]; exact congrArg some (jk V.ref _ _ _),?_⟩
 refine⟨am (1 - g) l0 l1,_,rfl,.of ln,ls (K:=K) (a:=am (1 - g) l0 l1) (xs:=O.map V.int) (λi σ H'=>af H H'/\(∀ j,j < i->mZ O P' j=false)/\∃ v2 v3,σ=[some (.ref a),some (.int g),v2,v3]) ⟨af.refl _,(λj h=>absurd h (by omega)),_,_,rfl⟩ (λi σ H' _ z=>z.1.seq (.of ln)) ?_ ?_⟩
 ·rintro i x p σ H2 H3 hx ⟨s2,hj,v2,v3,rfl⟩ g3
  obtain⟨q,hq,rfl⟩:=dn hx
  have hi:=(List.getElem?_eq_some_iff.mp hq).1
  refine⟨p,_,rfl,g3.tup,rfl,_,_,rfl,_,_,rfl,rfl,?_⟩
  have s3:=s2.trans g3.sm
  refine⟨a,_,dx,_,_,rfl,s3 _ _ hf.o,T.cX,T.iR,rfl,?_⟩
  refine⟨_,.ref (am g d0 d1),.inl (.of (s3 _ _ hf.p)),by rw[lD tg]; exact congrArg some (jk V.ref _ _ _),?_⟩
  refine⟨am g d0 d1,_,rfl,cK.k (k:=.inl q) (s3 _ _ hkv),?_⟩
  have eq:(bj kv (.inl q)).isSome=decide (q∈P'):=by
   rw[vkv]
   cases e:cu P' q with
   | none=>have:=fJ.mp e; simp[this]
   | some j =>
    have:q∈P':=Decidable.byContradiction λz=>by rw[fJ.mpr z]at e; cases e
    simp[this]
  have ea:mZ O P' i = !decide (q∈P'):=by
   unfold mZ
   rw[List.getD_eq_getElem?_getD,hq]; rfl
  refine ak (λy=>?_) (λy=>?_)
  ·have y:(!(bj kv (.inl q)).isSome)=true:=y
   rw[eq,<- ea]at y
   refine⟨_,.int (254+(1 - g)),.inr (T.sq _),sh,?_⟩
   refine⟨sz rfl,λp4 H4 g4=>?_⟩
   refine k _ _ (s3.trans g4.sm) (s3.free g4.nw) ?_
   have e:cY O P' g=[254+(1 - g),(i:Int)]:=by
    unfold cY gc
    rw[BH hj y hi]
   rw[e]
   exact g4.at_
  ·have y : ¬ (!(bj kv (.inl q)).isSome)=true:=y
   rw[eq,<- ea]at y
   refine⟨s3,λj hji=>?_,_,_,rfl⟩
   by_cases c:j < i
   ·exact hj j c
   ·obtain rfl:j=i:=by omega
    simpa using y
 ·rintro σ H2 ⟨s2,hj,v2,v3,rfl⟩
  rw[List.length_map]at hj
  refine⟨sz rfl,λp4 H4 g4=>k _ _ (s2.trans g4.sm) (s2.free g4.nw) ?_⟩
  have e:cY O P' g=[]:=by
   unfold cY gc
   rw[Oj hj]
   rfl
  rw[e]
  exact g4.at_
theorem Kp.seq{a f:Addr}{H H':Hp}{xs:List V}(k:Kp a H H')(n:f≠a)(h:aE K H f xs):aE K H' f xs:=by
 rcases h with h | h
 ·rcases h with h | ⟨o,h⟩
  ·exact .inl (.inl (k _ _ n h))
  ·exact .inl (.inr ⟨o,k _ _ n h⟩)
 ·exact .inr h
def zR(K:PySem.W.Frag)(t:Adr):Sp:=λvs H Q _=>∃ (a dx f g:Addr) (ns ms:List Int),vs=[.ref a,.ref f,.ref g]/\H a=some (.ins t.bL dx [])/\aE K H f (ns.map V.int)/\aE K H g (ms.map V.int)/\cE ns/\cE ms/\f≠a/\g≠a /\
 ∀ fp H',Kp a H H'->Tg t H' a fp ns ms->(∀ c∈[fp.pp,fp.pl,fp.ps,fp.d0,fp.d1,fp.l0,fp.l1,fp.s0,fp.s1],c≠a/\H c=none)->Q .non H'
theorem JT (T:Txt w K mg t):bv P w K mg base bC 5 t.qW t.pC ["self", "first", "second"] (zR K t):=by
 refine T.RD.okQ G0 (λvs H Q E h=>by obtain⟨a,dx,f,g,ns,ms,rfl,_⟩:=h; rfl) λcdv A outer s H vs Q E hr h=>?_
 obtain⟨a,dx,f,g,ns,ms,rfl,ha,hf,hg,ok0,ok1,nf,ng,kq⟩:=h
 have hu:=hr.units
 refine⟨_,(ai (cg (K:=K) rfl (aa 0) (aS (ab (aN (BO T) hr (ab (aa 1) (ab aj ad))) (ab (aN (BO T) hr (ab (aa 2) (ab aj ad))) ad))))
  (ai (cg (K:=K) rfl (aa 0) (aS (ab (dR (fw (K:=K) rfl) T.n_list PyProof.Rows.boot_list (ab (aa 1) ad)) (ab (dR (fw (K:=K) rfl) T.n_list PyProof.Rows.boot_list (ab (aa 2) ad)) ad))))
  (ah (cg (K:=K) rfl (aa 0) (aS (ab (bJ (B3 T) hr (aa 0) (ab aj ad)) (ab (bJ (B3 T) hr (aa 0) (ab aj ad)) ad))))))),?_⟩
 refine⟨f,ns,0,rfl,hf,ok0,λd0 H1 s1 fd0 pl0=>?_⟩
 refine⟨g,ms,1,rfl,s1.seq hg,ok1,λd1 H2 s2 fd1 pl1=>?_⟩
 refine⟨sz rfl,λpp H3 g3=>?_⟩
 have s3:=s1.trans (s2.trans g3.sm)
 refine⟨a,_,dx,_,rfl,s3 _ _ ha,T.cX,T.iR,Nat.lt_of_lt_of_le Nat.zero_lt_one (by decide),?_⟩
 obtain⟨H4,e4⟩ : ∃ H4,H4=upd H3 a (HO.ins t.bL dx (ck "places" (.ref pp) [])):=⟨_,rfl⟩
 have a4:H4 a=some (.ins t.bL dx [("places",.ref pp)]):=by rw[e4,aQ]; rfl
 have k4:Kp a H3 H4:=by rw[e4]; exact Kp.upd
 rw[<- e4]
 clear e4
 have k04:Kp a H H4:=(Kp.of s3).trans k4
 refine⟨_,.inl (k04.seq nf hf),λl0 H5 g5=>?_⟩
 refine⟨_,.inl ((k04.trans (Kp.of g5.sm)).seq ng hg),λl1 H6 g6=>?_⟩
 refine⟨sz rfl,λpl H7 g7=>?_⟩
 have s47:=g5.sm.trans (g6.sm.trans g7.sm)
 refine⟨a,_,dx,_,rfl,s47 _ _ a4,T.cX,T.oi,Nat.lt_of_lt_of_le (Nat.lt_succ_self 1) (by decide),?_⟩
 obtain⟨H8,e8⟩ : ∃ H8,H8=upd H7 a (HO.ins t.bL dx (ck "lists" (.ref pl) [("places",.ref pp)])):=⟨_,rfl⟩
 have a8:H8 a=some (.ins t.bL dx [("places",.ref pp),("lists",.ref pl)]):=by rw[e8,aQ]; rfl
 have k8:Kp a H7 H8:=by rw[e8]; exact Kp.upd
 rw[<- e8]
 clear e8
 have nd0:d0≠a:=(aH ha fd0).symm
 have nd1:d1≠a:=(aH (s1 _ _ ha) fd1).symm
 have npp:pp≠a:=(aH (s2 _ _ (s1 _ _ ha)) g3.nw).symm
 have nl0:l0≠a:=(aH a4 g5.nw).symm
 have nl1:l1≠a:=(aH (g5.sm _ _ a4) g6.nw).symm
 have npl:pl≠a:=(aH (g6.sm _ _ (g5.sm _ _ a4)) g7.nw).symm
 have k38:Kp a H3 H8:=k4.trans ((Kp.of s47).trans k8)
 have k08:Kp a H H8:=(Kp.of s3).trans k38
 obtain⟨kv0,q0,e0⟩:=pl0
 obtain⟨kv1,q1,e1⟩:=pl1
 have half:nt t H8 a dx pp pl d0 d1 l0 l1 ns ms:=⟨a8,k38 _ _ npp g3.at_,k8 _ _ npl g7.at_,⟨kv0,k38 _ _ nd0 (g3.sm _ _ (s2 _ _ q0)),e0⟩,⟨kv1,k38 _ _ nd1 (g3.sm _ _ q1),e1⟩,k8 _ _ nl0 (g7.sm _ _ (g6.sm _ _ g5.at_)),k8 _ _ nl1 (g7.sm _ _ g6.at_)⟩
 refine⟨a,dx,_,rfl,a8,rfl,?_⟩
 refine⟨a,dx,pp,pl,d0,d1,l0,l1,ns,ms,0,rfl,.inl rfl,half,λz0 H9 s9 fz0 hz0=>?_⟩
 refine⟨a,dx,_,rfl,s9 _ _ a8,rfl,?_⟩
 refine⟨a,dx,pp,pl,d0,d1,l0,l1,ns,ms,1,rfl,.inr rfl,half.mono s9,λz1 HA sA fz1 hz1=>?_⟩
 refine⟨sz rfl,λps HB gB=>?_⟩
 have s8B:=s9.trans (sA.trans gB.sm)
 refine⟨a,_,dx,_,rfl,s8B _ _ a8,T.cX,T.oh,Nat.lt_of_lt_of_le (Nat.lt_succ_self 2) (by decide),?_⟩
 obtain⟨HC,eC⟩ : ∃ HC,HC=upd HB a (HO.ins t.bL dx (ck "shifted" (.ref ps) [("places",.ref pp),("lists",.ref pl)])):=⟨_,rfl⟩
 have aC:HC a=some (.ins t.bL dx [("places",.ref pp),("lists",.ref pl),("shifted",.ref ps)]):=by rw[eC,aQ]; rfl
 have kC:Kp a HB HC:=by rw[eC]; exact Kp.upd
 rw[<- eC]
 clear eC
 have nz0:z0≠a:=(aH a8 fz0).symm
 have nz1:z1≠a:=(aH (s9 _ _ a8) fz1).symm
 have nps:ps≠a:=(aH (sA _ _ (s9 _ _ a8)) gB.nw).symm
 have k8C:Kp a H8 HC:=(Kp.of s8B).trans kC
 have hB:=half.mono s8B
 have fr : ∀ {c:Addr} {H':Hp},Kp a H H'->c≠a->H' c=none->H c=none:=λ{c H'} k n e=>by
  cases h:H c with
  | none=>rfl
  | some u=>rw[k c u n h]at e; cases e
 refine kq ⟨dx,pp,pl,ps,d0,d1,l0,l1,z0,z1⟩ HC (k08.trans k8C) ⟨aC,kC _ _ npp hB.p,kC _ _ npl hB.l,kC _ _ nps gB.at_,?_,?_,kC _ _ nl0 hB.l0,kC _ _ nl1 hB.l1,kC _ _ nz0 (gB.sm _ _ (sA _ _ hz0)),kC _ _ nz1 (gB.sm _ _ hz1),ok0,ok1⟩ ?_
 ·obtain⟨kv,x,y⟩:=hB.d0
  exact⟨kv,kC _ _ nd0 x,y⟩
 ·obtain⟨kv,x,y⟩:=hB.d1
  exact⟨kv,kC _ _ nd1 x,y⟩
 ·intro c hc
  simp only [List.mem_cons,List.not_mem_nil,or_false]at hc
  rcases hc with rfl | rfl | rfl | rfl | rfl | rfl | rfl | rfl | rfl
  ·exact⟨npp,s1.free (s2.free g3.nw)⟩
  ·exact⟨npl,fr (k04.trans (Kp.of (g5.sm.trans g6.sm))) npl g7.nw⟩
  ·exact⟨nps,fr (k08.trans (Kp.of (s9.trans sA))) nps gB.nw⟩
  ·exact⟨nd0,fd0⟩
  ·exact⟨nd1,s1.free fd1⟩
  ·exact⟨nl0,fr k04 nl0 g5.nw⟩
  ·exact⟨nl1,fr (k04.trans (Kp.of g5.sm)) nl1 g6.nw⟩
  ·exact⟨nz0,fr k08 nz0 fz0⟩
  ·exact⟨nz1,fr (k08.trans (Kp.of s9)) nz1 fz1⟩
theorem LX (T:Txt w K mg t):hX P w K mg base "ShiftTongue" t.bL 5 t.qW t.pC ["self", "first", "second"] [] (zR K t):=⟨T.M8,T.KI,⟨[],T.QC,.nil⟩,JT T⟩
theorem Dh(O P:List Int)(g:Int):cY O P g=[]\/∃ b:Nat,(gc O P).head? = some b/\cY O P g=[254+(1 - g),(b:Int)]:=by
 unfold cY
 cases e:(gc O P).head? with
 | none=>exact .inl rfl
 | some b=>exact .inr ⟨b,rfl,rfl⟩
theorem Pl(O P:List Int)(g:Int):cY O P g=[] ↔ gc O P=[]:=by
 unfold cY
 cases e:gc O P with
 | nil=>simp
 | cons b r=>simp
def dg(P O:List Int)(g:Int)(x:V):Option (List Int × Int):=match x with
 | .int n=>match cu P n with
  | some i=>some ([(i:Int)],g)
  | none=>match cu O n with
   | some i=>some ([254+(1 - g),(i:Int)],1 - g)
   | none=>none
 | _=>none
theorem Fa{P O:List Int}{g:Int}{x:V}(hP:cE P)(hO:cE O)(h:c6 x=false):dg P O g x=none:=by
 cases x with
 | int n =>
  have hn : ¬ Sg n:=λz=>by rw[(gL n).mpr z]at h; cases h
  unfold dg
  dsimp only
  rw[fJ.mpr λz=>hn (hP.1 n z)]
  dsimp only
  rw[fJ.mpr λz=>hn (hO.1 n z)]
 | _=>rfl
theorem Gq{v:V}(h:c6 v=true) : ∃ n,v=.int n/\Sg n:=by
 cases v with
 | int n=>exact⟨n,rfl,(gL n).mp h⟩
 | _=>simp[c6,cZ]at h
def Jt:Option Int->V
 | some n=>.int n
 | none=>.non
theorem Rb{L:List Int}{b n:Int}(b0:0<=b)(h:L[b.toNat]? = some n):cR (L.map V.int) b=some (.int n):=by
 obtain⟨k,rfl⟩ : ∃ k:Nat,b=(k:Int):=⟨b.toNat,by omega⟩
 exact aV (by rw[List.getElem?_map]; simp at h; rw[h]; rfl)
def Fu(t:Adr):Sp:=λvs H Q _=>∃ (a:Addr) (f:Fp) (ns ms:List Int) (b g:Int),vs=[.ref a,.int b,.int g]/\cJ g/\Tg t H a f ns ms/\0<=b/\Q (Jt (am g ns ms)[b.toNat]?) H
theorem B2 (T:Txt w K mg t):bT P w K mg base t.bL "sign_of" 1 t.yj t.uD ["self", "byte", "page"] (Fu t):=by
 refine⟨T.cX,T.Kn,T.Qz,T.RB.okQ GZ (λvs H Q E h=>by obtain⟨a,f,ns,ms,b,g,rfl,_⟩:=h; rfl) λcdv A outer s H vs Q E hr h=>?_⟩
 obtain⟨a,f,ns,ms,b,g,rfl,two,tg,b0,k⟩:=h
 refine⟨_,(ah (al (gn (av dA (aa 1) (bi (bA (K:=K) rfl) T.n_len PySem.boot_len (ab (aL (aM (K:=K) rfl) (aq (K:=K) rfl (aa 0)) (aa 2) (λ_ _=>rfl)) ad)) (aD _)) (aL (aM (K:=K) rfl) (aL (aM (K:=K) rfl) (aq (K:=K) rfl (aa 0)) (aa 2) (λ_ _=>rfl)) (aa 1) (λ_ _=>rfl)) bY))),?_⟩
 have el:cR [V.ref f.l0,V.ref f.l1] g=some (.ref (am g f.l0 f.l1)):=by rw[lD two]; exact congrArg some (jk V.ref _ _ _)
 have hl:=tg.ll two
 refine⟨a,_,f.dx,_,_,rfl,tg.o,T.cX,T.oi,rfl,?_⟩
 refine⟨_,_,.inl (.of tg.l),el,?_⟩
 refine⟨_,.inl (.of hl),?_⟩
 refine ak (λz=>?_) (λz=>?_)
 ·have z:b < (((am g ns ms).map V.int).length:Int):=of_decide_eq_true z
  rw[List.length_map]at z
  refine⟨a,_,f.dx,_,_,rfl,tg.o,T.cX,T.oi,rfl,?_⟩
  refine⟨_,_,.inl (.of tg.l),el,?_⟩
  obtain⟨n,hn⟩ : ∃ n,(am g ns ms)[b.toNat]? = some n:=⟨_,List.getElem?_eq_getElem (by omega)⟩
  rw[hn]at k
  exact⟨_,.int n,.inl (.of hl),Rb b0 hn,k⟩
 ·have z : ¬ b < (((am g ns ms).map V.int).length:Int):=λy=>z (decide_eq_true y)
  rw[List.length_map]at z
  rw[List.getElem?_eq_none (by omega)]at k
  exact k
def rj(g:Int)(row:List Int):Prop:=(∃ b,row=[b]/\0<=b)\/∃ c,row=[254+(1 - g),c]/\0<=c
def dO(P O:List Int)(g:Int)(row:List Int):Option (Int × Int):=match row with
 | [b]=>P[b.toNat]?.map λn=>(n,g)
 | [_,c]=>match O[c.toNat]? with
  | some n=>if n∈P then none else some (n,1 - g)
  | none=>none
 | _=>none
def zH(t:Adr):Sp:=λvs H Q _=>∃ (a:Addr) (f:Fp) (ns ms:List Int) (q:Addr) (row:List Int) (g:Int),vs=[.ref a,.ref q,.int g]/\cJ g/\Tg t H a f ns ms/\H q=some (.lst (row.map V.int))/\rj g row /\
 (dO (am g ns ms) (am g ms ns) g row=none->Q .non H)/\(∀ n g',dO (am g ns ms) (am g ms ns) g row=some (n,g')->∀ p H',aZ H p (.tup [.int n,.int g']) H'->Q (.ref p) H')
theorem JM (T:Txt w K mg t):bv P w K mg base bC 2 t.qU t.mF ["self", "row", "page"] (zH t):=by
 refine T.Ry.okQ r9 (λvs H Q E h=>by obtain⟨o,f,ns,ms,q,row,g,rfl,_⟩:=h; rfl) λcdv A outer s H vs Q E hr h=>?_
 obtain⟨a,f,ns,ms,q,row,g,rfl,two,tg,hq,ok,kn,ks⟩:=h
 have hu:=hr.units
 refine⟨_,(ai (aF (av (bo (K:=K) rfl hu) (bi (bA (K:=K) rfl) T.n_len PySem.boot_len (ab (aa 1) ad)) aj (aD _)) (ai (aJ (i:=3) r9.nd rfl (by first | exact Or.inl rfl | exact Or.inr rfl) (bJ (B2 T) hr (aa 0) (ab (aL (aM (K:=K) rfl) (aa 1) aj (λ_ _=>rfl)) (ab (aa 2) ad))))
  (ah (al (gn (av iX (aa 3) bY (aD _)) bY (bK (ab (aa 3) (ab (aa 2) ad))))))) aG)
  (ai (aF (bZ (fF (av (bo (K:=K) rfl hu) (bi (bA (K:=K) rfl) T.n_len PySem.boot_len (ab (aa 1) ad)) aj (aD _)) (fX (av (bo (K:=K) rfl hu) (aL (aM (K:=K) rfl) (aa 1) aj (λ_ _=>rfl)) (aL (aM (K:=K) rfl) (gP (v:=.ref t.lE) rfl T.w6 rfl) (au cv aj (aa 2)) (λ_ _=>rfl)) (aD _))))) (ai (aJ (i:=3) r9.nd rfl (by first | exact Or.inl rfl | exact Or.inr rfl) (bJ (B2 T) hr (aa 0) (ab (aL (aM (K:=K) rfl) (aa 1) aj (λ_ _=>rfl)) (ab (au cv aj (aa 2)) ad))))
  (ah (al (gn (bZ (dv (av iX (aa 3) bY (aD _)) (du (av (oU hu) (aa 3) (aL (aM (K:=K) rfl) (aq (K:=K) rfl (aa 0)) (aa 2) (λ_ _=>rfl)) (by with_unfolding_all rfl))))) bY (bK (ab (aa 3) (ab (au cv aj (aa 2)) ad))))))) aG)
  (ah (al bY)))),?_⟩
 refine⟨_,.inl (.of hq),?_⟩
 rcases ok with ⟨b,rfl,b0⟩ | ⟨c,rfl,c0⟩
 ·refine⟨a,f.dx,_,rfl,tg.o,rfl,?_⟩
  refine⟨_,_,.inl (.of hq),aV (j:=0) rfl,?_⟩
  refine⟨a,f,ns,ms,b,g,rfl,two,tg,b0,?_⟩
  unfold dO at kn ks
  dsimp only at kn ks
  cases e:(am g ns ms)[b.toNat]? with
  | none=>exact kn (by rw[e]; rfl)
  | some n=>exact⟨sz rfl,λp H' g'=>ks n g (by rw[e]; rfl) p H' g'⟩
 ·have sh:cR (([254,255]:List Int).map V.int) (1 - g)=some (.int (254+(1 - g))):=by
   rcases two with rfl | rfl <;> rfl
  refine⟨_,.inl (.of hq),?_⟩
  refine⟨_,_,.inl (.of hq),aV (j:=0) rfl,?_⟩
  refine⟨_,_,.inr (T.sq _),sh,?_⟩
  refine ak (λ_=>?_) (λz=>absurd (show decide (254+(1 - g)=254+(1 - g))=true by simp) z)
  refine⟨a,f.dx,_,rfl,tg.o,rfl,?_⟩
  refine⟨_,_,.inl (.of hq),aV (j:=1) rfl,?_⟩
  refine⟨a,f,ns,ms,c,1 - g,rfl,two.flip,tg,c0,?_⟩
  rw[zZ two]
  unfold dO at kn ks
  dsimp only at kn ks
  cases e:(am g ms ns)[c.toNat]? with
  | none =>
   rw[e]at kn
   exact kn rfl
  | some n =>
   rw[e]at kn ks
   dsimp only at kn ks
   obtain⟨kv,hkv,vkv⟩:=tg.dk two
   refine⟨a,_,f.dx,_,_,rfl,tg.o,T.cX,T.iR,rfl,?_⟩
   refine⟨_,.ref (am g f.d0 f.d1),.inl (.of tg.p),by rw[lD two]; exact congrArg some (jk V.ref _ _ _),?_⟩
   refine⟨_,_,rfl,cK.k (k:=.inl n) hkv,?_⟩
   by_cases hn:n∈am g ns ms
   ·rw[if_pos hn]at kn
    obtain⟨i,hi,_⟩:=iV hn
    have v1:bj kv (.inl n)=some (.int (i:Int)):=by rw[vkv,hi]; rfl
    refine ak (λ_=>?_) (λz=>absurd (show (bj kv (.inl n)).isSome=true by rw[v1]; rfl) z)
    exact kn rfl
   ·rw[if_neg hn]at ks
    have v1:bj kv (.inl n)=none:=by rw[vkv,fJ.mpr hn]; rfl
    refine ak (λz=>absurd (show (bj kv (.inl n)).isSome=true from z) (by rw[v1]; decide)) (λ_=>?_)
    exact⟨sz rfl,λp H' g'=>ks n (1 - g) rfl p H' g'⟩
theorem B0 (T:Txt w K mg t):c7 P w K mg base t.bL "whole" 2 t.qU t.mF ["self", "row", "page"] [] (zH t) :=
 ⟨T.cX,T.Kl,⟨_,T.Qx,.nil⟩,JM T⟩
def cQ(one other:List Int):Bool:=decide (other.take one.length=one)
def Gj(K:PySem.W.Frag):Sp:=λvs H Q _=>∃ (a b:Addr) (x y:List Int),vs=[.ref a,.ref b]/\aE K H a (x.map V.int)/\aE K H b (y.map V.int)/\∀ H',af H H'->Q (.bl (cQ x y)) H'
theorem CW(ns:List Int)(k:Nat):de (ns.map V.int) none (some (k:Int))=(ns.take k).map V.int:=by rw[eU,mR]
theorem sT (T:Txt w K mg t):bp P w K mg base "begins" 1 t.yb t.uw ["one", "other"] (Gj K):=by
 refine⟨T.Oc,T.El.kp,T.Ql,T.El.okQ GQ (λvs H Q E h=>by obtain⟨a,b,x,y,rfl,_⟩:=h; rfl) λcdv A outer s H vs Q E hr h=>?_⟩
 obtain⟨a,b,x,y,rfl,ha,hb,k⟩:=h
 have hu:=hr.units
 refine⟨_,(ah (al (sn (bo (K:=K) rfl hu) (cU (c9 (K:=K) rfl) (aa 1) dD (ci (bi (bA (K:=K) rfl) T.n_len PySem.boot_len (ab (aa 0) ad)))) (aa 0) (aD _)))),?_⟩
 refine⟨_,.inl ha,_,rfl,_,hb,λp1 H1 g1=>?_⟩
 rw[List.length_map,CW]at g1
 exact im g1.lst (g1.sm.seq ha) (k H1 g1.sm)
def f9(P O:List Int)(g:Int)(row:List Int):Bool:=(dO P O g row).isSome || (!(cY O P g).isEmpty && cQ row (cY O P g))
def zT(t:Adr):Sp:=λvs H Q _=>∃ (a:Addr) (f:Fp) (ns ms:List Int) (q:Addr) (row:List Int) (g:Int),vs=[.ref a,.ref q,.int g]/\cJ g/\Tg t H a f ns ms/\H q=some (.lst (row.map V.int))/\rj g row /\
 (f9 (am g ns ms) (am g ms ns) g row=false->∀ H',af H H'->Q .non H')/\(f9 (am g ns ms) (am g ms ns) g row=true->∀ p (r2:List Int) H',af H H'->H' p=some (.lst (r2.map V.int))->(dO (am g ns ms) (am g ms ns) g row=none->r2=(cY (am g ms ns) (am g ns ms) g).drop row.length)->Q (.ref p) H')
theorem JX (T:Txt w K mg t):bv P w K mg base bC 3 t.qX t.mH ["self", "row", "page"] (zT t):=by
 refine T.RE.okQ G1 (λvs H Q E h=>by obtain⟨o,f,ns,ms,q,row,g,rfl,_⟩:=h; rfl) λcdv A outer s H vs Q E hr h=>?_
 obtain⟨a,f,ns,ms,q,row,g,rfl,two,tg,hq,ok,kn,ks⟩:=h
 have hu:=hr.units
 refine⟨_,(ai (aF (av oS (bO (B0 T) hr (aa 0) (ab (aa 1) (ab (aa 2) ad))) bY (aD _)) (ah (al (aS ad))) aG)
  (ai (aF (bZ (fF (eJ (fZ (K:=K) rfl (aa 1))) (fX (fZ (K:=K) rfl (aL (aM (K:=K) rfl) (aq (K:=K) rfl (aa 0)) (aa 2) (λ_ _=>rfl)))))) (ah (al (aS (ab aj ad)))) aG)
  (ai (aF (bZ (fF (fZ (K:=K) rfl (aL (aM (K:=K) rfl) (aq (K:=K) rfl (aa 0)) (aa 2) (λ_ _=>rfl))) (fX (dE (aN (sT T) hr (ab (aa 1) (ab (aL (aM (K:=K) rfl) (aq (K:=K) rfl (aa 0)) (aa 2) (λ_ _=>rfl)) ad))))))) (ah (al (cU (c9 (K:=K) rfl) (aL (aM (K:=K) rfl) (aq (K:=K) rfl (aa 0)) (aa 2) (λ_ _=>rfl)) (ci (bi (bA (K:=K) rfl) T.n_len PySem.boot_len (ab (aa 1) ad))) dD))) aG)
  (ah (al bY))))),?_⟩
 refine⟨a,f.dx,_,rfl,tg.o,rfl,?_⟩
 refine⟨a,f,ns,ms,q,row,g,rfl,two,tg,hq,ok,λhw=>?_,λn g' hw p H1 g1=>?_⟩
 ·have rne:row≠[]:=by
   rcases ok with ⟨b,rfl,_⟩ | ⟨c,rfl,_⟩ <;> simp
  have rt:(!(row.map V.int).isEmpty)=true:=by
   cases row with
   | nil=>exact absurd rfl rne
   | cons _ _=>rfl
  refine⟨_,.inl (.of hq),?_⟩
  refine ak (λz=>absurd (show (!(!(row.map V.int).isEmpty))=true from z) (by rw[rt]; decide)) (λ_=>?_)
  have es:cR [V.ref f.s0,V.ref f.s1] g=some (.ref (am g f.s0 f.s1)):=by rw[lD two]; exact congrArg some (jk V.ref _ _ _)
  have hs:=tg.ss two
  refine⟨a,_,f.dx,_,_,rfl,tg.o,T.cX,T.oh,rfl,?_⟩
  refine⟨_,_,.inl (.of tg.s),es,?_⟩
  refine⟨_,.inl (.of hs),?_⟩
  unfold f9 at kn ks
  rw[hw]at kn ks
  refine ak (λz=>?_) (λz=>?_)
  ·have z:(!((cY (am g ms ns) (am g ns ms) g).map V.int).isEmpty)=true:=z
   rw[List.isEmpty_map]at z
   rw[z]at kn ks
   refine⟨a,_,f.dx,_,_,rfl,tg.o,T.cX,T.oh,rfl,?_⟩
   refine⟨_,_,.inl (.of tg.s),es,?_⟩
   refine⟨q,am g f.s0 f.s1,row,_,rfl,.of hq,.of hs,λH1 s1=>?_⟩
   refine ak (λy=>?_) (λy=>?_)
   ·have y:cQ row (cY (am g ms ns) (am g ns ms) g)=true:=y
    rw[y]at ks
    have tg1:=tg.mono s1
    refine⟨a,_,f.dx,_,_,rfl,tg1.o,T.cX,T.oh,rfl,?_⟩
    refine⟨_,_,.inl (.of tg1.s),es,?_⟩
    refine⟨_,.inl (.of (s1 _ _ hq)),_,rfl,_,.of (s1 _ _ hs),λp2 H2 g2=>?_⟩
    rw[List.length_map,eU,mS]at g2
    exact ks rfl p2 _ H2 (s1.trans g2.sm) g2.at_ (λ_=>rfl)
   ·have y:cQ row (cY (am g ms ns) (am g ns ms) g)=false:=by
     cases e:cQ row (cY (am g ms ns) (am g ns ms) g) with
     | false=>rfl
     | true=>exact absurd e y
    rw[y]at kn
    exact kn rfl H1 s1
  ·have z:(!((cY (am g ms ns) (am g ns ms) g).map V.int).isEmpty)=false:=by
    cases e:(!((cY (am g ms ns) (am g ns ms) g).map V.int).isEmpty) with
    | false=>rfl
    | true=>exact absurd e z
   rw[List.isEmpty_map]at z
   rw[z]at kn
   exact kn rfl H (af.refl _)
 ·refine⟨sz rfl,λp2 H2 g2=>?_⟩
  exact ks (by unfold f9; rw[hw]; rfl) p2 [] H2 (g1.sm.trans g2.sm) g2.at_ (λh=>by rw[hw]at h; cases h)
theorem MS (T:Txt w K mg t):c7 P w K mg base t.bL "fill" 3 t.qX t.mH ["self", "row", "page"] [] (zT t) :=
 ⟨T.cX,T.Kq,⟨_,T.QD,.nil⟩,JX T⟩
def iT(P O:List Int)(g:Int)(row:List Int):List V:=match dO P O g row with
 | some (n,g')=>[.str "sign",.int n,.int g']
 | none=>if f9 P O g row=true then [.str "more",.non,.int g] else [.str "none",.non,.int g]
def gz(P O:List Int):List Int:=(gc P O).map λb:Nat=>(b:Int)
theorem Bh{O P:List Int}{c:Int}(c0:0<=c):c∈gz O P ↔ ∃ n,O[c.toNat]? = some n/\n∉P:=by
 unfold gz
 rw[List.mem_map]
 constructor
 ·rintro⟨b,hb,rfl⟩
  simpa using Bi.mp hb
 ·rintro h
  exact⟨c.toNat,Bi.mpr h,by omega⟩
theorem Dt{O P:List Int}:gz O P=[] ↔ gc O P=[]:=by unfold gz; simp
theorem Le{P O:List Int}{g b:Int}(b0:0<=b):iT P O g [b]=match P[b.toNat]? with
 | some n=>[.str "sign",.int n,.int g]
 | none=>if b=254+(1 - g)/\gz O P≠[] then [.str "more",.non,.int g] else [.str "none",.non,.int g]:=by
 have hw:dO P O g [b]=P[b.toNat]?.map λn=>(n,g):=rfl
 unfold iT
 rw[hw]
 cases e:P[b.toNat]? with
 | some n=>rfl
 | none =>
  have hw':dO P O g [b]=none:=by rw[hw,e]; rfl
  dsimp only [Option.map]
  unfold f9
  rw[hw']
  rcases Dh O P g with hb | ⟨i,hi,hb⟩
  ·have ha:=Dt.mpr ((Pl O P g).mp hb)
   rw[hb,ha]
   simp
  ·have ha:gz O P≠[]:=λz=>by
    rw[Dt.mp z]at hi
    cases hi
   rw[hb]
   unfold cQ
   by_cases c:b=254+(1 - g)
   ·simp[c,ha]
   ·have c' : ¬ 254+(1 - g)=b:=λz=>c z.symm
    simp[c,c']
theorem Ld {P O:List Int} {g c:Int} (c0:0<=c):iT P O g [254+(1 - g),c]=if c∈gz O P then [.str "sign",.int (O.getD c.toNat 0),.int (1 - g)] else [.str "none",.non,.int g]:=by
 by_cases h:c∈gz O P
 ·rw[if_pos h]
  obtain⟨n,hn,hp⟩:=(Bh c0).mp h
  unfold iT dO
  simp[hn,hp,List.getD_eq_getElem?_getD]
 ·rw[if_neg h]
  have hw:dO P O g [254+(1 - g),c]=none:=by
   unfold dO
   dsimp only
   cases e:O[c.toNat]? with
   | none=>rfl
   | some n =>
    dsimp only
    rw[if_pos]
    exact Decidable.byContradiction λz=>h ((Bh c0).mpr ⟨n,e,z⟩)
  have hf:f9 P O g [254+(1 - g),c]=false:=by
   unfold f9
   rw[hw]
   rcases Dh O P g with hb | ⟨i,hi,hb⟩
   ·rw[hb]; rfl
   ·rw[hb]
    unfold cQ
    have : ¬ (i:Int)=c:=λz=>h (by
     unfold gz
     exact List.mem_map.mpr ⟨i,List.mem_of_mem_head? hi,z⟩)
    simp[this]
  unfold iT
  rw[hw,hf]
  rfl
structure jd (H:Hp) (p:Addr) (s:Int) (r:List Int):Prop where
 h : ∃ q,H p=some (.tup [.int s,.ref q])/\H q=some (.lst (r.map V.int))
 l:1<=r.length/\r.length<=6
theorem jd.mono{H H':Hp}{p:Addr}{s:Int}{r:List Int}(h:jd H p s r)(k:af H H'):jd H' p s r:=by
 obtain⟨⟨q,a,b⟩,l⟩:=h
 exact⟨⟨q,k _ _ a,k _ _ b⟩,l⟩
def fo(e f:Int × List Int):Bool:=decide (e.1=f.1) || cQ e.2 f.2 || cQ f.2 e.2
def Gf:Sp:=λvs H Q _=>∃ (a b:Addr) (e f:Int × List Int),vs=[.ref a,.ref b]/\jd H a e.1 e.2/\jd H b f.1 f.2/\∀ H',af H H'->Q (.bl (fo e f)) H'
theorem MK (T:Txt w K mg t):bp P w K mg base "collide" 2 t.x5 t.uq ["one", "other"] Gf:=by
 refine⟨T.N7,T.Eg.kp,T.Qg,T.Eg.okQ GM (λvs H Q E h=>by obtain⟨a,b,x,y,rfl,_⟩:=h; rfl) λcdv A outer s H vs Q E hr h=>?_⟩
 obtain⟨a,b,⟨s1,r1⟩,⟨s2,r2⟩,rfl,⟨⟨q1,ha,hq1⟩,_⟩,⟨⟨q2,hb,hq2⟩,_⟩,k⟩:=h
 dsimp only at ha hq1 hb hq2
 have hu:=hr.units
 refine⟨_,(ah (al (lY (sn (bo (K:=K) rfl hu) (aL (aM (K:=K) rfl) (aa 0) aj (λ_ _=>rfl)) (aL (aM (K:=K) rfl) (aa 1) aj (λ_ _=>rfl)) (aD _)) (lY (aN (sT T) hr (ab (aL (aM (K:=K) rfl) (aa 0) aj (λ_ _=>rfl)) (ab (aL (aM (K:=K) rfl) (aa 1) aj (λ_ _=>rfl)) ad))) (gl (aN (sT T) hr (ab (aL (aM (K:=K) rfl) (aa 1) aj (λ_ _=>rfl)) (ab (aL (aM (K:=K) rfl) (aa 0) aj (λ_ _=>rfl)) ad)))))))),?_⟩
 refine⟨_,_,.inr (.of ha),aV (j:=0) rfl,?_⟩
 refine⟨_,_,.inr (.of hb),aV (j:=0) rfl,?_⟩
 refine ak (λz=>?_) (λz=>?_)
 ·refine cc (k H (af.refl _)) ?_
  have z:decide (s1=s2)=true:=z
  show (decide (s1=s2) || cQ r1 r2 || cQ r2 r1)=true
  rw[z]; rfl
 have z : ¬ decide (s1=s2)=true:=z
 refine⟨_,_,.inr (.of ha),aV (j:=1) rfl,?_⟩
 refine⟨_,_,.inr (.of hb),aV (j:=1) rfl,?_⟩
 refine⟨q1,q2,r1,r2,rfl,.of hq1,.of hq2,λH1 k1=>?_⟩
 refine ak (λy=>?_) (λy=>?_)
 ·refine cc (k H1 k1) ?_
  have y:cQ r1 r2=true:=y
  show (decide (s1=s2) || cQ r1 r2 || cQ r2 r1)=true
  rw[y]; simp
 have y : ¬ cQ r1 r2=true:=y
 refine⟨_,_,.inr (.of (k1 _ _ hb)),aV (j:=1) rfl,?_⟩
 refine⟨_,_,.inr (.of (k1 _ _ ha)),aV (j:=1) rfl,?_⟩
 refine⟨q2,q1,r2,r1,rfl,.of (k1 _ _ hq2),.of (k1 _ _ hq1),λH2 k2=>?_⟩
 refine cc (k H2 (k1.trans k2)) ?_
 show (decide (s1=s2) || cQ r1 r2 || cQ r2 r1)=cQ r2 r1
 simp at z y
 simp[z,y]
structure Es (es:List (Int × List Int)):Prop where
 sg : ∀ e∈es,Sg e.1/\1<=e.2.length/\e.2.length<=6/\∀ b∈e.2,0<=b/\b<=255
 pw:es.Pairwise λe f=>fo e f=false
 l:es.length<=64
theorem OV(e f:Int × List Int):fo e f=fo f e:=by
 unfold fo
 rw[show decide (e.1=f.1)=decide (f.1=e.1) by simp[eq_comm],Bool.or_assoc,Bool.or_assoc,Bool.or_comm (cQ e.2 f.2)]
theorem Es.two{es:List (Int × List Int)}(h:Es es){e f:Int × List Int}(he:e∈es)(hf:f∈es):e=f\/fo e f=false:=by
 obtain⟨i,hi,rfl⟩:=List.mem_iff_getElem.mp he
 obtain⟨j,hj,rfl⟩:=List.mem_iff_getElem.mp hf
 rcases Nat.lt_trichotomy i j with c | c | c
 ·exact .inr (List.pairwise_iff_getElem.mp h.pw i j hi hj c)
 ·subst c; exact .inl rfl
 ·rw[OV]; exact .inr (List.pairwise_iff_getElem.mp h.pw j i hj hi c)
def lK(H:Hp)(ps:List Addr)(es:List (Int × List Int)):Prop:=cB (λa e=>jd H a e.1 e.2) ps es
theorem lK.mono{H H':Hp}{ps:List Addr}{es:List (Int × List Int)}(h:lK H ps es)(s:af H H'):lK H' ps es:=h.imp λa e z=>z.mono s
def Fc(K:PySem.W.Frag):Sp:=λvs H Q _=>∃ (q:Addr) (r:List Int),vs=[.ref q]/\H q=some (.lst (r.map V.int))/\(∀ b∈r,0<=b/\b<=255)/\r.length<=1000/\∀ H',af H H'->Q (.bl true) H'
theorem MG (T:Txt w K mg t):bp P w K mg base "is_row" 3 t.xU t.ui ["thing"] (Fc K):=by
 refine⟨T.NY,T.D9.kp,T.Qa,T.D9.okQ GH (λvs H Q E h=>by obtain⟨q,r,rfl,_⟩:=h; rfl) λcdv A outer s H vs Q E hr h=>?_⟩
 obtain⟨q,r,rfl,hq,hb,hl,k⟩:=h
 refine⟨_,(ah (al (ib (bi (i9 (K:=K) rfl) T.n_isinstance PyProof.Rows.boot_isinstance (ab (aa 0) (ab (iQ rfl T.n_list PyProof.Rows.boot_list) ad))) (gl (bi (C8 (K:=K) rfl rfl) T.n_all PyProof.Rows.boot_all (ab (fh rfl (cG.of (fns:=(ag iK).names) (N:=["thing"]) (Nc:=["each"]) (nv:=1) (caps:=[]) rfl rfl (by decide +kernel)) (dz (K:=K) rfl (aa 0)) (λ_ _ _ _=>(ba (i:=0) (show List.Nodup (["each"]:List Str) by decide +kernel) rfl (Or.inl rfl) (Or.inr rfl))) (λ_ _ _ _=>d6) (λ_ _ _ _=>(aN (MI T) hr (ab (aa 0) ad)))) ad)))))),?_⟩
 refine⟨_,_,.lst hq,by with_unfolding_all rfl,?_⟩
 refine gU ?_
 refine⟨q,rfl,⟨_,.of hq⟩,i7 ((r.map λ_=>true).map V.bl) (by simp) (.of hq) (bB (by rw[List.length_map]; omega)) (λi x y H4 N hx hy s4 hN=>?_) λp3 H3 g3=>?_⟩
 ·obtain⟨o,ho,rfl⟩:=dn hx
  rw[List.getElem?_map,List.getElem?_map,ho]at hy
  cases hy
  have:=hb o (List.mem_of_getElem? ho)
  exact⟨_,rfl,.int _,cc (hN _ (af.refl _)) (by simp[cZ]; omega)⟩
 refine⟨_,g3.lst,?_⟩
 exact cc (k H3 g3.sm) (by simp)
def Gc(K:PySem.W.Frag):Sp:=λvs H Q _=>∃ (p:Addr) (e:Int × List Int),vs=[.ref p]/\jd H p e.1 e.2/\Sg e.1/\(∀ b∈e.2,0<=b/\b<=255)/\∀ H',af H H'->Q (.bl true) H'
theorem MH (T:Txt w K mg t):bp P w K mg base "is_entry" 4 t.xX t.ul ["thing"] (Gc K):=by
 refine⟨T.N2,T.Ed.kp,T.Qd,T.Ed.okQ GK (λvs H Q E h=>by obtain⟨p,e,rfl,_⟩:=h; rfl) λcdv A outer s H vs Q E hr h=>?_⟩
 obtain⟨p,⟨sg,r⟩,rfl,⟨⟨q,hp,hq⟩,l1,l6⟩,hs,hb,k⟩:=h
 dsimp only at hp hq l1 l6 hs hb
 have hu:=hr.units
 refine⟨_,(ai (aF (bZ (dv (eJ (dE (bi (i9 (K:=K) rfl) T.n_isinstance PyProof.Rows.boot_isinstance (ab (aa 0) (ab (iQ rfl T.n_tuple PyProof.Rows.boot_tuple) ad))))) (du (av (gx (K:=K) rfl hu) (bi (bA (K:=K) rfl) T.n_len PySem.boot_len (ab (aa 0) ad)) aj (aD _))))) (ah (al fY)) aG)
  (ah (al (ib (aN (ik T) hr (ab (aL (aM (K:=K) rfl) (aa 0) aj (λ_ _=>rfl)) ad)) (ib (aN (MG T) hr (ab (aL (aM (K:=K) rfl) (aa 0) aj (λ_ _=>rfl)) ad)) (gl (kT fk fk aj (bi (bA (K:=K) rfl) T.n_len PySem.boot_len (ab (aL (aM (K:=K) rfl) (aa 0) aj (λ_ _=>rfl)) ad)) (bP T.Pe)))))))),?_⟩
 refine⟨_,_,.tup hp,by with_unfolding_all rfl,?_⟩
 refine ak (λz=>absurd z (by decide)) (λ_=>?_)
 refine⟨_,.inr (.of hp),?_⟩
 refine⟨_,_,.inr (.of hp),aV (j:=0) rfl,?_⟩
 refine⟨_,rfl,.int _,?_⟩
 refine ak (λ_=>?_) (λz=>absurd ((gL sg).mpr hs) z)
 refine⟨_,_,.inr (.of hp),aV (j:=1) rfl,?_⟩
 refine⟨q,r,rfl,hq,hb,by omega,λH1 s1=>?_⟩
 refine gU ?_
 refine⟨_,_,.inr (.of (s1 _ _ hp)),aV (j:=1) rfl,?_⟩
 refine⟨_,.inl (.of (s1 _ _ hq)),?_⟩
 refine ak (λz=>?_) (λz=>?_)
 ·exact cc (k H1 s1) (by rw[List.length_map]; simp; omega)
 ·exact absurd (show decide ((1:Int)<=((r.map V.int).length:Int))=true by rw[List.length_map]; simp; omega) z
def Gg:Sp:=λvs H Q _=>∃ (a:Addr) (ps:List Addr) (es:List (Int × List Int)),vs=[.ref a]/\H a=some (.lst (ps.map V.ref))/\lK H ps es/\Es es/\∀ H',af H H'->Q .non H'
theorem OM(xs:List V)(k:Nat):de xs none (some (k:Int))=xs.take k:=mR xs k
theorem nS{qs:List Addr}{i:Nat}{x:V}(h:(qs.map V.ref)[i]? = some x) : ∃ q,qs[i]? = some q/\x=.ref q:=by
 rw[List.getElem?_map]at h
 obtain⟨q,hq,rfl⟩:=Option.map_eq_some_iff.mp h
 exact⟨q,hq,rfl⟩
theorem ML (T:Txt w K mg t):bp P w K mg base "check_table" 5 t.x6 t.ur ["rows"] Gg:=by
 refine⟨T.N8,T.Eh.kp,T.Qh,T.Eh.okQ lV (λvs H Q E h=>by obtain⟨a,ps,es,rfl,_⟩:=h; rfl) λcdv A outer s H vs Q E hr h=>?_⟩
 obtain⟨a,ps,es,rfl,ha,en,ok,k⟩:=h
 have hu:=hr.units
 refine⟨_,(ai (aF (av gy (bi (bA (K:=K) rfl) T.n_len PySem.boot_len (ab (aa 0) ad)) (bP T.Pc) (aD _)) (ah fG) aG)
  (ah (dw PassesOwn.never rfl (kS (K:=K) rfl rfl T.n_enumerate (ab (aa 0) ad)) (eN (K:=K) rfl rfl (bR (ba (i:=1) lV.nd rfl (by first | exact Or.inl rfl | exact Or.inr rfl)) (bR (ba (i:=2) lV.nd rfl (by first | exact Or.inl rfl | exact Or.inr rfl)) eK))) (ai (aF (eJ (dE (aN (MH T) hr (ab (aa 2) ad)))) (ah fG) aG)
  (ah (dw PassesOwn.never rfl (kS (K:=K) rfl rfl T.n_enumerate (ab (cU (c9 (K:=K) rfl) (aa 0) dD (ci (aa 1))) ad)) (eN (K:=K) rfl rfl (bR (ba (i:=3) lV.nd rfl (by first | exact Or.inl rfl | exact Or.inr rfl)) (bR (ba (i:=4) lV.nd rfl (by first | exact Or.inl rfl | exact Or.inr rfl)) eK))) (ah (aF (dE (aN (MK T) hr (ab (aa 4) (ab (aa 2) ad)))) (ah fG) aG)))))))),?_⟩
 have lp:ps.length=es.length:=en.1
 have l64:=ok.l
 refine⟨_,.inl (.of ha),?_⟩
 refine ak (λz=>?_) (λ_=>?_)
 ·have z:((ps.map V.ref).length:Int) > 64:=of_decide_eq_true z
  rw[List.length_map]at z
  omega
 refine⟨a,_,rfl,.of ha,ls (K:=K) (a:=a) (xs:=ps.map V.ref) (λi σ H'=>af H H'/\∃ v1 v2 v3 v4,σ=[some (.ref a),v1,v2,v3,v4]) ⟨af.refl _,_,_,_,_,rfl⟩ (λi σ H' _ z=>z.1.seq (.of ha)) ?_ ?_⟩
 ·rintro i x p σ H2 H3 hx ⟨s2,v1,v2,v3,v4,rfl⟩ g3
  obtain⟨px,hpx,rfl⟩:=nS hx
  obtain⟨e,he,ee⟩:=en.right hpx
  refine⟨p,_,rfl,g3.tup,rfl,_,_,rfl,_,_,rfl,rfl,?_⟩
  have s3:=s2.trans g3.sm
  obtain⟨k1,k2,k3,k4⟩:=ok.sg e (List.mem_of_getElem? he)
  refine⟨px,e,rfl,ee.mono s3,k1,k4,λH4 s4=>?_⟩
  refine ak (λz=>absurd (show (!true)=true from z) (by decide)) (λ_=>?_)
  have s04:=s3.trans s4
  refine⟨_,rfl,_,s04.seq (.of ha),λp1 H5 g5=>?_⟩
  rw[OM]at g5
  have s05:=s04.trans g5.sm
  refine⟨p1,_,rfl,g5.lst,ls (K:=K) (a:=p1) (xs:=(ps.map V.ref).take i) (λj σ H'=>af H5 H'/\∃ v3 v4,σ=[some (.ref a),some (.int (i:Int)),some (.ref px),v3,v4]) ⟨af.refl _,_,_,rfl⟩ (λi σ H' _ z=>z.1.seq g5.lst) ?_ ?_⟩
  ·rintro j u pj σ H6 H7 hju ⟨s6,v3,v4,rfl⟩ g7
   have hji:j < i:=by have:=(List.getElem?_eq_some_iff.mp hju).1; rw[List.length_take]at this; omega
   rw[List.getElem?_take_of_lt hji]at hju
   obtain⟨pu,hpu,rfl⟩:=nS hju
   obtain⟨f,hf,ef⟩:=en.right hpu
   refine⟨pj,_,rfl,g7.tup,rfl,_,_,rfl,_,_,rfl,rfl,?_⟩
   have s07:=s05.trans (s6.trans g7.sm)
   refine⟨pu,px,f,e,rfl,ef.mono s07,ee.mono s07,λH8 s8=>?_⟩
   have nc:fo f e=false:=by
    obtain⟨a1,e1⟩:=List.getElem?_eq_some_iff.mp hf
    obtain⟨a2,e2⟩:=List.getElem?_eq_some_iff.mp he
    rw[<- e1,<- e2]
    exact List.pairwise_iff_getElem.mp ok.pw j i a1 a2 hji
   refine ak (λz=>absurd (show fo f e=true from z) (by rw[nc]; decide)) (λ_=>?_)
   exact⟨s6.trans (g7.sm.trans s8),_,_,rfl⟩
  ·rintro σ H6 ⟨s6,v3,v4,rfl⟩
   exact⟨s05.trans s6,_,_,_,_,rfl⟩
 ·rintro σ H2 ⟨s2,_⟩
  exact k H2 s2
structure Ft where
 dx:Addr
 d1:Addr
 d2:Addr
 d3:Addr
def cV(r:List Int):List aP:=r.map Sum.inl
theorem oz(r:List Int):r.map V.int=(cV r).map kV:=by
 unfold cV
 rw[List.map_map]; rfl
theorem oB{r s:List Int}(h:cV r=cV s):r=s:=by
 unfold cV at h
 induction r generalizing s with
 | nil=>cases s with
  | nil=>rfl
  | cons _ _=>cases h
 | cons x r ih=>cases s with
  | nil=>cases h
  | cons y s=>simp at h; rw[h.1,ih (by simpa using h.2)]
def lG(es:List (Int × List Int))(row:List Int):Prop:=∃ e∈es,∃ m,m<=e.2.length/\row=e.2.take m
def m8(H:Hp)(k3:List (List aP × V))(es:List (Int × List Int))(rr:List Int):Prop:=∃ (q:Addr) (r2:List Int),bj k3 (cV rr)=some (.ref q)/\H q=some (.tup (r2.map V.int))/\∃ e'∈es,e'.2=rr++r2
structure Kv (H:Hp) (k1:List (aP × V)) (k2 k3:List (List aP × V)) (es:List (Int × List Int)):Prop where
 a : ∀ e∈es,∃ q,bj k1 (.inl e.1)=some (.ref q)/\H q=some (.tup (e.2.map V.int))
 b : ∀ e∈es,bj k2 (cV e.2)=some (.int e.1)
 b' : ∀ r:List Int,(∀ e∈es,e.2≠r)->bj k2 (cV r)=none
 c : ∀ e∈es,∀ m,m<=e.2.length->m8 H k3 es (e.2.take m)
 c' : ∀ r:List Int,¬ lG es r->bj k3 (cV r)=none
structure Tt (t:Adr) (H:Hp) (a:Addr) (f:Ft) (es:List (Int × List Int)) (n:Nat):Prop where
 o:H a=some (.ins t.bW f.dx [("row_by_sign",.ref f.d1),("sign_by_row",.ref f.d2),("rest_by_row",.ref f.d3)])
 k : ∃ k1 k2 k3,H f.d1=some (.dK k1)/\H f.d2=some (.dT k2)/\H f.d3=some (.dT k3)/\k1.length<=n/\k2.length<=n/\k3.length<=n/\Kv H k1 k2 k3 es
 ne:f.d2≠f.d3
variable {H H':Hp}{a:Addr}{f:Ft}{es:List (Int × List Int)}{n:Nat}
theorem Kv.mono{k1:List (aP × V)}{k2 k3:List (List aP × V)}(h:Kv H k1 k2 k3 es)(s : ∀ q xs,H q=some (.tup xs)->H' q=some (.tup xs)):Kv H' k1 k2 k3 es:=by
 refine⟨λe he=>?_,h.b,h.b',λe he m hm=>?_,h.c'⟩
 ·obtain⟨q,x,y⟩:=h.a e he
  exact⟨q,x,s _ _ y⟩
 ·obtain⟨q,r2,x,y,z⟩:=h.c e he m hm
  exact⟨q,r2,x,s _ _ y,z⟩
theorem Tt.mono(h:Tt t H a f es n)(s:af H H'):Tt t H' a f es n:=by
 obtain⟨o,⟨k1,k2,k3,a1,a2,a3,l1,l2,l3,kv⟩,ne⟩:=h
 exact⟨s _ _ o,⟨k1,k2,k3,s _ _ a1,s _ _ a2,s _ _ a3,l1,l2,l3,kv.mono λq xs e=>s _ _ e⟩,ne⟩
theorem bc{c d:Addr}{u v:HO}(h:H c=some u)(k:H d=some v)(n:u≠v):c≠d:=λz=>by rw[z,k]at h; exact n (Option.some.inj h).symm
def dM(f:Ft)(H H':Hp):Prop:=∀ c u,c≠f.d1->c≠f.d2->c≠f.d3->H c=some u->H' c=some u
theorem dM.trans{H H1 H2:Hp}(h:dM f H H1)(h':dM f H1 H2):dM f H H2:=λc u n1 n2 n3 e=>h' c u n1 n2 n3 (h c u n1 n2 n3 e)
theorem dM.of{H H1:Hp}(h:af H H1):dM f H H1:=λc u _ _ _ e=>h c u e
theorem Tt.tup{q:Addr}{xs:List V}(h:Tt t H a f es n)(hq:H q=some (.tup xs))(k:dM f H H'):H' q=some (.tup xs):=by
 obtain⟨o,⟨k1,k2,k3,a1,a2,a3,_⟩,ne⟩:=h
 exact k _ _ (bc hq a1 (by intro z; cases z)) (bc hq a2 (by intro z; cases z)) (bc hq a3 (by intro z; cases z)) hq
def Gb(t:Adr):Sp:=λvs H Q _=>∃ (a:Addr) (f:Ft) (q:Addr) (n:Nat) (s:Int) (r:List Int) (es:List (Int × List Int)),vs=[.ref a,.int s,.ref q]/\Tt t H a f es n/\H q=some (.tup (r.map V.int))/\r.length<=6/\n<=1000/\(∀ e∈es,e.1≠s/\e.2≠r) /\
 ∀ H',Tt t H' a f (es++[(s,r)]) (n+9)->dM f H H'->Q .non H'
theorem MR (T:Txt w K mg t):bT P w K mg base t.bW "enter" 1 t.yi t.uC ["self", "sign", "row"] (Gb t):=by
 refine⟨T.dU,T.Kk,T.Qw,T.Rx.okQ Ak (λvs H Q E h=>by obtain⟨a,f,q,n,s,r,es,rfl,_⟩:=h; rfl) λcdv A outer s H vs Q E hr h=>?_⟩
 obtain⟨a,f,q,n,sg,r,es,rfl,tb,hq,lr,ln,new,k⟩:=h
 have hu:=hr.units
 obtain⟨o,⟨k1,k2,k3,a1,a2,a3,l1,l2,l3,kv⟩,ne⟩:=id tb
 refine⟨_,(ai (nW hu (aq (K:=K) rfl (aa 0)) (aa 1) (aa 2))
  (ai (nW hu (aq (K:=K) rfl (aa 0)) (aa 2) (aa 1))
  (ah (dw PassesOwn.never rfl (kR rfl T.n_range (ab (au (aX (K:=K) rfl) (bi (bA (K:=K) rfl) T.n_len PySem.boot_len (ab (aa 2) ad)) aj) ad)) (ba (i:=3) Ak.nd rfl (by first | exact Or.inl rfl | exact Or.inr rfl)) (ah (nW hu (aq (K:=K) rfl (aa 0)) (cU (Cm (K:=K) rfl) (aa 2) dD (ci (aa 3))) (cU (Cm (K:=K) rfl) (aa 2) (ci (aa 3)) dD))))))),?_⟩
 have n12:f.d1≠f.d2:=bc a1 a2 (by intro z; cases z)
 have n13:f.d1≠f.d3:=bc a1 a3 (by intro z; cases z)
 have na1:a≠f.d1:=bc o a1 (by intro z; cases z)
 have na2:a≠f.d2:=bc o a2 (by intro z; cases z)
 have na3:a≠f.d3:=bc o a3 (by intro z; cases z)
 refine⟨a,_,f.dx,_,_,rfl,o,T.dU,T.og,rfl,?_⟩
 refine⟨f.d1,_,rfl,gF.k (k:=.inl sg) a1 (dP (by omega)),?_⟩
 obtain⟨H1,e1⟩ : ∃ H1,H1=upd H f.d1 (.dK (cn k1 (.inl sg) (.ref q))):=⟨_,rfl⟩
 rw[<- e1]
 have o1:dM f H H1:=λc u m1 m2 m3 e=>by rw[e1,aw m1]; exact e
 have b1:H1 f.d1=some (.dK (cn k1 (.inl sg) (.ref q))):=by rw[e1,aQ]
 have b2:H1 f.d2=some (.dT k2):=by rw[e1,aw n12.symm]; exact a2
 have b3:H1 f.d3=some (.dT k3):=by rw[e1,aw n13.symm]; exact a3
 clear e1
 refine⟨a,_,f.dx,_,_,rfl,o1 _ _ na1 na2 na3 o,T.dU,T.sr,rfl,?_⟩
 have hq1:=tb.tup hq o1
 refine⟨f.d2,_,rfl,gF.t (k:=cV r) b2 (by rw[<- oz]; exact hq1) (dP (by omega)),?_⟩
 obtain⟨H2,e2⟩ : ∃ H2,H2=upd H1 f.d2 (.dT (cn k2 (cV r) (.int sg))):=⟨_,rfl⟩
 rw[<- e2]
 have o2:dM f H1 H2:=λc u m1 m2 m3 e=>by rw[e2,aw m2]; exact e
 have c1:H2 f.d1=some (.dK (cn k1 (.inl sg) (.ref q))):=by rw[e2,aw n12]; exact b1
 have c2:H2 f.d2=some (.dT (cn k2 (cV r) (.int sg))):=by rw[e2,aQ]
 have c3:H2 f.d3=some (.dT k3):=by rw[e2,aw ne.symm]; exact b3
 clear e2
 have o02:=o1.trans o2
 have hq2:=tb.tup hq o02
 refine⟨_,.inr (.of hq2),?_⟩
 refine⟨_,rfl,by rw[List.length_map]; omega,by rw[List.length_map]; omega,?_⟩
 rw[List.length_map]
 refine o0 (lo:=0) (n:=((r.length:Int)+1).toNat) (λi σ H'=>dM f H H'/\H' f.d1=some (.dK (cn k1 (.inl sg) (.ref q)))/\H' f.d2=some (.dT (cn k2 (cV r) (.int sg)))/\(∃ k3',H' f.d3=some (.dT k3')/\k3'.length<=n+i/\(∀ m,m < i->m8 H' k3' (es++[(sg,r)]) (r.take m))/\(∀ e∈es,∀ m,m<=e.2.length->m8 H' k3' (es++[(sg,r)]) (e.2.take m))/\(∀ rr,¬ lG (es++[(sg,r)]) rr->bj k3' (cV rr)=none))/\∃ v3,σ=[some (.ref a),some (.int sg),some (.ref q),v3]) ⟨o02,c1,c2,⟨k3,c3,by omega,(λm h=>absurd h (by omega)),(λe he m hm=>?_),λrr hrr=>kv.c' rr λ⟨e,he,z⟩=>hrr ⟨e,List.mem_append_left _ he,z⟩⟩,_,rfl⟩ ?_ ?_
 ·obtain⟨q',r2,x,y,e',he',z⟩:=kv.c e he m hm
  exact⟨q',r2,x,tb.tup y o02,e',List.mem_append_left _ he',z⟩
 ·rintro i σ H3 hi ⟨o3,d1,d2,⟨k3',d3,l3',new3,old3,no3⟩,v3,rfl⟩
  have hq3:=tb.tup hq o3
  refine⟨_,rfl,_,.of hq3,hq3,λp4 H4 s4 h4=>?_⟩
  refine⟨a,_,f.dx,_,_,rfl,s4 _ _ (o3 _ _ na1 na2 na3 o),T.dU,T.su,rfl,?_⟩
  refine⟨_,rfl,_,.of (s4 _ _ hq3),s4 _ _ hq3,λp5 H5 s5 h5=>?_⟩
  rw[Int.zero_add,CW,oz]at h5
  have s35:=s4.trans s5
  refine⟨f.d3,_,rfl,gF.t (k:=cV (r.take i)) (s35 _ _ d3) h5 (dP (by omega)),?_⟩
  obtain⟨H6,e6⟩ : ∃ H6,H6=upd H5 f.d3 (.dT (cn k3' (cV (r.take i)) (.ref p4))):=⟨_,rfl⟩
  rw[<- e6]
  have t6 : ∀ c u,c≠f.d3->H3 c=some u->H6 c=some u:=λc u m e=>by rw[e6,aw m]; exact s35 _ _ e
  have n43:p4≠f.d3:=bc (s5 _ _ h4) (s35 _ _ d3) (by intro z; cases z)
  have h46:H6 p4=some (.tup (de (r.map V.int) (some (0+(i:Int))) none)):=by rw[e6,aw n43]; exact s5 _ _ h4
  have b6:H6 f.d3=some (.dT (cn k3' (cV (r.take i)) (.ref p4))):=by rw[e6,aQ]
  clear e6
  have h46':H6 p4=some (.tup ((r.drop i).map V.int)):=by
   rw[h46,Int.zero_add,eU]
   exact congrArg _ (congrArg _ (congrArg _ (mS r i)))
  have keep : ∀ rr,m8 H3 k3' (es++[(sg,r)]) rr->m8 H6 (cn k3' (cV (r.take i)) (.ref p4)) (es++[(sg,r)]) rr:=by
   rintro rr ⟨q',r2,x,y,z⟩
   by_cases c:cV rr=cV (r.take i)
   ·have c':=oB c
    exact⟨p4,r.drop i,by rw[gh,if_pos c],h46',(sg,r),by simp,by rw[c',List.take_append_drop]⟩
   ·exact⟨q',r2,by rw[gh,if_neg c]; exact x,t6 _ _ (bc y d3 (by intro z; cases z)) y,z⟩
  refine⟨λc u m1 m2 m3 e=>t6 _ _ m3 (o3 c u m1 m2 m3 e),t6 _ _ n13 d1,t6 _ _ ne d2,⟨_,b6,?_,λm hm=>?_,(λe he m hm=>keep _ (old3 e he m hm)),λrr hrr=>?_⟩,_,rfl⟩
  ·have:=ml k3' (cV (r.take i)) (.ref p4); omega
  ·by_cases c:m < i
   ·exact keep _ (new3 m c)
   ·obtain rfl:m=i:=by omega
    exact⟨p4,r.drop m,by rw[gh,if_pos rfl],h46',(sg,r),by simp,by rw[List.take_append_drop]⟩
  ·rw[gh,if_neg (λz=>hrr ⟨(sg,r),by simp,i,by dsimp only; omega,oB z⟩)]
   exact no3 rr hrr
 ·rintro σ H3 ⟨o3,d1,d2,⟨k3',d3,l3',new3,old3,no3⟩,_⟩
  refine k _ ⟨o3 _ _ na1 na2 na3 o,⟨_,_,k3',d1,d2,d3,?_,?_,by omega,?_⟩,ne⟩ o3
  ·have:=ml k1 (.inl sg) (.ref q); omega
  ·have:=ml k2 (cV r) (.int sg); omega
  ·refine⟨λe he=>?_,λe he=>?_,λr' hr'=>?_,(λe he m hm=>?_),no3⟩
   ·rcases List.mem_append.mp he with he | he
    ·rw[gh,if_neg (λz=>(new e he).1 (Sum.inl.inj z))]
     obtain⟨q',x,y⟩:=kv.a e he
     exact⟨q',x,tb.tup y o3⟩
    ·rw[List.mem_singleton.mp he,gh,if_pos rfl]
     exact⟨q,rfl,tb.tup hq o3⟩
   ·rcases List.mem_append.mp he with he | he
    ·rw[gh,if_neg (λz=>(new e he).2 (oB z))]
     exact kv.b e he
    ·rw[List.mem_singleton.mp he,gh,if_pos rfl]
   ·rw[gh,if_neg (λz=>hr' (sg,r) (by simp) (oB z).symm)]
    exact kv.b' r' λe he=>hr' e (by simp[he])
   ·rcases List.mem_append.mp he with he | he
    ·exact old3 e he m hm
    ·rw[List.mem_singleton.mp he]at hm ⊢
     exact new3 m (by dsimp only at hm; omega)
def zP(t:Adr):Sp:=λvs H Q _=>∃ (a dx p:Addr) (ps:List Addr) (es:List (Int × List Int)),vs=[.ref a,.ref p]/\H a=some (.ins t.bW dx [])/\H p=some (.lst (ps.map V.ref))/\lK H ps es/\Es es /\
 ∀ f H',Kp a H H'->Tt t H' a f es 1000->Q .non H'
theorem Tt.up{H:Hp}{a:Addr}{f:Ft}{es:List (Int × List Int)}{n m:Nat}(h:Tt t H a f es n)(hm:n<=m):Tt t H a f es m:=by
 obtain⟨o,⟨k1,k2,k3,a1,a2,a3,l1,l2,l3,kv⟩,ne⟩:=h
 exact⟨o,⟨k1,k2,k3,a1,a2,a3,by omega,by omega,by omega,kv⟩,ne⟩
theorem JR (T:Txt w K mg t):bv P w K mg base bC 6 t.qS t.pB ["self", "rows"] (zP t):=by
 refine T.Rv.okQ Ai (λvs H Q E h=>by obtain⟨a,dx,p,ps,es,rfl,_⟩:=h; rfl) λcdv A outer s H vs Q E hr h=>?_
 obtain⟨a,dx,p,ps,es,rfl,ha,hp,en,ok,kq⟩:=h
 have hu:=hr.units
 refine⟨_,(ai (cT (aN (ML T) hr (ab (aa 1) ad)))
  (ai (cg (K:=K) rfl (aa 0) AI)
  (ai (cg (K:=K) rfl (aa 0) AH)
  (ai (cg (K:=K) rfl (aa 0) AH)
  (ah (dw PassesOwn.never rfl (dz (K:=K) rfl (aa 1)) (ba (i:=2) Ai.nd rfl (by first | exact Or.inl rfl | exact Or.inr rfl)) (ah (cT (bJ (MR T) hr (aa 0) (ab (aL (aM (K:=K) rfl) (aa 2) aj (λ_ _=>rfl)) (ab (dR (w5 (K:=K) rfl) T.n_tuple PyProof.Rows.boot_tuple (ab (aL (aM (K:=K) rfl) (aa 2) aj (λ_ _=>rfl)) ad)) ad))))))))))),?_⟩
 refine⟨p,ps,es,rfl,hp,en,ok,λH1 s1=>?_⟩
 refine λd1 H2 g2=>?_
 refine⟨a,_,dx,_,rfl,g2.sm _ _ (s1 _ _ ha),T.dU,T.og,Nat.lt_of_lt_of_le Nat.zero_lt_one (by decide),?_⟩
 obtain⟨H3,e3⟩ : ∃ H3,H3=upd H2 a (HO.ins t.bW dx (ck "row_by_sign" (.ref d1) [])):=⟨_,rfl⟩
 have a3:H3 a=some (.ins t.bW dx [("row_by_sign",.ref d1)]):=by rw[e3,aQ]; rfl
 have k3:Kp a H2 H3:=by rw[e3]; exact Kp.upd
 rw[<- e3]
 clear e3
 refine λd2 H4 g4=>?_
 refine⟨a,_,dx,_,rfl,g4.sm _ _ a3,T.dU,T.sr,Nat.lt_of_lt_of_le (Nat.lt_succ_self 1) (by decide),?_⟩
 obtain⟨H5,e5⟩ : ∃ H5,H5=upd H4 a (HO.ins t.bW dx (ck "sign_by_row" (.ref d2) [("row_by_sign",.ref d1)])):=⟨_,rfl⟩
 have a5:H5 a=some (.ins t.bW dx [("row_by_sign",.ref d1),("sign_by_row",.ref d2)]):=by rw[e5,aQ]; rfl
 have k5:Kp a H4 H5:=by rw[e5]; exact Kp.upd
 rw[<- e5]
 clear e5
 refine λd3 H6 g6=>?_
 refine⟨a,_,dx,_,rfl,g6.sm _ _ a5,T.dU,T.su,Nat.lt_of_lt_of_le (Nat.lt_succ_self 2) (by decide),?_⟩
 obtain⟨H7,e7⟩ : ∃ H7,H7=upd H6 a (HO.ins t.bW dx (ck "rest_by_row" (.ref d3) [("row_by_sign",.ref d1),("sign_by_row",.ref d2)])):=⟨_,rfl⟩
 have a7:H7 a=some (.ins t.bW dx [("row_by_sign",.ref d1),("sign_by_row",.ref d2),("rest_by_row",.ref d3)]):=by rw[e7,aQ]; rfl
 have k7:Kp a H6 H7:=by rw[e7]; exact Kp.upd
 rw[<- e7]
 clear e7
 have n1:d1≠a:=(aH (s1 _ _ ha) g2.nw).symm
 have n2:d2≠a:=(aH a3 g4.nw).symm
 have n3:d3≠a:=(aH a5 g6.nw).symm
 have k35:Kp a H3 H5:=(Kp.of g4.sm).trans k5
 have k57:Kp a H5 H7:=(Kp.of g6.sm).trans k7
 have k37:Kp a H3 H7:=k35.trans k57
 have k17:Kp a H1 H7:=(Kp.of g2.sm).trans (k3.trans k37)
 have k07:Kp a H H7:=(Kp.of s1).trans k17
 have b2:H5 d2=some (.dT []):=k5 _ _ n2 g4.at_
 have n23:d2≠d3:=aH b2 g6.nw
 have tb:Tt t H7 a ⟨dx,d1,d2,d3⟩ [] 0:=⟨a7,⟨[],[],[],k37 _ _ n1 (k3 _ _ n1 g2.at_),k57 _ _ n2 b2,k7 _ _ n3 g6.at_,Nat.le_refl _,Nat.le_refl _,Nat.le_refl _,⟨(λe h=>nomatch h),(λe h=>nomatch h),(λr _=>rfl),(λe h=>nomatch h),(λr _=>rfl)⟩⟩,n23⟩
 have f1:H d1=none:=s1.free g2.nw
 have f2 : ∀ c u,H c=some u->c≠a->c≠d2:=λc u e n=>aH (k3 _ _ n (g2.sm _ _ (s1 _ _ e))) g4.nw
 have f3 : ∀ c u,H c=some u->c≠a->c≠d3:=λc u e n=>aH (k35 _ _ n (k3 _ _ n (g2.sm _ _ (s1 _ _ e)))) g6.nw
 have lx:=en.1
 have l64:=ok.l
 have kpo : ∀ H',dM ⟨dx,d1,d2,d3⟩ H7 H'->Kp a H H':=λH' o c u n e=>o c u (aH e f1) (f2 c u e n) (f3 c u e n) (k07 c u n e)
 have px : ∀ H',dM ⟨dx,d1,d2,d3⟩ H7 H'->H' p=some (.lst (ps.map V.ref)):=λH' o=>kpo H' o _ _ (bc hp ha (by intro z; cases z)) hp
 refine⟨p,rfl,⟨_,.of (px H7 (dM.of (af.refl _)))⟩,iY (K:=K) (a:=p) (xs:=ps.map V.ref) (λi σ H'=>Tt t H' a ⟨dx,d1,d2,d3⟩ (es.take i) (i*9)/\dM ⟨dx,d1,d2,d3⟩ H7 H'/\∃ v2,σ=[some (.ref a),some (.ref p),v2]) ⟨tb.up (by omega),dM.of (af.refl _),_,rfl⟩ (λi σ H' _ z=>.of (px H' z.2.1)) ?_ ?_⟩
 ·rintro i x σ H8 hx ⟨tb8,o8,v2,rfl⟩
  obtain⟨pe,hpe,rfl⟩:=nS hx
  obtain⟨e,he,⟨q,hq1,hq2⟩,l1,l6⟩:=en.right hpe
  have he8:=kpo _ o8 _ _ (bc hq1 ha (by intro z; cases z)) hq1
  have hq8:=kpo _ o8 _ _ (bc hq2 ha (by intro z; cases z)) hq2
  have hi:i < ps.length:=(List.getElem?_eq_some_iff.mp hpe).1
  refine⟨a,dx,_,rfl,tb8.o,rfl,?_⟩
  refine⟨_,_,.inr (.of he8),aV (j:=0) rfl,?_⟩
  refine⟨_,_,.inr (.of he8),aV (j:=1) rfl,?_⟩
  refine⟨_,.of hq8,λpt H9 g9=>?_⟩
  refine⟨a,⟨dx,d1,d2,d3⟩,pt,i*9,e.1,e.2,es.take i,rfl,tb8.mono g9.sm,g9.at_,l6,by omega,λe' he'=>?_,λHA tA oA=>?_⟩
  ·obtain⟨j,hj,rfl⟩:=List.mem_iff_getElem.mp he'
   obtain⟨a2,e2⟩:=List.getElem?_eq_some_iff.mp he
   rw[List.length_take]at hj
   have nc:=List.pairwise_iff_getElem.mp ok.pw j i (by omega) a2 (by omega)
   rw[e2]at nc
   rw[List.getElem_take]
   unfold fo cQ at nc
   refine⟨λz=>?_,λz=>?_⟩
   ·rw[decide_eq_true z]at nc; cases nc
   ·rw[z]at nc; simp at nc
  ·have et:es.take (i+1)=es.take i++[(e.1,e.2)]:=ff he
   rw[et]
   exact⟨tA.up (by omega),o8.trans ((dM.of g9.sm).trans oA),_,rfl⟩
 ·rintro σ H8 ⟨t8,o8,_⟩
  rw[List.length_map,lx,List.take_length]at t8
  exact kq _ _ (kpo _ o8) (t8.up (by omega))
theorem LW (T:Txt w K mg t):hX P w K mg base "TableTongue" t.bW 6 t.qS t.pB ["self", "rows"] [] (zP t):=⟨T.M7,T.KH,⟨[],T.Qu,.nil⟩,JR T⟩
def zE(t:Adr):Sp:=λvs H Q _=>∃ (a:Addr) (f:Ft) (es:List (Int × List Int)) (q:Addr) (row:List Int) (g:Int),vs=[.ref a,.ref q,.int g]/\Tt t H a f es 1000/\Es es/\H q=some (.lst (row.map V.int)) /\
 ((∀ e∈es,e.2≠row)->∀ H',af H H'->Q .non H')/\(∀ e∈es,e.2=row->∀ p H',af H H'->H' p=some (.tup [.int e.1,.int g])->Q (.ref p) H')
theorem JJ (T:Txt w K mg t):bv P w K mg base bC 2 t.qQ t.mC ["self", "row", "page"] (zE t):=by
 refine T.Rt.okQ Ah (λvs H Q E h=>by obtain⟨o,f,es,q,row,g,rfl,_⟩:=h; rfl) λcdv A outer s H vs Q E hr h=>?_
 obtain⟨a,f,es,q,row,g,rfl,tt,ok,hq,kn,ks⟩:=h
 have hu:=hr.units
 refine⟨_,(ai (aJ (i:=3) Ah.nd rfl (by first | exact Or.inl rfl | exact Or.inr rfl) (AL hu (aq (K:=K) rfl (aa 0)) (dR (w5 (K:=K) rfl) T.n_tuple PyProof.Rows.boot_tuple (ab (aa 1) ad))))
  (ah (al (gn (av iX (aa 3) bY (aD _)) bY (bK (ab (aa 3) (ab (aa 2) ad))))))),?_⟩
 obtain⟨o,⟨k1,k2,k3,a1,a2,a3,_,_,_,kv⟩,ne⟩:=id tt
 refine⟨a,_,f.dx,_,_,rfl,o,T.dU,T.sr,rfl,?_⟩
 refine⟨f.d2,rfl,.inr ⟨_,.inl a2⟩,?_⟩
 refine⟨_,.of hq,λp1 H1 g1=>?_⟩
 have h1:=g1.at_
 rw[oz]at h1
 refine⟨_,cK.t (g1.sm _ _ a2) h1,?_⟩
 by_cases c : ∀ e∈es,e.2≠row
 ·rw[kv.b' row c]
  exact kn c H1 g1.sm
 ·obtain⟨e,he⟩:=Classical.not_forall.mp c
  obtain⟨hm,hrow⟩:=Classical.not_imp.mp he
  have hrow:e.2=row:=Classical.not_not.mp hrow
  have vb:=kv.b e hm
  rw[hrow]at vb
  rw[vb]
  exact⟨sz rfl,λp2 H2 g2=>ks e hm hrow p2 H2 (g1.sm.trans g2.sm) g2.at_⟩
theorem MP (T:Txt w K mg t):c7 P w K mg base t.bW "whole" 2 t.qQ t.mC ["self", "row", "page"] [] (zE t) :=
 ⟨T.dU,T.Kh,⟨_,T.Qs,.nil⟩,JJ T⟩
def zS(t:Adr):Sp:=λvs H Q _=>∃ (a:Addr) (f:Ft) (es:List (Int × List Int)) (q:Addr) (row:List Int) (g:Int),vs=[.ref a,.ref q,.int g]/\Tt t H a f es 1000/\H q=some (.lst (row.map V.int)) /\
 (lG es row->∀ p H',af H H'->Q (.ref p) H')/\(¬ lG es row->∀ H',af H H'->Q .non H')
theorem JU (T:Txt w K mg t):bv P w K mg base bC 3 t.qT t.mE ["self", "row", "page"] (zS t):=by
 refine T.Rw.okQ Aj (λvs H Q E h=>by obtain⟨o,f,es,q,row,g,rfl,_⟩:=h; rfl) λcdv A outer s H vs Q E hr h=>?_
 obtain⟨a,f,es,q,row,g,rfl,tt,hq,k,kn⟩:=h
 have hu:=hr.units
 refine⟨_,(ai (aJ (i:=3) Aj.nd rfl (by first | exact Or.inl rfl | exact Or.inr rfl) (AL hu (aq (K:=K) rfl (aa 0)) (dR (w5 (K:=K) rfl) T.n_tuple PyProof.Rows.boot_tuple (ab (aa 1) ad))))
  (ah (al (gn (av iX (aa 3) bY (aD _)) bY (dR (fw (K:=K) rfl) T.n_list PyProof.Rows.boot_list (ab (aa 3) ad)))))),?_⟩
 obtain⟨o,⟨k1,k2,k3,a1,a2,a3,_,_,_,kv⟩,ne⟩:=id tt
 refine⟨a,_,f.dx,_,_,rfl,o,T.dU,T.su,rfl,?_⟩
 refine⟨f.d3,rfl,.inr ⟨_,.inl a3⟩,?_⟩
 refine⟨_,.of hq,λp1 H1 g1=>?_⟩
 have h1:=g1.at_
 rw[oz]at h1
 refine⟨_,cK.t (g1.sm _ _ a3) h1,?_⟩
 by_cases c:lG es row
 ·obtain⟨e,he,m,hm,rfl⟩:=id c
  obtain⟨q',r2,vc,hq',ee⟩:=kv.c e he m hm
  rw[vc]
  exact⟨_,.inr (.of (g1.sm _ _ hq')),λp2 H2 g2=>k c p2 H2 (g1.sm.trans g2.sm)⟩
 ·rw[kv.c' row c]
  exact kn c H1 g1.sm
theorem MQ (T:Txt w K mg t):c7 P w K mg base t.bW "fill" 3 t.qT t.mE ["self", "row", "page"] [] (zS t) :=
 ⟨T.dU,T.Kj,⟨_,T.Qv,.nil⟩,JU T⟩
inductive Kt where
 | ld
 | pr (h:Bool)
 | sh (f:Fp) (ns ms:List Int)
 | tb (f:Ft) (es:List (Int × List Int))
 | br
def TN(t:Adr)(H:Hp)(o:Addr):Kt->Prop
 | .ld=>∃ dx,H o=some (.ins t.dX dx [])
 | .pr h=>Po t H o h
 | .sh f ns ms=>Tg t H o f ns ms
 | .tb f es=>Tt t H o f es 1000/\Es es
 | .br=>∃ dx,H o=some (.ins t.dW dx [])
theorem TN.mono{H H':Hp}{o:Addr}{D:Kt}(h:TN t H o D)(s:af H H'):TN t H' o D:=by
 cases D with
 | ld=>obtain⟨dx,h⟩:=h; exact⟨dx,s _ _ h⟩
 | pr b=>exact Po.mono h s
 | sh f ns ms=>exact Tg.mono h s
 | tb f es=>exact⟨Tt.mono h.1 s,h.2⟩
 | br=>obtain⟨dx,h⟩:=h; exact⟨dx,s _ _ h⟩
def rR:Kt->Int->Int->Option (List Int × Int)
 | .ld,g,n=>some (row n,g)
 | .pr h,g,n=>some (d8 h n,g)
 | .sh _ ns ms,g,n=>dg (am g ns ms) (am g ms ns) g (.int n)
 | .tb _ es,g,n=>(es.find? λe=>decide (e.1=n)).map λe=>(e.2,g)
 | .br,_,_=>none
def dY(D:Kt)(g n:Int):List Int × Int:=(rR D g n).getD ([],g)
def fQ:Kt->Int->Prop
 | .ld,n=>Sg n
 | .pr _,n=>Sg n
 | .sh _ ns ms,n=>n∈ns\/n∈ms
 | .tb _ es,n=>∃ e∈es,e.1=n
 | .br,_=>False
def bE:Kt->Int->Prop
 | .sh _ _ _,g=>cJ g
 | _,g=>g=0
theorem Fb{ns ms:List Int}{g n:Int}(two:cJ g)(h:n∈ns\/n∈ms) : ∃ r g',dg (am g ns ms) (am g ms ns) g (.int n)=some (r,g')/\cJ g'/\r.length<=2:=by
 have hh:n∈am g ns ms\/n∈am g ms ns:=by
  rcases two with rfl | rfl
  ·exact h
  ·exact h.symm
 unfold dg
 dsimp only
 cases e:cu (am g ns ms) n with
 | some i=>exact⟨_,_,rfl,two,by show (1:Nat)<=2; decide⟩
 | none =>
  dsimp only
  have hn:=fJ.mp e
  rcases hh with hh | hh
  ·exact absurd hh hn
  ·obtain⟨i,hi,_⟩:=iV hh
   rw[hi]
   exact⟨_,_,rfl,two.flip,by show (2:Nat)<=2; decide⟩
theorem ly{es:List (Int × List Int)}{n:Int}(h : ∃ e∈es,e.1=n) : ∃ e∈es,e.1=n/\(es.find? λe=>decide (e.1=n))=some e:=by
 cases e:es.find? λe=>decide (e.1=n) with
 | none =>
  obtain⟨f,hf,rfl⟩:=h
  have:=List.find?_eq_none.mp e f hf
  simp at this
 | some f =>
  exact⟨f,List.mem_of_find?_eq_some e,by simpa using List.find?_some e,rfl⟩
def rn:Kt->Prop
 | .tb _ es=>Es es
 | _=>True
theorem TN.ok{H:Hp}{o:Addr}{D:Kt}(h:TN t H o D):rn D:=by
 cases D with
 | tb f es=>exact h.2
 | _=>exact trivial
theorem rQ{D:Kt}{g n:Int}(tn:rn D)(hg:bE D g)(hn:fQ D n) : ∃ r g',rR D g n=some (r,g')/\dY D g n=(r,g')/\bE D g'/\r.length<=6:=by
 have key : ∃ r g',rR D g n=some (r,g')/\bE D g'/\r.length<=6:=by
  cases D with
  | ld=>exact⟨_,_,rfl,hg,Nat.le_trans (Av n).2 (by decide)⟩
  | pr b=>exact⟨_,_,rfl,hg,Nat.le_trans (IF b n) (by decide)⟩
  | sh f ns ms =>
   obtain⟨r,g',e,two,l⟩:=Fb hg hn
   exact⟨r,g',e,two,by omega⟩
  | tb f es =>
   obtain⟨e,he,_,ef⟩:=ly hn
   exact⟨e.2,g,by show Option.map _ _=_; rw[ef]; rfl,hg,(Es.sg tn e he).2.2.1⟩
  | br=>exact hn.elim
 obtain⟨r,g',e,a,b⟩:=key
 exact⟨r,g',e,by unfold dY; rw[e]; rfl,a,b⟩
theorem Ey{rr:List Int}(h:ir rr)(b : ∀ x∈rr,0<=x):Sg (fL rr)/\row (fL rr)=rr:=by
 cases rr with
 | nil=>exact h.elim
 | cons f r =>
  have f0:=b f (List.mem_cons_self ..)
  obtain⟨⟨_,ft⟩,hl⟩:=h
  obtain⟨f1,f2⟩:=(CH f r).mp ft
  match r,hl,f1,f2 with
  | [],hl,_,_ =>
   have hf:f < 128:=by
    have hl:((0:Nat):Int)+1=lb f:=hl
    unfold lb at hl
    by_cases c:f < 128
    ·exact c
    ·rw[if_neg c]at hl; (repeat' split at hl) <;> omega
   show Sg f/\row f=[f]
   refine⟨by unfold Sg; omega,?_⟩
   unfold row; rw[if_pos hf]
  | [x],hl,f1,f2 =>
   have hl:((1:Nat):Int)+1=lb f:=hl
   have hx:=f1 x (by simp)
   have e:fL [f,x]=(f - 192)*64+(x - 128):=by simp[fL,ig,cb]
   have hf:194<=f/\f < 224:=by
    unfold lb at hl
    (repeat' split at hl) <;> omega
   rw[e]
   refine⟨by unfold Sg; omega,?_⟩
   unfold row
   rw[if_neg (by omega),if_pos (by omega)]
   congr 1
   ·omega
   ·congr 1; omega
  | [x,y],hl,f1,f2 =>
   have hl:((2:Nat):Int)+1=lb f:=hl
   have hx:=f1 x (by simp)
   have hy:=f1 y (by simp)
   have h2:=f2 x rfl
   have e:fL [f,x,y]=(f - 224)*4096+(x - 128)*64+(y - 128):=by simp[fL,ig,cb]; omega
   have hf:224<=f/\f < 240:=by
    unfold lb at hl
    (repeat' split at hl) <;> omega
   have z:(f=224->160<=x)/\(f=237->x<=159)/\(f=238->x<=187):=by
    unfold kY ij at h2
    refine⟨λc=>?_,λc=>?_,λc=>?_⟩ <;> subst c <;> simp at h2 <;> omega
   rw[e]
   refine⟨by unfold Sg; omega,?_⟩
   unfold row
   rw[if_neg (by omega),if_neg (by omega),if_pos (by omega)]
   congr 1
   ·omega
   ·congr 1
    ·omega
    ·congr 1; omega
  | [x,y,v],hl,f1,f2 =>
   have hl:((3:Nat):Int)+1=lb f:=hl
   have hx:=f1 x (by simp)
   have hy:=f1 y (by simp)
   have hv:=f1 v (by simp)
   have h2:=f2 x rfl
   have e:fL [f,x,y,v]=(f - 240)*262144+(x - 128)*4096+(y - 128)*64+(v - 128):=by simp[fL,ig,cb]; omega
   have hf:240<=f/\f<=244:=by
    unfold lb at hl
    (repeat' split at hl) <;> omega
   have z:(f=240->144<=x)/\(f=244->x<=143):=by
    unfold kY ij at h2
    refine⟨λc=>?_,λc=>?_⟩ <;> subst c <;> simp at h2 <;> omega
   rw[e]
   refine⟨by unfold Sg; omega,?_⟩
   unfold row
   rw[if_neg (by omega),if_neg (by omega),if_neg (by omega)]
   congr 1
   ·omega
   ·congr 1
    ·omega
    ·congr 1
     ·omega
     ·congr 1; omega
  | _ :: _ :: _ :: _ :: r,hl,_,_ =>
   exfalso
   have:=(oy f).2
   simp at hl
   omega
theorem EA(h:Bool){r:List Int}{n:Int}(hb:bq r)(e:fE h r=some n):Sg n/\d8 h n=r:=by
 unfold fE at e
 by_cases c:r.length=2\/r.length=4
 ·rw[if_pos c]at e
  rcases c with c | c
  ·match r,c with
   | [x,y],_ =>
    have hx:=hb x (by simp)
    have hy:=hb y (by simp)
    have e:h8 [u2 h x y]=some n:=e
    have e:(if c6 (.int (u2 h x y))=true then some (u2 h x y) else none)=some n:=e
    by_cases d:c6 (.int (u2 h x y))=true
    ·rw[if_pos d]at e
     cases e
     refine⟨(gL _).mp d,?_⟩
     unfold d8 cf u2
     cases h
     ·simp[ub]; rw[if_pos (by omega)]; simp[ub]; omega
     ·simp[ub]; rw[if_pos (by omega)]; simp[ub]; omega
    ·rw[if_neg d]at e; cases e
  ·match r,c with
   | [x,y,z,v],_ =>
    have hx:=hb x (by simp)
    have hy:=hb y (by simp)
    have hz:=hb z (by simp)
    have hv:=hb v (by simp)
    have e:h8 [u2 h x y,u2 h z v]=some n:=e
    unfold h8 at e
    simp only at e
    split at e
    ·cases e
     rename_i d
     cases h
     ·simp[u2]at d ⊢
      refine⟨by unfold Sg; omega,?_⟩
      unfold d8 cf
      rw[if_neg (by omega)]
      simp[ub]; omega
     ·simp[u2]at d ⊢
      refine⟨by unfold Sg; omega,?_⟩
      unfold d8 cf
      rw[if_neg (by omega)]
      simp[ub]; omega
    ·cases e
 ·rw[if_neg c]at e; cases e
theorem zD{ns ms:List Int}{g n:Int}(two:cJ g)(h:n∈ns\/n∈ms) : ∃ r g',dg (am g ns ms) (am g ms ns) g (.int n)=some (r,g')/\cJ g'/\((∃ b:Int,r=[b]/\0<=b/\(am g ns ms)[b.toNat]? = some n/\g'=g)\/(∃ c:Int,r=[254+(1 - g),c]/\0<=c/\(am g ms ns)[c.toNat]? = some n/\n∉am g ns ms/\g'=1 - g)):=by
 have hh:n∈am g ns ms\/n∈am g ms ns:=by
  rcases two with rfl | rfl
  ·exact h
  ·exact h.symm
 unfold dg
 dsimp only
 cases e:cu (am g ns ms) n with
 | some i=>exact⟨_,_,rfl,two,.inl ⟨(i:Int),rfl,by omega,by simpa using (ii e).1,rfl⟩⟩
 | none =>
  dsimp only
  have hn:=fJ.mp e
  rcases hh with hh | hh
  ·exact absurd hh hn
  ·obtain⟨i,hi,_⟩:=iV hh
   rw[hi]
   exact⟨_,_,rfl,two.flip,.inr ⟨(i:Int),rfl,by omega,by simpa using (ii hi).1,hn,rfl⟩⟩
theorem zB{f:Fp}{ns ms:List Int}{g n:Int}{r:List Int}{g':Int}(e:dg (am g ns ms) (am g ms ns) g (.int n)=some (r,g')):dY (.sh f ns ms) g n=(r,g'):=by
 show (dg (am g ns ms) (am g ms ns) g (.int n)).getD ([],g)=_
 rw[e]; rfl
theorem n6:PyData.strOk "sign" = true:=by decide +kernel
theorem ie:PyData.strOk "more" = true:=by decide +kernel
theorem ic:PyData.strOk "none" = true:=by decide +kernel
theorem aA{x:Str}(h:PyData.strOk x=true):SeqAt.shaped (.str x)=true:=by
 simpa [SeqAt.shaped,PyData.canLay0,PyData.depth] using h
def rV:Sp:=λ_ _ _ _=>False
def zM:Sp:=λvs H Q _=>∃ a b c:V,vs=[a,b,c]/\Q .non H
theorem MN (T:Txt w K mg t):c7 P w K mg base t.dW "whole" 1 t.yf t.ph ["self", "row", "page"] [] zM :=
 ⟨T.mU,T.Kb,⟨_,T.Qp,.nil⟩,T.Ro.okQ GT (λvs H Q E h=>by obtain⟨a,b,c,rfl,_⟩:=h; rfl) λcdv A outer s H vs Q E hr h=>by
  obtain⟨a,b,c,rfl,k⟩:=h
  exact⟨_,(ah (al bY)),k⟩⟩
theorem MO (T:Txt w K mg t):c7 P w K mg base t.dW "fill" 1 t.yh t.pA ["self", "row", "page"] [] zM :=
 ⟨T.mU,T.Kg,⟨_,T.Qr,.nil⟩,T.Rs.okQ GW (λvs H Q E h=>by obtain⟨a,b,c,rfl,_⟩:=h; rfl) λcdv A outer s H vs Q E hr h=>by
  obtain⟨a,b,c,rfl,k⟩:=h
  exact⟨_,(ah (al bY)),k⟩⟩
inductive Lk where
 | sg (n g:Int)
 | mo
 | no
def mj(g:Int):Lk->List V
 | .sg n g'=>[.str "sign",.int n,.int g']
 | .mo=>[.str "more",.non,.int g]
 | .no=>[.str "none",.non,.int g]
open Classical in
noncomputable def bV:Kt->Int->List Int->Lk
 | .ld,g,r=>if ir r then .sg (fL r) g else if yT r then .mo else .no
 | .pr h,g,r=>match fE h r with
  | some n=>.sg n g
  | none=>if lA h r=none then .no else .mo
 | .sh _ ns ms,g,r=>match dO (am g ns ms) (am g ms ns) g r with
  | some (n,g')=>.sg n g'
  | none=>if f9 (am g ns ms) (am g ms ns) g r=true then .mo else .no
 | .tb _ es,g,r=>match es.find? λe=>decide (e.2=r) with
  | some e=>.sg e.1 g
  | none=>if lG es r then .mo else .no
 | .br,_,_=>.no
def Dm:Kt->Int->List Int->Prop
 | .ld,_,r=>bq r/\r.length<=9
 | .pr _,_,r=>bq r/\r.length<=9
 | .sh _ _ _,g,r=>rj g r
 | .tb _ _,_,r=>bq r
 | .br,_,_=>True
def jj(t:Adr):Sp:=λvs H Q _=>∃ (o q:Addr) (D:Kt) (g:Int) (r:List Int),vs=[.ref o,.ref q,.int g]/\TN t H o D/\bE D g/\H q=some (.lst (r.map V.int))/\Dm D g r/\∀ p H',af H H'->H' p=some (.tup (mj g (bV D g r)))->Q (.ref p) H'
theorem ma (T:Txt w K mg t):bv P w K mg base bC 7 t.fO t.gZ ["self", "begun", "page"] (jj t):=by
 refine T.Rr.okQ Ag (λvs H Q E h=>by obtain⟨o,q,D,g,r,rfl,_⟩:=h; rfl) λcdv A outer s H vs Q E hr h=>?_
 obtain⟨o,q,D,g,r,rfl,tn,pg,hq,dm,k⟩:=h
 have hu:=hr.units
 refine⟨_,(ai (aJ (i:=3) Ag.nd rfl (by first | exact Or.inl rfl | exact Or.inr rfl) (bf (bO (MN T) hr (aa 0) (ab (aa 1) (ab (aa 2) ad))) (bf (bO (MW T) hr (aa 0) (ab (aa 1) (ab (aa 2) ad))) (bf (bO (B7 T) hr (aa 0) (ab (aa 1) (ab (aa 2) ad))) (bf (bO (B0 T) hr (aa 0) (ab (aa 1) (ab (aa 2) ad))) (bO (MP T) hr (aa 0) (ab (aa 1) (ab (aa 2) ad))))))))
  (ai (aF (av oS (aa 3) bY (aD _)) (ah (al (bK (ab bX (ab (aL (aM (K:=K) rfl) (aa 3) aj (λ_ _=>rfl)) (ab (aL (aM (K:=K) rfl) (aa 3) aj (λ_ _=>rfl)) ad)))))) aG)
  (ai (aF (av iX (bf (bO (MO T) hr (aa 0) (ab (aa 1) (ab (aa 2) ad))) (bf (bO (MX T) hr (aa 0) (ab (aa 1) (ab (aa 2) ad))) (bf (bO (MV T) hr (aa 0) (ab (aa 1) (ab (aa 2) ad))) (bf (bO (MS T) hr (aa 0) (ab (aa 1) (ab (aa 2) ad))) (bO (MQ T) hr (aa 0) (ab (aa 1) (ab (aa 2) ad))))))) bY (aD _)) (ah (al (bK (ab bX (ab bY (ab (aa 2) ad)))))) aG)
  (ah (al (bK (ab bX (ab bY (ab (aa 2) ad))))))))),?_⟩
 cases D with
 | br =>
  obtain⟨dx,ho⟩:=id tn
  refine .inl ⟨o,dx,_,rfl,ho,rfl,_,_,_,rfl,?_⟩
  refine .inl ⟨o,dx,_,rfl,ho,rfl,_,_,_,rfl,?_⟩
  exact⟨sz rfl,λp2 H2 g2=>k p2 H2 g2.sm g2.at_⟩
 | ld =>
  obtain rfl:g=0:=pg
  obtain⟨dx,ho⟩:=id tn
  have tl:r.length<=1000:=by have:=dm.2; omega
  dsimp only [bV]at k
  refine .inr (.inl ⟨o,dx,_,rfl,ho,rfl,?_⟩)
  refine⟨o,q,_,rfl,.of hq,tl,λwh p H1 g1=>?_,λnw H1 s1=>?_⟩
  ·rw[if_pos wh]at k
   refine⟨_,_,.inr g1.tup,aV (j:=0) rfl,?_⟩
   refine⟨_,_,.inr g1.tup,aV (j:=1) rfl,?_⟩
   exact⟨sz rfl,λp2 H2 g2=>k p2 H2 (g1.sm.trans g2.sm) g2.at_⟩
  ·rw[if_neg nw]at k
   refine .inr (.inl ⟨o,dx,_,rfl,s1 _ _ ho,rfl,?_⟩)
   refine⟨o,q,_,rfl,.of (s1 _ _ hq),tl,λbg p2 H2 g2=>?_,λnb H2 s2=>?_⟩
   ·rw[if_pos bg]at k
    exact⟨sz rfl,λp3 H3 g3=>k p3 H3 (s1.trans (g2.sm.trans g3.sm)) g3.at_⟩
   ·rw[if_neg nb]at k
    exact⟨sz rfl,λp3 H3 g3=>k p3 H3 (s1.trans (s2.trans g3.sm)) g3.at_⟩
 | pr h =>
  obtain rfl:g=0:=pg
  have po:Po t H o h:=tn
  obtain⟨dx,ho⟩:=id po
  have l9:=dm.2
  dsimp only [bV]at k
  refine .inr (.inr (.inl ⟨o,dx,_,rfl,ho,rfl,?_⟩))
  refine⟨o,q,h,_,rfl,po,.of hq,dm.1,by omega,λn' en p H1 g1=>?_,λen H1 s1=>?_⟩
  ·rw[en]at k
   refine⟨_,_,.inr g1.tup,aV (j:=0) rfl,?_⟩
   refine⟨_,_,.inr g1.tup,aV (j:=1) rfl,?_⟩
   exact⟨sz rfl,λp2 H2 g2=>k p2 H2 (g1.sm.trans g2.sm) g2.at_⟩
  ·rw[en]at k
   dsimp only at k
   refine .inr (.inr (.inl ⟨o,dx,_,rfl,s1 _ _ ho,rfl,?_⟩))
   refine⟨o,q,h,_,rfl,po.mono s1,.of (s1 _ _ hq),dm.1,by omega,λf ef p2 H2 g2=>?_,λef H2 s2=>?_⟩
   ·rw[if_neg (by rw[ef]; intro z; cases z)]at k
    exact⟨sz rfl,λp3 H3 g3=>k p3 H3 (s1.trans (g2.sm.trans g3.sm)) g3.at_⟩
   ·rw[if_pos ef]at k
    exact⟨sz rfl,λp3 H3 g3=>k p3 H3 (s1.trans (s2.trans g3.sm)) g3.at_⟩
 | sh f ns ms =>
  have two:cJ g:=pg
  have tg:Tg t H o f ns ms:=tn
  dsimp only [bV]at k
  refine .inr (.inr (.inr (.inl ⟨o,f.dx,_,rfl,tg.o,rfl,?_⟩)))
  refine⟨o,f,ns,ms,q,_,g,rfl,two,tg,hq,dm,λhw=>?_,λn g' hw p H1 g1=>?_⟩
  ·rw[hw]at k
   dsimp only at k
   refine .inr (.inr (.inr (.inl ⟨o,f.dx,_,rfl,tg.o,rfl,?_⟩)))
   refine⟨o,f,ns,ms,q,_,g,rfl,two,tg,hq,dm,λhf H1 s1=>?_,λhf p1 r2 H1 s1 _ _=>?_⟩
   ·rw[if_neg (by rw[hf]; decide)]at k
    exact⟨sz rfl,λp2 H2 g2=>k p2 H2 (s1.trans g2.sm) g2.at_⟩
   ·rw[if_pos hf]at k
    exact⟨sz rfl,λp2 H2 g2=>k p2 H2 (s1.trans g2.sm) g2.at_⟩
  ·rw[hw]at k
   refine⟨_,_,.inr g1.tup,aV (j:=0) rfl,?_⟩
   refine⟨_,_,.inr g1.tup,aV (j:=1) rfl,?_⟩
   exact⟨sz rfl,λp2 H2 g2=>k p2 H2 (g1.sm.trans g2.sm) g2.at_⟩
 | tb f es =>
  obtain rfl:g=0:=pg
  obtain⟨tt,ok⟩:=id tn
  dsimp only [bV]at k
  refine .inr (.inr (.inr (.inr ⟨o,f.dx,_,rfl,tt.o,rfl,?_⟩)))
  refine⟨o,f,es,q,_,0,rfl,tt,ok,hq,λhnn H1 s1=>?_,λe he hrow p H1 s1 hp=>?_⟩
  ·rw[show (es.find? λe=>decide (e.2=r))=none from List.find?_eq_none.mpr λe he=>by simpa using hnn e he]at k
   dsimp only at k
   refine .inr (.inr (.inr (.inr ⟨o,f.dx,_,rfl,(tt.mono s1).o,rfl,?_⟩)))
   refine⟨o,f,es,q,_,0,rfl,tt.mono s1,s1 _ _ hq,λrt p2 H2 s2=>?_,λnrt H2 s2=>?_⟩
   ·rw[if_pos rt]at k
    exact⟨sz rfl,λp3 H3 g3=>k p3 H3 (s1.trans (s2.trans g3.sm)) g3.at_⟩
   ·rw[if_neg nrt]at k
    exact⟨sz rfl,λp3 H3 g3=>k p3 H3 (s1.trans (s2.trans g3.sm)) g3.at_⟩
  ·have ef:(es.find? λe=>decide (e.2=r))=some e:=by
    cases ef:es.find? λe=>decide (e.2=r) with
    | none=>exact absurd (decide_eq_true hrow) (List.find?_eq_none.mp ef e he)
    | some e' =>
     have h':e'.2=r:=by simpa using List.find?_some ef
     rcases ok.two (List.mem_of_find?_eq_some ef) he with z | z
     ·rw[z]
     ·unfold fo cQ at z
      rw[h',hrow]at z
      simp at z
   rw[ef]at k
   refine⟨_,_,.inr (.of hp),aV (j:=0) rfl,?_⟩
   refine⟨_,_,.inr (.of hp),aV (j:=1) rfl,?_⟩
   exact⟨sz rfl,λp3 H3 g3=>k p3 H3 (s1.trans g3.sm) g3.at_⟩
theorem BX (T:Txt w K mg t):c7 P w K mg base t.dW "look" 7 t.fO t.gZ ["self", "begun", "page"] [] (jj t):=⟨T.mU,T.Kf,⟨_,T.mX,.nil⟩,ma T⟩
theorem Cd (T:Txt w K mg t):c7 P w K mg base t.dX "look" 7 t.fO t.gZ ["self", "begun", "page"] [] (jj t):=⟨T.mW,T.mt_LeadTongue_look,⟨_,T.mX,.nil⟩,ma T⟩
theorem Ca (T:Txt w K mg t):c7 P w K mg base t.cw "look" 7 t.fO t.gZ ["self", "begun", "page"] [] (jj t):=⟨T.gb,T.mt_PairTongue_look,⟨_,T.mX,.nil⟩,ma T⟩
theorem B4 (T:Txt w K mg t):c7 P w K mg base t.bL "look" 7 t.fO t.gZ ["self", "begun", "page"] [] (jj t):=⟨T.cX,T.mt_ShiftTongue_look,⟨_,T.mX,.nil⟩,ma T⟩
theorem BZ (T:Txt w K mg t):c7 P w K mg base t.bW "look" 7 t.fO t.gZ ["self", "begun", "page"] [] (jj t):=⟨T.dU,T.mt_TableTongue_look,⟨_,T.mX,.nil⟩,ma T⟩
def ji(u:Int):Sp:=λvs H Q _=>∃ o:V,vs=[o]/\Q (.int u) H
theorem n5 (T:Txt w K mg t):bv P w K mg base bC 1 t.gA t.i4 ["self"] (ji 1):=by
 refine T.Rp.okQ GU (λvs H Q E h=>by obtain⟨o,rfl,_⟩:=h; rfl) λcdv A outer s H vs Q E hr h=>?_
 obtain⟨o,rfl,k⟩:=h
 exact⟨_,(ah (al aj)),k⟩
theorem oF (T:Txt w K mg t):bT P w K mg base t.dW "unit" 1 t.gA t.i4 ["self"] (ji 1):=⟨T.mU,T.Kc,T.qO,n5 T⟩
theorem oK (T:Txt w K mg t):bT P w K mg base t.dX "unit" 1 t.gA t.i4 ["self"] (ji 1):=⟨T.mW,T.mt_LeadTongue_unit,T.qO,n5 T⟩
theorem oH (T:Txt w K mg t):bT P w K mg base t.bL "unit" 1 t.gA t.i4 ["self"] (ji 1):=⟨T.cX,T.mt_ShiftTongue_unit,T.qO,n5 T⟩
theorem oG (T:Txt w K mg t):bT P w K mg base t.bW "unit" 1 t.gA t.i4 ["self"] (ji 1):=⟨T.dU,T.mt_TableTongue_unit,T.qO,n5 T⟩
theorem oJ (T:Txt w K mg t):bT P w K mg base t.cw "unit" 1 t.yA t.uP ["self"] (ji 2):=by
 refine⟨T.gb,T.Kx,T.QY,T.RS.okQ Hd (λvs H Q E h=>by obtain⟨o,rfl,_⟩:=h; rfl) λcdv A outer s H vs Q E hr h=>?_⟩
 obtain⟨o,rfl,k⟩:=h
 exact⟨_,(ah (al aj)),k⟩
def dq:Kt->Prop
 | .sh _ ns ms=>cE ns/\cE ms
 | .tb _ es=>Es es
 | _=>True
theorem TN.koS{H:Hp}{o:Addr}{D:Kt}(h:TN t H o D):dq D:=by
 cases D with
 | sh f ns ms=>exact⟨Tg.k0 h,Tg.k1 h⟩
 | tb f es=>exact h.2
 | _=>exact trivial
theorem dq.kok{D:Kt}(h:dq D):rn D:=by
 cases D with
 | tb f es=>exact h
 | _=>exact trivial
theorem sL{D:Kt}{n:Int}(ok:dq D)(h:fQ D n):Sg n:=by
 cases D with
 | ld=>exact h
 | pr b=>exact h
 | sh f ns ms=>exact h.elim (ok.1.1 n) (ok.2.1 n)
 | tb f es =>
  obtain⟨e,he,rfl⟩:=h
  exact (Es.sg ok e he).1
 | br=>exact h.elim
theorem Bz{P:List Int}{n:Int}{i:Nat}(nd:P.Nodup)(h:P[i]? = some n):cu P n=some i:=by
 obtain⟨j,hj,_⟩:=iV (List.mem_of_getElem? h)
 obtain⟨e1,e2⟩:=ii hj
 rcases Nat.lt_trichotomy i j with c | c | c
 ·exact absurd h (e2 i c)
 ·rw[c]; exact hj
 ·obtain⟨a1,a2⟩:=List.getElem?_eq_some_iff.mp e1
  obtain⟨b1,b2⟩:=List.getElem?_eq_some_iff.mp h
  exact absurd (a2.trans b2.symm) (List.pairwise_iff_getElem.mp nd j i a1 b1 c)
theorem Lh{D:Kt}{g n g':Int}{r:List Int}(ok:dq D)(pg:bE D g)(dm:Dm D g r)(h:bV D g r=.sg n g'):fQ D n/\dY D g n=(r,g')/\bE D g':=by
 cases D with
 | br=>cases h
 | ld =>
  dsimp only [bV]at h
  by_cases c:ir r
  ·rw[if_pos c]at h
   cases h
   obtain⟨a,b⟩:=Ey c λx hx=>(dm.1 x hx).1
   refine⟨a,?_,pg⟩
   show (row (fL r),g)=_
   rw[b]
  ·rw[if_neg c]at h
   split at h <;> cases h
 | pr b =>
  dsimp only [bV]at h
  cases e:fE b r with
  | some m =>
   rw[e]at h
   cases h
   obtain⟨a,e2⟩:=EA b dm.1 e
   refine⟨a,?_,pg⟩
   show (d8 b n,g)=_
   rw[e2]
  | none =>
   rw[e]at h
   dsimp only at h
   split at h <;> cases h
 | sh f ns ms =>
  dsimp only [bV]at h
  have two:cJ g:=pg
  obtain⟨okP,okO⟩:=ok
  have oP:=nJ (g:=g) okP okO
  have oO:=nJ (g:=g) okO okP
  cases e:dO (am g ns ms) (am g ms ns) g r with
  | none =>
   rw[e]at h
   dsimp only at h
   split at h <;> cases h
  | some z =>
   rw[e]at h
   obtain⟨m,gg⟩:=z
   cases h
   have inn : ∀ {x:Int},x∈am g ns ms\/x∈am g ms ns->x∈ns\/x∈ms:=λ{x} hx=>by
    rcases two with rfl | rfl
    ·exact hx
    ·exact hx.symm
   rcases dm with ⟨b,rfl,b0⟩ | ⟨c,rfl,c0⟩
   ·have e:((am g ns ms)[b.toNat]?.map λn=>(n,g))=some (n,g'):=e
    obtain⟨m,hm,e2⟩:=Option.map_eq_some_iff.mp e
    cases e2
    refine⟨inn (.inl (List.mem_of_getElem? hm)),?_,pg⟩
    show (dg (am g ns ms) (am g ms ns) g (.int n)).getD _=_
    unfold dg
    dsimp only
    rw[Bz oP.2.1 hm]
    show (([(b.toNat:Int)],g):List Int × Int)=_
    rw[Int.toNat_of_nonneg b0]
   ·have e:(match (am g ms ns)[c.toNat]? with | some n=>if n∈am g ns ms then none else some (n,1 - g) | none=>none)=some (n,g'):=e
    cases hm:(am g ms ns)[c.toNat]? with
    | none=>rw[hm]at e; cases e
    | some m =>
     rw[hm]at e
     dsimp only at e
     by_cases hp:m∈am g ns ms
     ·rw[if_pos hp]at e; cases e
     ·rw[if_neg hp]at e
      cases e
      refine⟨inn (.inr (List.mem_of_getElem? hm)),?_,two.flip⟩
      show (dg (am g ns ms) (am g ms ns) g (.int n)).getD _=_
      unfold dg
      dsimp only
      rw[fJ.mpr hp]
      dsimp only
      rw[Bz oO.2.1 hm]
      show (([254+(1 - g),(c.toNat:Int)],1 - g):List Int × Int)=_
      rw[Int.toNat_of_nonneg c0]
 | tb f es =>
  dsimp only [bV]at h
  cases e:es.find? λe=>decide (e.2=r) with
  | none =>
   rw[e]at h
   dsimp only at h
   split at h <;> cases h
  | some x =>
   rw[e]at h
   cases h
   have hx:=List.mem_of_find?_eq_some e
   have hr:x.2=r:=by simpa using List.find?_some e
   refine⟨⟨x,hx,rfl⟩,?_,pg⟩
   obtain⟨y,hy,ey,ef⟩:=ly (es:=es) (n:=x.1) ⟨x,hx,rfl⟩
   have yx:y=x:=by
    rcases Es.two ok hy hx with z | z
    ·exact z
    ·unfold fo at z
     rw[decide_eq_true ey]at z
     cases z
   show (Option.map _ _).getD _=_
   rw[ef,yx,<- hr]
   rfl
def cS:Kt->Int->List Int->Prop
 | .ld,_,r=>bq r/\r.length<=4
 | .pr _,_,r=>bq r/\r.length<=3
 | .sh _ _ _,g,r=>r=[]\/r=[254+(1 - g)]
 | .tb _ _,_,r=>bq r/\r.length<=6
 | .br,_,r=>r=[]
def aK:Kt->Nat
 | .pr _=>2
 | _=>1
theorem cS.nil(D:Kt)(g:Int):cS D g []:=by
 cases D with
 | ld=>exact⟨(λ_ h=>nomatch h),Nat.zero_le _⟩
 | pr b=>exact⟨(λ_ h=>nomatch h),Nat.zero_le _⟩
 | sh f ns ms=>exact .inl rfl
 | tb f es=>exact⟨(λ_ h=>nomatch h),Nat.zero_le _⟩
 | br=>rfl
theorem cS.byts{D:Kt}{g:Int}{r:List Int}(pg:bE D g)(h:cS D g r):bq r/\r.length<=6:=by
 cases D with
 | ld=>exact⟨h.1,by have:=h.2; omega⟩
 | pr b=>exact⟨h.1,by have:=h.2; omega⟩
 | sh f ns ms =>
  have two:cJ g:=pg
  rcases h with rfl | rfl
  ·exact⟨(λ_ h=>nomatch h),Nat.zero_le _⟩
  ·refine⟨λx hx=>?_,by show 1<=6; decide⟩
   rw[List.mem_singleton.mp hx]
   rcases two with rfl | rfl <;> decide
 | tb f es=>exact h
 | br =>
  obtain rfl:r=[]:=h
  exact⟨(λ_ h=>nomatch h),Nat.zero_le _⟩
theorem hJ{r:List Int}{b:Int}(h:bq r)(b0:0<=b)(b1:b<=255):bq (r++[b]):=λx hx=>by
 rcases List.mem_append.mp hx with z | z
 ·exact h x z
 ·rw[List.mem_singleton.mp z]; exact⟨b0,b1⟩
theorem uT{D:Kt}{g:Int}{r:List Int}{b:Int}(h:cS D g r)(b0:0<=b)(b1:b<=255):Dm D g (r++[b]):=by
 cases D with
 | ld=>exact⟨hJ h.1 b0 b1,by have:=h.2; rw[List.length_append]; show _+1<=_; omega⟩
 | pr c=>exact⟨hJ h.1 b0 b1,by have:=h.2; rw[List.length_append]; show _+1<=_; omega⟩
 | sh f ns ms =>
  rcases h with rfl | rfl
  ·exact .inl ⟨b,rfl,b0⟩
  ·exact .inr ⟨b,rfl,b0⟩
 | tb f es=>exact hJ h.1 b0 b1
 | br=>exact trivial
theorem uU{D:Kt}{g:Int}{r:List Int}{b:Int}(h:cS D g r)(b0:0<=b)(b1:b<=255):Dm D g ((r++[b]).drop ((r++[b]).length - aK D)):=by
 have one:(r++[b]).drop ((r++[b]).length - 1)=[b]:=by rw[List.length_append]; simp
 have bb:bq [b]:=λx hx=>by rw[List.mem_singleton.mp hx]; exact⟨b0,b1⟩
 cases D with
 | ld=>show bq _/\_; rw[show aK .ld=1 from rfl,one]; exact⟨bb,by show 1<=9; decide⟩
 | pr c=>exact⟨λx hx=>hJ h.1 b0 b1 x (List.mem_of_mem_drop hx),by have:=h.2; rw[List.length_drop,List.length_append]; show _+1 - _<=_; omega⟩
 | sh f ns ms=>show rj _ _; rw[show aK (.sh f ns ms)=1 from rfl,one]; exact .inl ⟨b,rfl,b0⟩
 | tb f es=>show bq _; rw[show aK (.tb f es)=1 from rfl,one]; exact bb
 | br=>exact trivial
theorem On(h:Bool){r:List Int}(l:r.length=4)(e:fE h r=none):lA h r=none:=by
 unfold lA
 refine List.find?_eq_none.mpr λf hf=>?_
 rw[Bool.not_eq_true,Option.isSome_eq_false_iff,Option.isNone_iff_eq_none]
 by_cases c:f=[]
 ·rw[c,List.append_nil]; exact e
 ·unfold fE
  have:1<=f.length:=List.length_pos_iff.mpr c
  rw[if_neg (by rw[List.length_append,l]; omega)]
theorem Be{D:Kt}{g:Int}{r:List Int}(ok:dq D)(dm:Dm D g r)(ev:r.length%aK D=0)(l5:r.length<=4\/∀ h,D ≠ .pr h)(h:bV D g r=.mo):cS D g r:=by
 cases D with
 | br=>cases h
 | ld =>
  dsimp only [bV]at h
  refine⟨dm.1,?_⟩
  split at h
  ·cases h
  split at h
  ·rename_i bg
   cases r with
   | nil=>exact Nat.zero_le _
   | cons f r =>
    have bg:lM f r:=bg
    have:=bg.1
    have:=(oy f).2
    rw[List.length_cons]
    omega
  ·cases h
 | pr b =>
  dsimp only [bV]at h
  refine⟨dm.1,?_⟩
  have ev:r.length%2=0:=ev
  cases e:fE b r with
  | some m=>rw[e]at h; cases h
  | none =>
   rw[e]at h
   dsimp only at h
   rcases l5 with l5 | l5
   ·by_cases c:r.length=4
    ·rw[if_pos (On b c e)]at h; cases h
    ·omega
   ·exact absurd rfl (l5 b)
 | sh f ns ms =>
  dsimp only [bV]at h
  rcases dm with ⟨b,rfl,b0⟩ | ⟨c,rfl,c0⟩
  ·have lk:=Le (P:=am g ns ms) (O:=am g ms ns) (g:=g) b0
   unfold iT at lk
   cases e:dO (am g ns ms) (am g ms ns) g [b] with
   | some z=>rw[e]at h; cases h
   | none =>
    rw[e]at h lk
    dsimp only at h lk
    by_cases c:f9 (am g ns ms) (am g ms ns) g [b]=true
    ·rw[if_pos c]at lk
     cases e2:(am g ns ms)[b.toNat]? with
     | some n=>rw[e2]at lk; cases lk
     | none =>
      rw[e2]at lk
      dsimp only at lk
      by_cases c2:b=254+(1 - g)/\gz (am g ms ns) (am g ns ms)≠[]
      ·exact .inr (by rw[c2.1])
      ·rw[if_neg c2]at lk; cases lk
    ·rw[if_neg c]at h; cases h
  ·have lk:=Ld (P:=am g ns ms) (O:=am g ms ns) (g:=g) c0
   unfold iT at lk
   cases e:dO (am g ns ms) (am g ms ns) g [254+(1 - g),c] with
   | some z=>rw[e]at h; cases h
   | none =>
    rw[e]at h lk
    dsimp only at h lk
    by_cases d:f9 (am g ns ms) (am g ms ns) g [254+(1 - g),c]=true
    ·rw[if_pos d]at lk
     split at lk <;> cases lk
    ·rw[if_neg d]at h; cases h
 | tb f es =>
  dsimp only [bV]at h
  refine⟨dm,?_⟩
  split at h
  ·cases h
  split at h
  ·rename_i rt
   obtain⟨e,he,m,hm,rfl⟩:=rt
   have:=(Es.sg ok e he).2.2.1
   rw[List.length_take]
   omega
  ·cases h
inductive Ev where
 | sg (n:Int)
 | ft (p l:Nat) (k:Str) (bs:List Int)
inductive Wy where
 | lv
 | pt (n:Int)
 | se
def eG:Wy->List Int->List Int
 | .lv,_=>[]
 | .pt n,_=>[n]
 | .se,bs=>bs.map λb=>61184+b
def gK(W:Wy):Ev->List Int
 | .sg n=>[n]
 | .ft _ _ _ bs=>eG W bs
def aU(W:Wy)(es:List Ev):List Int:=es.flatMap (gK W)
def fts:List Ev->List (Nat × Nat × Str)
 | []=>[]
 | .sg _ :: es=>fts es
 | .ft p l k _ :: es=>(p,l,k) :: fts es
theorem gY : ∀ xs ys:List Ev,fts (xs++ys)=fts xs++fts ys
 | [],_=>rfl
 | .sg n :: xs,ys=>gY xs ys
 | .ft p l k bs :: xs,ys=>by show (p,l,k) :: fts (xs++ys)=_; rw[gY xs ys]; rfl
theorem gJ(W:Wy)(xs ys:List Ev):aU W (xs++ys)=aU W xs++aU W ys:=List.flatMap_append ..
noncomputable def cN(D:Kt)(g:Int)(c:Nat)(r:List Int):Int × List Int × List Ev:=match bV D g r with
 | .sg n g'=>(g',[],[.sg n])
 | .mo=>(g,r,[])
 | .no=>(g,[],[.ft (c - r.length) r.length "strange" r])
noncomputable def gu(D:Kt)(g:Int)(c:Nat)(r:List Int):Int × List Int × List Ev:=match bV D g r with
 | .sg n g'=>(g',[],[.sg n])
 | .mo=>(g,r,[])
 | .no=>((cN D g c (r.drop (r.length - aK D))).1,(cN D g c (r.drop (r.length - aK D))).2.1,.ft (c - r.length) (r.length - aK D) "broken" (r.take (r.length - aK D)) :: (cN D g c (r.drop (r.length - aK D))).2.2)
noncomputable def bU(D:Kt)(g:Int)(r:List Int)(c:Nat)(b:Int):Int × List Int × List Ev :=
 if (r++[b]).length%aK D=0 then (if (r++[b]).length=aK D then cN D g c (r++[b]) else gu D g c (r++[b])) else (g,r++[b],[])
noncomputable def run(D:Kt):Int->List Int->Nat->List Int->Int × List Int × List Ev
 | g,r,_,[]=>(g,r,[])
 | g,r,c,b :: bs=>((run D (bU D g r (c+1) b).1 (bU D g r (c+1) b).2.1 (c+1) bs).1,(run D (bU D g r (c+1) b).1 (bU D g r (c+1) b).2.1 (c+1) bs).2.1,(bU D g r (c+1) b).2.2++(run D (bU D g r (c+1) b).1 (bU D g r (c+1) b).2.1 (c+1) bs).2.2)
theorem At(D:Kt)(b:Int) : ∀ (bs:List Int) (g:Int) (r:List Int) (c:Nat),run D g r c (bs++[b])=((bU D (run D g r c bs).1 (run D g r c bs).2.1 (c+bs.length+1) b).1,(bU D (run D g r c bs).1 (run D g r c bs).2.1 (c+bs.length+1) b).2.1,(run D g r c bs).2.2++(bU D (run D g r c bs).1 (run D g r c bs).2.1 (c+bs.length+1) b).2.2)
 | [],g,r,c=>by simp[run]
 | a :: bs,g,r,c=>by
  show run D g r c (a :: (bs++[b]))=_
  simp only [run]
  rw[At D b bs]
  simp[Nat.add_assoc,Nat.add_comm 1,Nat.add_left_comm]
theorem Au(D:Kt) : ∀ (bs ds:List Int) (g:Int) (r:List Int) (c:Nat),run D g r c (bs++ds)=((run D (run D g r c bs).1 (run D g r c bs).2.1 (c+bs.length) ds).1,(run D (run D g r c bs).1 (run D g r c bs).2.1 (c+bs.length) ds).2.1,(run D g r c bs).2.2++(run D (run D g r c bs).1 (run D g r c bs).2.1 (c+bs.length) ds).2.2)
 | [],ds,g,r,c=>by simp[run]
 | a :: bs,ds,g,r,c=>by
  show run D g r c (a :: (bs++ds))=_
  simp only [run]
  rw[Au D bs]
  simp[Nat.add_assoc,Nat.add_comm 1]
def ja(D:Kt):Ev->Prop
 | .sg n=>fQ D n
 | .ft _ l _ bs=>bq bs/\bs.length=l
def cH(D:Kt)(g x:Int):List Int × Int:=if 61184<=x/\x<=61439 then ([x - 61184],g) else dY D g x
def aY(D:Kt)(g:Int)(xs:List Int):List Int × Int:=xs.foldl (λa n=>(a.1++(cH D a.2 n).1,(cH D a.2 n).2)) ([],g)
theorem rE(D:Kt) : ∀ (ts:List Int) (row:List Int) (g:Int),ts.foldl (λa n=>(a.1++(cH D a.2 n).1,(cH D a.2 n).2)) (row,g)=(row++(aY D g ts).1,(aY D g ts).2)
 | [],row,g=>by simp[aY]
 | n :: ts,row,g=>by
  rw[List.foldl_cons,rE D ts]
  have e:aY D g (n :: ts)=((cH D g n).1++(aY D (cH D g n).2 ts).1,(aY D (cH D g n).2 ts).2):=by
   show List.foldl _ _ (n :: ts)=_
   rw[List.foldl_cons,rE D ts]
   simp
  rw[e,List.append_assoc]
theorem gG(D:Kt)(g:Int)(xs ys:List Int):aY D g (xs++ys)=((aY D g xs).1++(aY D (aY D g xs).2 ys).1,(aY D (aY D g xs).2 ys).2):=by
 show List.foldl _ _ (xs++ys)=_
 rw[List.foldl_append]
 exact rE D ys _ _
theorem ny(D:Kt)(g n:Int):aY D g [n]=cH D g n:=by simp[aY]
theorem nA(D:Kt)(g:Int) : ∀ bs:List Int,bq bs->aY D g (bs.map λb=>61184+b)=(bs,g)
 | [],_=>rfl
 | b :: bs,h=>by
  have hb:=h b (List.mem_cons_self ..)
  have e:(b :: bs).map (λb=>61184+b)=[61184+b]++bs.map λb=>61184+b:=rfl
  rw[e,gG,ny]
  unfold cH
  rw[if_pos (by omega),nA D g bs λx hx=>h x (List.mem_cons_of_mem _ hx)]
  simp
  omega
theorem Fx{D:Kt}{g n:Int}(h:Sg n):cH D g n=dY D g n:=by
 unfold cH
 rw[if_neg (λz=>h.2.2.2 z)]
def yO(D:Kt)(g:Int)(r:List Int)(z:Int × List Int × List Ev):Prop:=bE D z.1/\cS D z.1 z.2.1/\(aY D g (aU .se z.2.2)).1++z.2.1=r/\(aY D g (aU .se z.2.2)).2=z.1/\(∀ e∈z.2.2,ja D e)/\z.2.2.length<=2
theorem Ch{D:Kt}{g n g':Int}{r:List Int}(ok:dq D)(pg:bE D g)(dm:Dm D g r)(h:bV D g r=.sg n g'):yO D g r (g',[],[.sg n]):=by
 obtain⟨a,b,c⟩:=Lh ok pg dm h
 have e:aY D g (aU .se [.sg n])=(r,g'):=by
  show aY D g [n]=_
  rw[ny,Fx (sL ok a),b]
 refine⟨c,cS.nil _ _,by rw[e,List.append_nil],by rw[e],λx hx=>?_,by show 1<=2; decide⟩
 rw[List.mem_singleton.mp hx]; exact a
theorem Ci{D:Kt}{g:Int}{r:List Int}(c:Nat)(ok:dq D)(pg:bE D g)(dm:Dm D g r)(by':bq r)(ev:r.length%aK D=0)(l5:r.length<=4\/∀ h,D ≠ .pr h):yO D g r (cN D g c r)/\(cN D g c r).2.2.length<=1:=by
 unfold cN
 cases e:bV D g r with
 | sg n g'=>exact⟨Ch ok pg dm e,by show 1<=1; decide⟩
 | mo=>exact⟨⟨pg,Be ok dm ev l5 e,rfl,rfl,(λ_ h=>nomatch h),by show 0<=2; decide⟩,by show 0<=1; decide⟩
 | no =>
  have e2:aY D g (aU .se [.ft (c - r.length) r.length "strange" r])=(r,g):=by
   show aY D g ((r.map λb=>61184+b)++[])=_
   rw[List.append_nil,nA D g r by']
  refine⟨⟨pg,cS.nil _ _,by rw[e2,List.append_nil],by rw[e2],λx hx=>?_,by show 1<=2; decide⟩,by show 1<=1; decide⟩
  rw[List.mem_singleton.mp hx]; exact⟨by',rfl⟩
theorem Cg{D:Kt}{g:Int}{r:List Int}(c:Nat){b:Int}(ok:dq D)(pg:bE D g)(bg:cS D g r)(b0:0<=b)(b1:b<=255):yO D g (r++[b]) (bU D g r c b):=by
 obtain⟨by0,l6⟩:=bg.byts pg
 have by1:=hJ by0 b0 b1
 have dm:=uT bg b0 b1
 have l5:(r++[b]).length<=4\/∀ h,D ≠ .pr h:=by
  cases D with
  | pr h=>exact .inl (by rw[List.length_append]; have:=bg.2; show _+1<=4; omega)
  | _=>exact .inr (λh z=>by cases z)
 unfold bU
 by_cases ev:(r++[b]).length%aK D=0
 ·rw[if_pos ev]
  by_cases one:(r++[b]).length=aK D
  ·rw[if_pos one]
   exact (Ci c ok pg dm by1 ev l5).1
  ·rw[if_neg one]
   unfold gu
   cases e:bV D g (r++[b]) with
   | sg n g'=>exact Ch ok pg dm e
   | mo=>exact⟨pg,Be ok dm ev l5 e,rfl,rfl,(λ_ h=>nomatch h),by show 0<=2; decide⟩
   | no =>
    have u1:1<=aK D/\aK D<=2:=by cases D <;> simp[aK]
    have ln:(r++[b]).length=r.length+1:=by rw[List.length_append]; rfl
    have lu:aK D<=(r++[b]).length:=by
     rcases Nat.lt_or_ge (r++[b]).length (aK D) with z | z
     ·rw[Nat.mod_eq_of_lt z]at ev; omega
     ·exact z
    have ld:((r++[b]).drop ((r++[b]).length - aK D)).length=aK D:=by rw[List.length_drop]; omega
    obtain⟨⟨h1,h2,h3,h4,h5,h6⟩,h7⟩:=Ci (r:=(r++[b]).drop ((r++[b]).length - aK D)) c ok pg (uU bg b0 b1) (λx hx=>by1 x (List.mem_of_mem_drop hx)) (by rw[ld,Nat.mod_self]) (.inl (by rw[ld]; omega))
    have by2:bq ((r++[b]).take ((r++[b]).length - aK D)):=λx hx=>by1 x (List.mem_of_mem_take hx)
    have et : ∀ (p l:Nat) (k:Str) (bs:List Int) (es:List Ev),bq bs->aY D g (aU .se (.ft p l k bs :: es))=(bs++(aY D g (aU .se es)).1,(aY D g (aU .se es)).2):=λp l k bs es hb=>by
     show aY D g ((bs.map λb=>61184+b)++aU .se es)=_
     rw[gG,nA D g bs hb]
    refine⟨h1,h2,?_,?_,λx hx=>?_,?_⟩
    ·dsimp only
     rw[et _ _ _ _ _ by2,List.append_assoc,h3,List.take_append_drop]
    ·dsimp only
     rw[et _ _ _ _ _ by2,h4]
    ·rcases List.mem_cons.mp hx with rfl | hx
     ·exact⟨by2,by rw[List.length_take]; omega⟩
     ·exact h5 x hx
    ·dsimp only
     rw[List.length_cons]
     omega
 ·rw[if_neg ev]
  refine⟨pg,?_,rfl,rfl,(λ_ h=>nomatch h),by show 0<=2; decide⟩
  have ln:(r++[b]).length=r.length+1:=by rw[List.length_append]; rfl
  cases D with
  | pr h =>
   have ev : ¬ (r++[b]).length%2=0:=ev
   refine⟨by1,?_⟩
   have:=bg.2
   dsimp only
   omega
  | _=>exact absurd (Nat.mod_one _) ev
theorem gX{D:Kt}(ok:dq D) : ∀ (bs:List Int) (g:Int) (r:List Int) (c:Nat),bE D g->cS D g r->bq bs->bE D (run D g r c bs).1/\cS D (run D g r c bs).1 (run D g r c bs).2.1/\(aY D g (aU .se (run D g r c bs).2.2)).1++(run D g r c bs).2.1=r++bs/\(aY D g (aU .se (run D g r c bs).2.2)).2=(run D g r c bs).1/\(∀ e∈(run D g r c bs).2.2,ja D e)/\(run D g r c bs).2.2.length<=2*bs.length
 | [],g,r,c,pg,bg,_=>⟨pg,bg,by simp[run,aU,aY],rfl,(λ_ h=>nomatch h),Nat.le_refl _⟩
 | b :: bs,g,r,c,pg,bg,hb=>by
  have h:=hb b (List.mem_cons_self ..)
  obtain⟨h1,h2,h3,h4,h5,h6⟩:=Cg (c+1) ok pg bg h.1 h.2
  obtain⟨k1,k2,k3,k4,k5,k6⟩:=gX ok bs _ _ (c+1) h1 h2 λx hx=>hb x (List.mem_cons_of_mem _ hx)
  simp only [run]
  refine⟨k1,k2,?_,?_,λe he=>?_,?_⟩
  ·rw[gJ,gG]
   dsimp only
   rw[h4,List.append_assoc,k3,<- List.append_assoc,h3,List.append_assoc]
   rfl
  ·rw[gJ,gG]
   dsimp only
   rw[h4,k4]
  ·rcases List.mem_append.mp he with z | z
   ·exact h5 e z
   ·exact k5 e z
  ·rw[List.length_append,List.length_cons]
   omega
theorem Kp.free{x b:Addr}{H H':Hp}{o:HO}(k:Kp x H H')(hx:H' x=some o)(n:H' b=none):H b=none:=by
 cases e:H b with
 | none=>rfl
 | some u =>
  have:=k b u (λz=>by rw[z,hx]at n; cases n) e
  rw[n]at this; cases this
abbrev cD(t:Adr)(dx o b mt y:Addr)(g:Int)(c:Nat)(e:Bool):HO:=.ins t.bu dx [("tongue",.ref o),("place",.int 0),("at_page",.int g),("begun",.ref b),("many",.int (c:Int)),("met",.ref mt),("ended",.bl e),("way",.ref y)]
def FV(t:Adr):Sp:=λvs H Q _=>∃ (x dx o:Addr),vs=[.ref x,.ref o,.int 0]/\H x=some (.ins t.bu dx [])/\∀ b mt H',H b=none->H mt=none->b≠mt->Kp x H H'->H' x=some (.ins t.bu dx [("tongue",.ref o),("place",.int 0),("at_page",.int 0),("begun",.ref b),("many",.int 0),("met",.ref mt),("ended",.bl false)])->H' b=some (.lst [])->H' mt=some (.lst [])->Q .non H'
theorem L7 (T:Txt w K mg t):yN P w K mg base 1 t.yq t.pF ["self", "tongue", "place"] [] (FV t):=by
 refine⟨T.Ep.kp,⟨_,T.QM,.nil⟩,T.Ep.okQ G7 (λvs H Q E h=>by obtain⟨x,dx,o,rfl,_⟩:=h; rfl) λcdv A outer s H vs Q E hr h=>?_⟩
 obtain⟨x,dx,o,rfl,hx,k⟩:=h
 refine⟨_,(ai (cg (K:=K) rfl (aa 0) (aa 1))
  (ai (cg (K:=K) rfl (aa 0) (aa 2))
  (ai (cg (K:=K) rfl (aa 0) aj)
  (ai (cg (K:=K) rfl (aa 0) (aS ad))
  (ai (cg (K:=K) rfl (aa 0) aj)
  (ai (cg (K:=K) rfl (aa 0) (aS ad))
  (ah (cg (K:=K) rfl (aa 0) fY)))))))),?_⟩
 refine⟨x,_,dx,_,rfl,hx,T.ar,T.bS,Nat.lt_of_lt_of_le Nat.zero_lt_one (by decide),?_⟩
 refine⟨x,_,dx,_,rfl,aQ,T.ar,T.Bb,Nat.lt_of_lt_of_le (Nat.lt_succ_self 1) (by decide),?_⟩
 refine⟨x,_,dx,_,rfl,aQ,T.ar,T.fi,Nat.lt_of_lt_of_le (Nat.lt_succ_self 2) (by decide),?_⟩
 refine⟨sz rfl,λb H1 g1=>?_⟩
 have nb:H b=none:=Kp.free (x:=x) (Kp.trans Kp.upd (Kp.trans Kp.upd Kp.upd)) aQ g1.nw
 have k1:Kp x H H1:=Kp.trans (Kp.trans Kp.upd (Kp.trans Kp.upd Kp.upd)) (Kp.of g1.sm)
 have nxb:b≠x:=λz=>by rw[z,hx]at nb; cases nb
 have h1:=g1.sm x _ aQ
 refine⟨x,_,dx,_,rfl,h1,T.ar,T.bD,Nat.lt_of_lt_of_le (Nat.lt_succ_self 3) (by decide),?_⟩
 refine⟨x,_,dx,_,rfl,aQ,T.ar,T.oj,Nat.lt_of_lt_of_le (Nat.lt_succ_self 4) (by decide),?_⟩
 refine⟨sz rfl,λmt H2 g2=>?_⟩
 have nm:H mt=none:=Kp.free (x:=x) (k1.trans (Kp.trans Kp.upd Kp.upd)) aQ g2.nw
 have k3:Kp x H H2:=Kp.trans (k1.trans (Kp.trans Kp.upd Kp.upd)) (Kp.of g2.sm)
 have b2:H2 b=some (.lst []):=g2.sm _ _ (by rw[aw nxb,aw nxb]; exact g1.at_)
 have nbm:b≠mt:=aH (by rw[aw nxb,aw nxb]; exact g1.at_) g2.nw
 have nxm:mt≠x:=λz=>by rw[z,hx]at nm; cases nm
 have h2:=g2.sm x _ aQ
 refine⟨x,_,dx,_,rfl,h2,T.ar,T.sy,Nat.lt_of_lt_of_le (Nat.lt_succ_self 5) (by decide),?_⟩
 refine⟨x,_,dx,_,rfl,aQ,T.ar,T.me,Nat.lt_of_lt_of_le (Nat.lt_succ_self 6) (by decide),?_⟩
 exact k b mt _ nb nm nbm (k3.trans (Kp.upd.trans Kp.upd)) (by rw[aQ]; rfl) (by rw[aw nxb,aw nxb]; exact b2) (by rw[aw nxm,aw nxm]; exact g2.at_)
def rW(t:Adr):Sp:=λvs H Q _=>∃ (x dx o y:Addr),vs=[.ref x,.ref o,.ref y,.int 0]/\H x=some (.ins t.bu dx [])/\∀ b mt H',H b=none->H mt=none->b≠mt->Kp x H H'->H' x=some (cD t dx o b mt y 0 0 false)->H' b=some (.lst [])->H' mt=some (.lst [])->Q .non H'
theorem A5 (T:Txt w K mg t):bv P w K mg base bC 2 t.m6 t.lB ["self", "tongue", "way", "place"] (rW t):=by
 refine T.R5.okQ Hj (λvs H Q E h=>by obtain⟨x,dx,o,y,rfl,_⟩:=h; rfl) λcdv A outer s H vs Q E hr h=>?_
 obtain⟨x,dx,o,y,rfl,hx,k⟩:=h
 refine⟨_,(ai (cT (AJ (K:=K) rfl T.Ps T.Nd (L7 T) hr (ab (aa 0) (ab (aa 1) (ab (aa 3) ad)))))
  (ah (cg (K:=K) rfl (aa 0) (aa 2)))),?_⟩
 refine⟨x,dx,o,rfl,hx,λb mt H1 nb nm nbm k1 hx1 hb1 hm1=>?_⟩
 have nxb:b≠x:=λz=>by rw[z,hx]at nb; cases nb
 have nxm:mt≠x:=λz=>by rw[z,hx]at nm; cases nm
 refine⟨x,_,dx,_,rfl,hx1,T.ar,T.iS,Nat.lt_of_lt_of_le (Nat.lt_succ_self 7) (by decide),?_⟩
 exact k b mt _ nb nm nbm (k1.trans Kp.upd) (by rw[aQ]; rfl) (by rw[aw nxb]; exact hb1) (by rw[aw nxm]; exact hm1)
theorem BG (T:Txt w K mg t):hX P w K mg base "GoingReader" t.bu 2 t.m6 t.lB ["self", "tongue", "way", "place"] [.int 0] (rW t):=⟨T.Cl,T.Bf,⟨_,T.Pt,.cons ⟨_,rfl⟩ .nil⟩,A5 T⟩
theorem L3 (T:Txt w K mg t):hX P w K mg base "GoingReader" t.bu 2 t.m6 t.lB ["self", "tongue", "way", "place"] [] (rW t):=⟨T.Cl,T.Bf,⟨[],T.Q9,.nil⟩,A5 T⟩
def hU(t:Adr)(H:Hp)(y:Addr):Wy->Prop
 | .lv=>∃ dx,H y=some (.ins t.fN dx [])
 | .pt n=>∃ dx,H y=some (.ins t.df dx [("sign",.int n)])
 | .se=>∃ dx,H y=some (.ins t.fM dx [])
theorem hU.mono{H H':Hp}{y:Addr}{W:Wy}(h:hU t H y W)(s:af H H'):hU t H' y W:=by
 cases W <;> exact let ⟨dx,z⟩:=h; ⟨dx,s _ _ z⟩
def FW(t:Adr):Sp:=λvs H Q _=>∃ (x dx:Addr) (n:Int),vs=[.ref x,.int n]/\H x=some (.ins t.df dx [])/\Q .non (upd H x (.ins t.df dx [("sign",.int n)]))
theorem LZ (T:Txt w K mg t):hX P w K mg base "Put" t.df 1 t.yy t.pG ["self", "sign"] [] (FW t):=⟨T.Nf,T.KL,⟨[],T.QU,.nil⟩,by
 refine T.RO.okQ Ha (λvs H Q E h=>by obtain⟨x,dx,n,rfl,_⟩:=h; rfl) λcdv A outer s H vs Q E hr h=>?_
 obtain⟨x,dx,n,rfl,hx,k⟩:=h
 exact⟨_,(ah (cg (K:=K) rfl (aa 0) (aa 1))),x,_,dx,_,rfl,hx,T.wu,T.Ba,by decide,k⟩⟩
def rT(K:PySem.W.Frag)(t:Adr)(W:Wy->Prop):Sp:=λvs H Q _=>∃ (y a:Addr) (V':Wy) (bs:List Int),vs=[.ref y,.ref a]/\hU t H y V'/\W V'/\aE K H a (bs.map V.int)/\bs.length<=1000/\∀ p H',aZ H p (.lst ((eG V' bs).map V.int)) H'->Q (.ref p) H'
theorem Cb (T:Txt w K mg t):bT P w K mg base t.fN "told" 1 t.ye t.uB ["self", "row"] (rT K t λW=>W=.lv):=by
 refine⟨T.OX,T.mt_Leave_told,T.Qo,T.Rn.okQ GS (λvs H Q E h=>by obtain⟨y,a,W,bs,rfl,_⟩:=h; rfl) λcdv A outer s H vs Q E hr h=>?_⟩
 obtain⟨y,a,W,bs,rfl,wy,rfl,ha,hl,k⟩:=h
 exact⟨_,(ah (al (aS ad))),sz rfl,k⟩
theorem B6 (T:Txt w K mg t):bT P w K mg base t.df "told" 1 t.yw t.uN ["self", "row"] (rT K t λW=>∃ n,W=.pt n):=by
 refine⟨T.wu,T.Ks,T.QR,T.RN.okQ G9 (λvs H Q E h=>by obtain⟨y,a,W,bs,rfl,_⟩:=h; rfl) λcdv A outer s H vs Q E hr h=>?_⟩
 obtain⟨y,a,W,bs,rfl,wy,⟨n,rfl⟩,ha,hl,k⟩:=h
 obtain⟨dx,hy⟩:=wy
 exact⟨_,(ah (al (aS (ab (aq (K:=K) rfl (aa 0)) ad)))),y,_,dx,_,_,rfl,hy,T.wu,T.Ba,rfl,sz rfl,k⟩
theorem B5 (T:Txt w K mg t):bT P w K mg base t.fM "told" 1 t.yn t.uH ["self", "row"] (rT K t λW=>W=.se):=by
 refine⟨T.OW,T.Kr,T.QJ,T.RH.okQ G4 (λvs H Q E h=>by obtain⟨y,a,W,bs,rfl,_⟩:=h; rfl) λcdv A outer s H vs Q E hr h=>?_⟩
 obtain⟨y,a,W,bs,rfl,wy,rfl,ha,hl,k⟩:=h
 refine⟨_,(ah (al (fh rfl (cG.of (fns:=(ag iM).names) (N:=["self", "row"]) (Nc:=["byte"]) (nv:=1) (caps:=[]) rfl rfl (by decide +kernel)) (dz (K:=K) rfl (aa 1)) (λ_ _ _ _=>(ba (i:=0) (show List.Nodup (["byte"]:List Str) by decide +kernel) rfl (Or.inl rfl) (Or.inr rfl))) (λ_ _ _ _=>d6) (λ_ _ _ _=>(au (aX (K:=K) rfl) (bP T.xa) (aa 0)))))),?_⟩
 refine⟨a,rfl,⟨_,ha⟩,i7 ((bs.map λb=>61184+b).map V.int) (by simp) ha (bB (by rw[List.length_map]; omega)) (λi x y H4 N hx hy s4 hN=>?_) λp3 H3 g3=>k p3 H3 g3⟩
 obtain⟨o,ho,rfl⟩:=dn hx
 rw[List.getElem?_map,List.getElem?_map,ho]at hy
 cases hy
 exact hN _ (af.refl _)
abbrev FL:=List (Addr × Nat × Nat × Str)
def CB(x:Nat × Nat × Str):List V:=[.int (x.1:Int),.int (x.2.1:Int),.str x.2.2]
def cz(H:Hp)(mt:Addr)(L:FL):Prop:=H mt=some (.lst (L.map λx=>V.ref x.1))/\∀ x∈L,H x.1=some (.tup (CB x.2))
theorem cz.mono{H H':Hp}{mt:Addr}{L:FL}(h:cz H mt L)(s:af H H'):cz H' mt L:=⟨s _ _ h.1,λx hx=>s _ _ (h.2 x hx)⟩
theorem cz.keep{H H':Hp}{mt x b:Addr}{L:FL}{C dx:Addr}{fs:List (Str × V)}{vs:List V}(h:cz H mt L)(k : ∀ c u,c≠x->c≠b->H c=some u->H' c=some u)(hx:H x=some (.ins C dx fs))(hb:H b=some (.lst vs))(n:mt≠b):cz H' mt L :=
 ⟨k _ _ (bc h.1 hx (by intro z; cases z)) n h.1,λz hz=>k _ _ (bc (h.2 z hz) hx (by intro z; cases z)) (bc (h.2 z hz) hb (by intro z; cases z)) (h.2 z hz)⟩
def FI(t:Adr):Sp:=λvs H Q _=>∃ (x dx o b mt y:Addr) (g:Int) (c l:Nat) (k:Str) (r:List Int) (L:FL),vs=[.ref x,.int (l:Int),.str k]/\H x=some (cD t dx o b mt y g c false)/\H b=some (.lst (r.map V.int))/\cz H mt L/\r.length<=c/\L.length<=10000 /\
 ∀ p H',(∀ a u,a≠mt->H a=some u->H' a=some u)->H p=none->cz H' mt (L++[(p,c - r.length,l,k)])->Q .non H'
theorem Ce (T:Txt w K mg t):bT P w K mg base t.bu "note" 1 t.yp t.uJ ["self", "length", "kind"] (FI t):=by
 refine⟨T.ar,T.mt_GoingReader_note,T.QL,T.RJ.okQ G6 (λvs H Q E h=>by obtain⟨x,dx,o,b,mt,y,g,c,l,k,r,L,rfl,_⟩:=h; rfl) λcdv A outer s H vs Q E hr h=>?_⟩
 obtain⟨x,dx,o,b,mt,y,g,c,l,kd,r,L,rfl,hx,hb,ft,lr,lL,k⟩:=h
 refine⟨_,(ah (cT (dQ (K:=K) rfl PySem.F.plainAttrs_list PySem.F.slot_list_append PySem.F.type_list_append gq (aq (K:=K) rfl (aa 0)) (ab (bK (ab (au cv (au (aX (K:=K) rfl) (aq (K:=K) rfl (aa 0)) (aq (K:=K) rfl (aa 0))) (bi (bA (K:=K) rfl) T.n_len PySem.boot_len (ab (aq (K:=K) rfl (aa 0)) ad))) (ab (aa 1) (ab (aa 2) ad)))) ad)))),?_⟩
 refine⟨x,_,dx,_,_,rfl,hx,T.ar,T.sy,rfl,?_⟩
 refine⟨.inl ⟨rfl,_,.of ft.1⟩,?_⟩
 refine⟨x,_,dx,_,_,rfl,hx,T.ar,T.Bb,rfl,?_⟩
 refine⟨x,_,dx,_,_,rfl,hx,T.ar,T.oj,rfl,?_⟩
 refine⟨x,_,dx,_,_,rfl,hx,T.ar,T.bD,rfl,?_⟩
 refine⟨_,.inl (.of hb),?_⟩
 refine⟨sz rfl,λp H1 g1=>?_⟩
 have ep:(0:Int)+(c:Int) - ((r.map V.int).length:Int)=((c - r.length:Nat):Int):=by rw[List.length_map]; omega
 have g1':aZ H p (.tup [.int ((0:Int)+(c:Int) - ((r.map V.int).length:Int)),.int (l:Int),.str kd]) H1:=g1
 rw[ep]at g1'
 refine⟨_,g1.sm _ _ ft.1,dP (by rw[List.length_map]; omega),?_⟩
 have np:p≠mt:=(aH ft.1 g1.nw).symm
 refine k p _ (λa u n e=>by rw[aw n]; exact g1.sm _ _ e) g1.nw ⟨by rw[aQ,List.map_append]; rfl,λz hz=>?_⟩
 rcases List.mem_append.mp hz with q | q
 ·rw[aw (bc (ft.2 z q) ft.1 (by intro z; cases z))]
  exact g1.sm _ _ (ft.2 z q)
 ·rw[List.mem_singleton.mp q,aw np]
  exact g1'.at_
def wo(H:Hp)(X:List Addr):Hp:=λa=>if a∈X then none else H a
theorem cC{H:Hp}{X:List Addr}{a:Addr}(h:a∈X):wo H X a=none:=if_pos h
theorem rF{H:Hp}{X:List Addr}{a:Addr}{u:HO}(h:a∉X)(e:H a=some u):wo H X a=some u:=(if_neg h).trans e
theorem gH{H:Hp}{X:List Addr}:af (wo H X) H:=λa u e=>by
 unfold wo at e
 split at e
 ·cases e
 ·exact e
theorem af.wo{Hb H:Hp}{X:List Addr}(s:af Hb H)(h : ∀ a∈X,Hb a=none):af Hb (wo H X):=λa u e=>rF (λz=>by rw[h a z]at e; cases e) (s a u e)
theorem eB{H:Hp}{x y z a:Addr}{u:HO}(n1:a≠x)(n2:a≠y)(n3:a≠z)(e:H a=some u):wo H [x,y,z] a=some u:=rF (by simp only [List.mem_cons,List.not_mem_nil,or_false,not_or]; exact⟨n1,n2,n3⟩) e
theorem hZ{Hb H:Hp}{x y z:Addr}(s:af Hb H)(h1:Hb x=none)(h2:Hb y=none)(h3:Hb z=none):af Hb (wo H [x,y,z]):=af.wo s λa ha=>by
 simp only [List.mem_cons,List.not_mem_nil,or_false]at ha
 rcases ha with rfl | rfl | rfl <;> assumption
theorem Mz (T:Txt w K mg t):bT P w K mg base t.bu "look_at_begun" 1 t.m4 t.mI ["self"] rV :=
 ⟨T.ar,T.mt_GoingReader_look_at_begun,T.xl,T.yR.okQ lW (λvs H Q E h=>h.elim) λcdv A outer s H vs Q E hr h=>h.elim⟩
def FO(t:Adr):Sp:=λvs H Q _=>∃ (Hb:Hp) (x dx o b mt y:Addr) (W:Wy) (g:Int) (c:Nat) (r:List Int) (L:FL) (kd:Str),vs=[.ref x,.int (r.length:Int),.str kd]/\hU t Hb y W/\af Hb H/\Hb x=none/\Hb b=none/\Hb mt=none/\b≠mt/\H x=some (cD t dx o b mt y g c false)/\H b=some (.lst (r.map V.int))/\cz H mt L/\r.length<=c/\r.length<=100/\L.length<=10000 /\
 ∀ q b' p H',af Hb H'->H q=none->H b'=none->q≠b'->H' x=some (cD t dx o b' mt y g c false)->H' b'=some (.lst [])->cz H' mt (L++[(p,c - r.length,r.length,kd)])->H' q=some (.lst ((eG W r).map V.int))->Q (.ref q) H'
theorem BQ (T:Txt w K mg t):bT P w K mg base t.bu "meet" 2 t.ri t.pH ["self", "length", "kind"] (FO t):=by
 have h_GoingReader_look_at_begun:=λ(T:Txt w K mg t)=>Mz (P:=P) (base:=base) T
 refine⟨T.ar,T.Bd,T.Dr,T.Er.okQ nQ (λvs H Q E h=>by obtain⟨Hb,x,dx,o,b,mt,y,W,g,c,r,L,kd,rfl,_⟩:=h; rfl) λcdv A outer s H vs Q E hr h=>?_⟩
 obtain⟨Hb,x,dx,o,b,mt,y,W,g,c,r,L,kd,rfl,wy,sb,fx,fb,fm,nbm,hx,hb,ft,lc,l1,lL,k⟩:=h
 refine⟨_,(ai (cT (bJ (Ce T) hr (aa 0) (ab (aa 1) (ab (aa 2) ad))))
  (ai (aJ (i:=3) nQ.nd rfl (by first | exact Or.inl rfl | exact Or.inr rfl) (bf (bJ (Cb T) hr (aq (K:=K) rfl (aa 0)) (ab (cU (c9 (K:=K) rfl) (aq (K:=K) rfl (aa 0)) dD (ci (aa 1))) ad)) (bf (bJ (B6 T) hr (aq (K:=K) rfl (aa 0)) (ab (cU (c9 (K:=K) rfl) (aq (K:=K) rfl (aa 0)) dD (ci (aa 1))) ad)) (bJ (B5 T) hr (aq (K:=K) rfl (aa 0)) (ab (cU (c9 (K:=K) rfl) (aq (K:=K) rfl (aa 0)) dD (ci (aa 1))) ad)))))
  (ai (cg (K:=K) rfl (aa 0) (cU (c9 (K:=K) rfl) (aq (K:=K) rfl (aa 0)) (ci (aa 1)) dD))
  (ah (al (gn (fZ (K:=K) rfl (aq (K:=K) rfl (aa 0))) (au (aX (K:=K) rfl) (aa 3) (bG (h_GoingReader_look_at_begun T) hr (aa 0))) (aa 3))))))),?_⟩
 have nbx:b≠x:=bc hb hx (by intro z; cases z)
 have nmx:mt≠x:=bc ft.1 hx (by intro z; cases z)
 refine⟨x,dx,_,rfl,hx,rfl,x,dx,o,b,mt,y,g,c,r.length,kd,r,L,rfl,hx,hb,ft,lc,lL,λp H1 k1 np ft1=>?_⟩
 have hx1:=k1 _ _ nmx.symm hx
 have hb1:=k1 _ _ nbm hb
 have s1:af Hb H1:=λa u e=>k1 a u (aH e fm) (sb a u e)
 have wy1:=wy.mono s1
 dsimp only
 have ec:de (r.map V.int) none (some ((r.length:Nat):Int))=(r.take r.length).map V.int:=by rw[eU,mR]
 have ed:de (r.map V.int) (some ((r.length:Nat):Int)) none=(r.drop r.length).map V.int:=by rw[eU]; exact congrArg _ (mS r r.length)
 have lt:(r.take r.length).length<=1000:=by rw[List.length_take]; omega
 refine dh (λσ' H'=>af H1 H'/\∃ q,H1 q=none/\H' q=some (.lst ((eG W (r.take r.length)).map V.int))/\σ'=[some (.ref x),some (.int ((r.length:Nat):Int)),some (.str kd),some (.ref q)]) (λnx hn=>?_) ?_
 ·have fin : ∀ p2 H2 q H3,aZ H1 p2 (.lst ((r.take r.length).map V.int)) H2->aZ H2 q (.lst ((eG W (r.take r.length)).map V.int)) H3->nx [some (.ref x),some (.int ((r.length:Nat):Int)),some (.str kd),some (.ref q)] H3:=λp2 H2 q H3 g2 g3=>hn _ _ ⟨g2.sm.trans g3.sm,q,g2.sm.free g3.nw,g3.at_,rfl⟩
  cases W with
  | lv =>
   obtain⟨dy,hy⟩:=id wy1
   refine .inl ⟨x,_,dx,_,_,rfl,hx1,T.ar,T.iS,rfl,y,dy,_,rfl,hy,rfl,x,_,dx,_,_,rfl,hx1,T.ar,T.bD,rfl,_,rfl,_,.of hb1,λp2 H2 g2=>?_⟩
   rw[ec]at g2
   exact⟨y,p2,.lv,_,rfl,wy1.mono g2.sm,rfl,g2.lst,lt,λq H3 g3=>fin p2 H2 q H3 g2 g3⟩
  | pt n =>
   obtain⟨dy,hy⟩:=id wy1
   refine .inr (.inl ⟨x,_,dx,_,_,rfl,hx1,T.ar,T.iS,rfl,y,dy,_,rfl,hy,rfl,x,_,dx,_,_,rfl,hx1,T.ar,T.bD,rfl,_,rfl,_,.of hb1,λp2 H2 g2=>?_⟩)
   rw[ec]at g2
   exact⟨y,p2,.pt n,_,rfl,wy1.mono g2.sm,⟨n,rfl⟩,g2.lst,lt,λq H3 g3=>fin p2 H2 q H3 g2 g3⟩
  | se =>
   obtain⟨dy,hy⟩:=id wy1
   refine .inr (.inr ⟨x,_,dx,_,_,rfl,hx1,T.ar,T.iS,rfl,y,dy,_,rfl,hy,rfl,x,_,dx,_,_,rfl,hx1,T.ar,T.bD,rfl,_,rfl,_,.of hb1,λp2 H2 g2=>?_⟩)
   rw[ec]at g2
   exact⟨y,p2,.se,_,rfl,wy1.mono g2.sm,rfl,g2.lst,lt,λq H3 g3=>fin p2 H2 q H3 g2 g3⟩
 rintro σ' H3 ⟨s3,q,nq,hq,rfl⟩
 have hx3:=s3 _ _ hx1
 have hb3:=s3 _ _ hb1
 refine⟨x,_,dx,_,_,rfl,hx3,T.ar,T.bD,rfl,?_⟩
 refine⟨_,rfl,_,.of hb3,λb' H4 g4=>?_⟩
 rw[ed]at g4
 refine⟨x,_,dx,_,rfl,g4.sm _ _ hx3,T.ar,T.bD,Nat.lt_of_lt_of_le (Nat.lt_succ_self 8) (by decide),?_⟩
 have s4:=s1.trans (s3.trans g4.sm)
 have ft4:=ft1.mono (s3.trans g4.sm)
 have hx4:=g4.sm _ _ hx3
 obtain⟨H5,e5⟩ : ∃ H5,H5=upd H4 x (cD t dx o b' mt y g c false):=⟨_,rfl⟩
 have e5':upd H4 x (.ins t.bu dx (ck "begun" (.ref b') [("tongue",.ref o),("place",.int 0),("at_page",.int g),("begun",.ref b),("many",.int (c:Int)),("met",.ref mt),("ended",.bl false),("way",.ref y)]))=H5:=by rw[e5]; rfl
 rw[e5']
 have hx5:H5 x=some (cD t dx o b' mt y g c false):=by rw[e5,aQ]
 have st5 : ∀ a u,a≠x->H4 a=some u->H5 a=some u:=λa u n e=>by rw[e5,aw n]; exact e
 have nbx':b'≠x:=(aH hx3 g4.nw).symm
 have hb5:=st5 _ _ nbx' g4.at_
 have hq4:=g4.sm _ _ hq
 have nqx:q≠x:=bc hq4 hx4 (by intro z; cases z)
 have hq5:=st5 _ _ nqx hq4
 have s5:af Hb H5:=λa u e=>st5 a u (aH e fx) (s4 a u e)
 have ft5:cz H5 mt (L++[(p,c - r.length,r.length,kd)]):=⟨st5 _ _ nmx ft4.1,λz hz=>st5 _ _ (bc (ft4.2 z hz) hx4 (by intro z; cases z)) (ft4.2 z hz)⟩
 have fr0 : ∀ a,H1 a=none->H a=none:=λa n=>by
  cases e:H a with
  | none=>rfl
  | some u =>
   by_cases z:a=mt
   ·rw[z,ft1.1]at n; cases n
   ·rw[k1 a u z e]at n; cases n
 have nqb:q≠b':=aH hq g4.nw
 have nq0:=fr0 q nq
 have nb0:=fr0 b' (s3.free g4.nw)
 refine⟨x,_,dx,_,_,rfl,hx5,T.ar,T.bD,rfl,_,.inl (.of hb5),?_⟩
 rw[List.take_length]at hq5
 rw[List.drop_length]at hb5 ⊢
 exact k q b' p H5 s5 nq0 nb0 nqb hx5 hb5 ft5 hq5
noncomputable def c8(o:Bool)(D:Kt)(g:Int)(c:Nat)(r:List Int):Int × List Int × List Ev:=if o=true then cN D g c r else gu D g c r
structure yJ (t:Adr) (Hb H:Hp) (x dx o b mt y:Addr) (D:Kt) (W:Wy) (g:Int) (c:Nat) (r:List Int) (L:FL) (one:Bool):Prop where
 tn:TN t Hb o D
 wy:hU t Hb y W
 sb:af Hb H
 fx:Hb x=none
 fb:Hb b=none
 fm:Hb mt=none
 nbm:b≠mt
 hx:H x=some (cD t dx o b mt y g c false)
 hb:H b=some (.lst (r.map V.int))
 ft:cz H mt L
 pg:bE D g
 dm:Dm D g r
 dl:Dm D g (r.drop (r.length - aK D))
 lc:r.length<=c
 l1:r.length<=100
 lu:aK D<=r.length
 lL:L.length<=9000
 on:one=true->r.length=aK D
 mo:one=false->aK D < r.length
 l8:one=false->L.length<=8999
def m9(t:Adr)(Hb H:Hp)(x dx o mt y:Addr)(D:Kt)(W:Wy)(c:Nat)(L:FL)(z:Int × List Int × List Ev)(Q:VK):Prop :=
 ∀ (q b':Addr) (ps:FL) H',af Hb H'->H q=none->Hb b'=none->b'≠mt->q≠b'->H' x=some (cD t dx o b' mt y z.1 c false)->H' b'=some (.lst (z.2.1.map V.int))->cz H' mt (L++ps)->ps.map (λx=>x.2)=fts z.2.2->H' q=some (.lst ((aU W z.2.2).map V.int))->Q (.ref q) H'
def zN(t:Adr)(one:Bool):Sp:=λvs H Q _=>∃ (Hb:Hp) (x dx o b mt y:Addr) (D:Kt) (W:Wy) (g:Int) (c:Nat) (r:List Int) (L:FL),vs=[.ref x]/\yJ t Hb H x dx o b mt y D W g c r L one/\bV D g r=.no/\m9 t Hb H x dx o mt y D W c L (c8 one D g c r) Q
def zO(t:Adr)(one:Bool):Sp:=λvs H Q _=>∃ (Hb:Hp) (x dx o b mt y:Addr) (D:Kt) (W:Wy) (g:Int) (c:Nat) (r:List Int) (L:FL),vs=[.ref x]/\yJ t Hb H x dx o b mt y D W g c r L one/\m9 t Hb H x dx o mt y D W c L (c8 one D g c r) Q
theorem Mw (T:Txt w K mg t):bT P w K mg base t.bu "meet_none" 3 t.qZ t.pE ["self"] (zN t true):=by
 have iW:=λ(T:Txt w K mg t)=>BQ (P:=P) (base:=base) T
 refine⟨T.ar,T.mt_GoingReader_meet_none,T.Dq,T.Eo.okQ nP (λvs H Q E h=>by obtain⟨Hb,x,dx,o,b,mt,y,D,W,g,c,r,L,rfl,_⟩:=h; rfl) λcdv A outer s H vs Q E hr h=>?_⟩
 obtain⟨Hb,x,dx,o,b,mt,y,D,W,g,c,r,L,rfl,M,hno,k⟩:=h
 have hu:=hr.units
 refine⟨_,(ai (aJ (i:=1) nP.nd rfl (by first | exact Or.inl rfl | exact Or.inr rfl) (au cv (bi (bA (K:=K) rfl) T.n_len PySem.boot_len (ab (aq (K:=K) rfl (aa 0)) ad)) (bf (bG (oF T) hr (aq (K:=K) rfl (aa 0))) (bf (bG (oK T) hr (aq (K:=K) rfl (aa 0))) (bf (bG (oJ T) hr (aq (K:=K) rfl (aa 0))) (bf (bG (oH T) hr (aq (K:=K) rfl (aa 0))) (bG (oG T) hr (aq (K:=K) rfl (aa 0)))))))))
  (ai (aF (av gy (aa 1) aj (aD _)) (ah (al (bJ (iW T) hr (aa 0) (ab (aa 1) (ab bX ad))))) aG)
  (ah (al (bJ (iW T) hr (aa 0) (ab (bi (bA (K:=K) rfl) T.n_len PySem.boot_len (ab (aq (K:=K) rfl (aa 0)) ad)) (ab bX ad))))))),?_⟩
 have tn:=M.tn.mono M.sb
 refine dh (λσ' H'=>H'=H/\σ'=[some (.ref x),some (.int ((r.length:Int) - (aK D:Int)))]) (λnx hn=>?_) ?_
 ·refine⟨x,_,dx,_,_,rfl,M.hx,T.ar,T.bD,rfl,?_⟩
  refine⟨_,.inl (.of M.hb),?_⟩
  rw[List.length_map]
  cases D with
  | br =>
   obtain⟨dxo,ho⟩:=id tn
   exact .inl ⟨x,_,dx,_,_,rfl,M.hx,T.ar,T.bS,rfl,o,dxo,_,rfl,ho,rfl,_,rfl,hn _ _ ⟨rfl,rfl⟩⟩
  | ld =>
   obtain⟨dxo,ho⟩:=id tn
   exact .inr (.inl ⟨x,_,dx,_,_,rfl,M.hx,T.ar,T.bS,rfl,o,dxo,_,rfl,ho,rfl,_,rfl,hn _ _ ⟨rfl,rfl⟩⟩)
  | pr h =>
   obtain⟨dxo,ho⟩:=id tn
   exact .inr (.inr (.inl ⟨x,_,dx,_,_,rfl,M.hx,T.ar,T.bS,rfl,o,dxo,_,rfl,ho,rfl,_,rfl,hn _ _ ⟨rfl,rfl⟩⟩))
  | sh f ns ms=>exact .inr (.inr (.inr (.inl ⟨x,_,dx,_,_,rfl,M.hx,T.ar,T.bS,rfl,o,f.dx,_,rfl,Tg.o tn,rfl,_,rfl,hn _ _ ⟨rfl,rfl⟩⟩)))
  | tb f es=>exact .inr (.inr (.inr (.inr ⟨x,_,dx,_,_,rfl,M.hx,T.ar,T.bS,rfl,o,f.dx,_,rfl,tn.1.o,rfl,_,rfl,hn _ _ ⟨rfl,rfl⟩⟩)))
 rintro σ' H' ⟨rfl,rfl⟩
 have e:=M.on rfl
 refine ak (λz=>absurd (show (r.length:Int) - (aK D:Int) > 0 from of_decide_eq_true z) (by omega)) (λ_=>?_)
 refine⟨x,dx,_,rfl,M.hx,rfl,?_⟩
 refine⟨x,_,dx,_,_,rfl,M.hx,T.ar,T.bD,rfl,_,.inl (.of M.hb),?_⟩
 refine⟨Hb,x,dx,o,b,mt,y,W,g,c,r,L,_,by rw[List.length_map]; rfl,M.wy,M.sb,M.fx,M.fb,M.fm,M.nbm,M.hx,M.hb,M.ft,M.lc,M.l1,by have:=M.lL; omega,λq b' p H1 s1 nq nb nqb hx1 hb1 ft1 hq1=>?_⟩
 have ez:c8 true D g c r=(g,[],[.ft (c - r.length) r.length "strange" r]):=by
  unfold c8 cN
  rw[if_pos rfl,hno]
 rw[ez]at k
 exact k q b' [(p,c - r.length,r.length, "strange")] H1 s1 nq (M.sb.free nb) (aH M.ft.1 nb).symm nqb hx1 hb1 ft1 rfl (by rw[show aU W [.ft (c - r.length) r.length "strange" r]=eG W r++[] from rfl,List.append_nil]; exact hq1)
theorem BR (T:Txt w K mg t):bT P w K mg base t.bu "look_at_begun" 8 t.m4 t.mI ["self"] (zO t true):=by
 have h_GoingReader_meet_none:=λ(T:Txt w K mg t)=>Mw (P:=P) (base:=base) T
 refine⟨T.ar,T.mt_GoingReader_look_at_begun,T.xl,T.yR.okQ lW (λvs H Q E h=>by obtain⟨Hb,x,dx,o,b,mt,y,D,W,g,c,r,L,rfl,_⟩:=h; rfl) λcdv A outer s H vs Q E hr h=>?_⟩
 obtain⟨Hb,x,dx,o,b,mt,y,D,W,g,c,r,L,rfl,M,k⟩:=h
 have hu:=hr.units
 refine⟨_,(ai (aJ (i:=1) lW.nd rfl (by first | exact Or.inl rfl | exact Or.inr rfl) (bf (bO (BX T) hr (aq (K:=K) rfl (aa 0)) (ab (aq (K:=K) rfl (aa 0)) (ab (aq (K:=K) rfl (aa 0)) ad))) (bf (bO (Cd T) hr (aq (K:=K) rfl (aa 0)) (ab (aq (K:=K) rfl (aa 0)) (ab (aq (K:=K) rfl (aa 0)) ad))) (bf (bO (Ca T) hr (aq (K:=K) rfl (aa 0)) (ab (aq (K:=K) rfl (aa 0)) (ab (aq (K:=K) rfl (aa 0)) ad))) (bf (bO (B4 T) hr (aq (K:=K) rfl (aa 0)) (ab (aq (K:=K) rfl (aa 0)) (ab (aq (K:=K) rfl (aa 0)) ad))) (bO (BZ T) hr (aq (K:=K) rfl (aa 0)) (ab (aq (K:=K) rfl (aa 0)) (ab (aq (K:=K) rfl (aa 0)) ad))))))))
  (ai (aF (av (bo (K:=K) rfl hu) (aL (aM (K:=K) rfl) (aa 1) aj (λ_ _=>rfl)) bX (aD _)) (ah (al (aS ad))) aG)
  (ai (aF (av (bo (K:=K) rfl hu) (aL (aM (K:=K) rfl) (aa 1) aj (λ_ _=>rfl)) bX (aD _)) (ah (al (bG (h_GoingReader_meet_none T) hr (aa 0)))) aG)
  (ai (cg (K:=K) rfl (aa 0) (aS ad))
  (ai (cg (K:=K) rfl (aa 0) (aL (aM (K:=K) rfl) (aa 1) aj (λ_ _=>rfl)))
  (ah (al (aS (ab (aL (aM (K:=K) rfl) (aa 1) aj (λ_ _=>rfl)) ad))))))))),?_⟩
 have tn:=M.tn.mono M.sb
 refine dh (λσ' H'=>∃ pf,af H H'/\H' pf=some (.tup (mj g (bV D g r)))/\σ'=[some (.ref x),some (.ref pf)]) (λnx hnx=>?_) ?_
 ·have fin : ∃ (o' q':Addr) (D':Kt) (g':Int) (r':List Int),([.ref o,.ref b,.int g]:List V)=[.ref o',.ref q',.int g']/\TN t H o' D'/\bE D' g'/\H q'=some (.lst (r'.map V.int))/\Dm D' g' r'/\∀ p H',af H H'->H' p=some (.tup (mj g' (bV D' g' r')))->nx [some (.ref x),some (.ref p)] H':=⟨o,b,D,g,r,rfl,tn,M.pg,M.hb,M.dm,λp H' s' hp=>hnx _ _ ⟨p,s',hp,rfl⟩⟩
  cases D with
  | br =>
   obtain⟨dxo,ho⟩:=id tn
   exact .inl ⟨x,_,dx,_,_,rfl,M.hx,T.ar,T.bS,rfl,o,dxo,_,rfl,ho,rfl,x,_,dx,_,_,rfl,M.hx,T.ar,T.bD,rfl,x,_,dx,_,_,rfl,M.hx,T.ar,T.fi,rfl,fin⟩
  | ld =>
   obtain⟨dxo,ho⟩:=id tn
   exact .inr (.inl ⟨x,_,dx,_,_,rfl,M.hx,T.ar,T.bS,rfl,o,dxo,_,rfl,ho,rfl,x,_,dx,_,_,rfl,M.hx,T.ar,T.bD,rfl,x,_,dx,_,_,rfl,M.hx,T.ar,T.fi,rfl,fin⟩)
  | pr h =>
   obtain⟨dxo,ho⟩:=id tn
   exact .inr (.inr (.inl ⟨x,_,dx,_,_,rfl,M.hx,T.ar,T.bS,rfl,o,dxo,_,rfl,ho,rfl,x,_,dx,_,_,rfl,M.hx,T.ar,T.bD,rfl,x,_,dx,_,_,rfl,M.hx,T.ar,T.fi,rfl,fin⟩))
  | sh f ns ms =>
   exact .inr (.inr (.inr (.inl ⟨x,_,dx,_,_,rfl,M.hx,T.ar,T.bS,rfl,o,f.dx,_,rfl,Tg.o tn,rfl,x,_,dx,_,_,rfl,M.hx,T.ar,T.bD,rfl,x,_,dx,_,_,rfl,M.hx,T.ar,T.fi,rfl,fin⟩)))
  | tb f es =>
   exact .inr (.inr (.inr (.inr ⟨x,_,dx,_,_,rfl,M.hx,T.ar,T.bS,rfl,o,f.dx,_,rfl,tn.1.o,rfl,x,_,dx,_,_,rfl,M.hx,T.ar,T.bD,rfl,x,_,dx,_,_,rfl,M.hx,T.ar,T.fi,rfl,fin⟩)))
 ·rintro σ' H1 ⟨pf,s1,hp,rfl⟩
  cases e:bV D g r with
  | sg n g' =>
   rw[e]at hp
   have ez:c8 true D g c r=(g',[],[.sg n]):=by
    simp only [c8,cN,gu,e,ite_self]
   rw[ez]at k
   refine⟨_,_,.inr (.of hp),aV (j:=0) rfl,?_⟩
   refine⟨_,_,ap.str _,ap.str _,aA n6,aA ie,?_⟩
   refine ak (λz=>absurd (show PyData.eqv (.str "sign") (.str "more")=true from z) (by decide +kernel)) (λ_=>?_)
   refine⟨_,_,.inr (.of hp),aV (j:=0) rfl,?_⟩
   refine⟨_,_,ap.str _,ap.str _,aA n6,aA ic,?_⟩
   refine ak (λz=>absurd (show PyData.eqv (.str "sign") (.str "none")=true from z) (by decide +kernel)) (λ_=>?_)
   refine⟨sz rfl,λb' H2 g2=>?_⟩
   have s2:=s1.trans g2.sm
   have hx2:=s2 _ _ M.hx
   have hp2:=g2.sm _ _ hp
   have nb:H b'=none:=s1.free g2.nw
   have npx:pf≠x:=bc hp2 hx2 (by intro z; cases z)
   have nbx:b'≠x:=(aH M.hx nb).symm
   refine⟨x,_,dx,_,rfl,hx2,T.ar,T.bD,Nat.lt_of_lt_of_le (Nat.lt_succ_self 8) (by decide),?_⟩
   refine⟨_,_,.inr (.of (by rw[aw npx]; exact hp2)),aV (j:=2) rfl,?_⟩
   refine⟨x,_,dx,_,rfl,aQ,T.ar,T.fi,Nat.lt_of_lt_of_le (Nat.lt_succ_self 8) (by decide),?_⟩
   refine⟨_,_,.inr (.of (by rw[aw npx,aw npx]; exact hp2)),aV (j:=1) rfl,?_⟩
   refine⟨sz rfl,λq H3 g3=>?_⟩
   have kp:Kp x H H3:=Kp.trans (Kp.trans (Kp.of s2) (Kp.trans Kp.upd Kp.upd)) (Kp.of g3.sm)
   have nq:H q=none:=Kp.free (x:=x) (Kp.trans (Kp.of s2) (Kp.trans Kp.upd Kp.upd)) aQ g3.nw
   have hb3:=g3.sm b' _ (by rw[aw nbx,aw nbx]; exact g2.at_)
   refine k q b' [] H3 (λa u e=>kp _ _ (aH e M.fx) (M.sb _ _ e)) nq (M.sb.free nb) (aH M.ft.1 nb).symm (aH (by rw[aw nbx,aw nbx]; exact g2.at_) g3.nw).symm (g3.sm x _ (by rw[aQ]; rfl)) hb3 ?_ rfl g3.at_
   rw[List.append_nil]
   exact⟨kp _ _ (bc M.ft.1 M.hx (by intro z; cases z)) M.ft.1,λz hz=>kp _ _ (bc (M.ft.2 z hz) M.hx (by intro z; cases z)) (M.ft.2 z hz)⟩
  | mo =>
   rw[e]at hp
   have ez:c8 true D g c r=(g,r,[]):=by
    simp only [c8,cN,gu,e,ite_self]
   rw[ez]at k
   refine⟨_,_,.inr (.of hp),aV (j:=0) rfl,?_⟩
   refine⟨_,_,ap.str _,ap.str _,aA ie,aA ie,?_⟩
   refine ak (λ_=>?_) (λz=>absurd (show PyData.eqv (.str "more") (.str "more")=true by decide +kernel) z)
   refine⟨sz rfl,λq H2 g2=>?_⟩
   have s2:=s1.trans g2.sm
   have nq:=s1.free g2.nw
   exact k q b [] H2 (M.sb.trans s2) nq M.fb M.nbm (aH M.hb nq).symm (s2 _ _ M.hx) (s2 _ _ M.hb) (by rw[List.append_nil]; exact M.ft.mono s2) rfl g2.at_
  | no =>
   rw[e]at hp
   refine⟨_,_,.inr (.of hp),aV (j:=0) rfl,?_⟩
   refine⟨_,_,ap.str _,ap.str _,aA ic,aA ie,?_⟩
   refine ak (λz=>absurd (show PyData.eqv (.str "none") (.str "more")=true from z) (by decide +kernel)) (λ_=>?_)
   refine⟨_,_,.inr (.of hp),aV (j:=0) rfl,?_⟩
   refine⟨_,_,ap.str _,ap.str _,aA ic,aA ic,?_⟩
   refine ak (λ_=>?_) (λz=>absurd (show PyData.eqv (.str "none") (.str "none")=true by decide +kernel) z)
   refine⟨x,dx,_,rfl,s1 _ _ M.hx,rfl,Hb,x,dx,o,b,mt,y,D,W,g,c,r,L,rfl,{ M with sb:=M.sb.trans s1,hx:=s1 _ _ M.hx,hb:=s1 _ _ M.hb,ft:=M.ft.mono s1 },e,λq b' ps H' a1 a2=>k q b' ps H' a1 (s1.free a2)⟩
def FN(t:Adr):Sp:=λvs H Q _=>∃ (Hb:Hp) (x dx o b mt y:Addr) (D:Kt) (W:Wy) (g:Int) (c:Nat) (r:List Int) (L:FL),vs=[.ref x,.int ((r.length - aK D:Nat):Int),.str "broken"]/\yJ t Hb H x dx o b mt y D W g c r L false/\bV D g r=.no/\m9 t Hb H x dx o mt y D W c L (c8 false D g c r) Q
theorem Mx (T:Txt w K mg t):bT P w K mg base t.bu "meet" 9 t.ri t.pH ["self", "length", "kind"] (FN t):=by
 have h_GoingReader_look_at_begun:=λ(T:Txt w K mg t)=>BR (P:=P) (base:=base) T
 refine⟨T.ar,T.Bd,T.Dr,T.Er.okQ nQ (λvs H Q E h=>by obtain⟨Hb,x,dx,o,b,mt,y,D,W,g,c,r,L,rfl,_⟩:=h; rfl) λcdv A outer s H vs Q E hr h=>?_⟩
 obtain⟨Hb,x,dx,o,b,mt,y,D,W,g,c,r,L,rfl,M,hno,k⟩:=h
 obtain⟨tn,wy,sb,fx,fb,fm,nbm,hx,hb,ft,pg,dm,dl,lc,l1,lu,lL9,_,mo,l8⟩:=id M
 have l8:=l8 rfl
 have lL:L.length<=10000:=by omega
 have lm:=mo rfl
 obtain⟨kd,ekd⟩ : ∃ kd:Str,kd = "broken":=⟨_,rfl⟩
 rw[<- ekd]
 refine⟨_,(ai (cT (bJ (Ce T) hr (aa 0) (ab (aa 1) (ab (aa 2) ad))))
  (ai (aJ (i:=3) nQ.nd rfl (by first | exact Or.inl rfl | exact Or.inr rfl) (bf (bJ (Cb T) hr (aq (K:=K) rfl (aa 0)) (ab (cU (c9 (K:=K) rfl) (aq (K:=K) rfl (aa 0)) dD (ci (aa 1))) ad)) (bf (bJ (B6 T) hr (aq (K:=K) rfl (aa 0)) (ab (cU (c9 (K:=K) rfl) (aq (K:=K) rfl (aa 0)) dD (ci (aa 1))) ad)) (bJ (B5 T) hr (aq (K:=K) rfl (aa 0)) (ab (cU (c9 (K:=K) rfl) (aq (K:=K) rfl (aa 0)) dD (ci (aa 1))) ad)))))
  (ai (cg (K:=K) rfl (aa 0) (cU (c9 (K:=K) rfl) (aq (K:=K) rfl (aa 0)) (ci (aa 1)) dD))
  (ah (al (gn (fZ (K:=K) rfl (aq (K:=K) rfl (aa 0))) (au (aX (K:=K) rfl) (aa 3) (bG (h_GoingReader_look_at_begun T) hr (aa 0))) (aa 3))))))),?_⟩
 have nbx:b≠x:=bc hb hx (by intro z; cases z)
 have nmx:mt≠x:=bc ft.1 hx (by intro z; cases z)
 refine⟨x,dx,_,rfl,hx,rfl,x,dx,o,b,mt,y,g,c,(r.length - aK D),kd,r,L,rfl,hx,hb,ft,lc,lL,λp H1 k1 np ft1=>?_⟩
 have hx1:=k1 _ _ nmx.symm hx
 have hb1:=k1 _ _ nbm hb
 have s1:af Hb H1:=λa u e=>k1 a u (aH e fm) (sb a u e)
 have wy1:=wy.mono s1
 dsimp only
 have ec:de (r.map V.int) none (some (((r.length - aK D):Nat):Int))=(r.take (r.length - aK D)).map V.int:=by rw[eU,mR]
 have ed:de (r.map V.int) (some (((r.length - aK D):Nat):Int)) none=(r.drop (r.length - aK D)).map V.int:=by rw[eU]; exact congrArg _ (mS r (r.length - aK D))
 have lt:(r.take (r.length - aK D)).length<=1000:=by rw[List.length_take]; omega
 refine dh (λσ' H'=>af H1 H'/\∃ q,H1 q=none/\H' q=some (.lst ((eG W (r.take (r.length - aK D))).map V.int))/\σ'=[some (.ref x),some (.int (((r.length - aK D):Nat):Int)),some (.str kd),some (.ref q)]) (λnx hn=>?_) ?_
 ·have fin : ∀ p2 H2 q H3,aZ H1 p2 (.lst ((r.take (r.length - aK D)).map V.int)) H2->aZ H2 q (.lst ((eG W (r.take (r.length - aK D))).map V.int)) H3->nx [some (.ref x),some (.int (((r.length - aK D):Nat):Int)),some (.str kd),some (.ref q)] H3:=λp2 H2 q H3 g2 g3=>hn _ _ ⟨g2.sm.trans g3.sm,q,g2.sm.free g3.nw,g3.at_,rfl⟩
  cases W with
  | lv =>
   obtain⟨dy,hy⟩:=id wy1
   refine .inl ⟨x,_,dx,_,_,rfl,hx1,T.ar,T.iS,rfl,y,dy,_,rfl,hy,rfl,x,_,dx,_,_,rfl,hx1,T.ar,T.bD,rfl,_,rfl,_,.of hb1,λp2 H2 g2=>?_⟩
   rw[ec]at g2
   exact⟨y,p2,.lv,_,rfl,wy1.mono g2.sm,rfl,g2.lst,lt,λq H3 g3=>fin p2 H2 q H3 g2 g3⟩
  | pt n =>
   obtain⟨dy,hy⟩:=id wy1
   refine .inr (.inl ⟨x,_,dx,_,_,rfl,hx1,T.ar,T.iS,rfl,y,dy,_,rfl,hy,rfl,x,_,dx,_,_,rfl,hx1,T.ar,T.bD,rfl,_,rfl,_,.of hb1,λp2 H2 g2=>?_⟩)
   rw[ec]at g2
   exact⟨y,p2,.pt n,_,rfl,wy1.mono g2.sm,⟨n,rfl⟩,g2.lst,lt,λq H3 g3=>fin p2 H2 q H3 g2 g3⟩
  | se =>
   obtain⟨dy,hy⟩:=id wy1
   refine .inr (.inr ⟨x,_,dx,_,_,rfl,hx1,T.ar,T.iS,rfl,y,dy,_,rfl,hy,rfl,x,_,dx,_,_,rfl,hx1,T.ar,T.bD,rfl,_,rfl,_,.of hb1,λp2 H2 g2=>?_⟩)
   rw[ec]at g2
   exact⟨y,p2,.se,_,rfl,wy1.mono g2.sm,rfl,g2.lst,lt,λq H3 g3=>fin p2 H2 q H3 g2 g3⟩
 rintro σ' H3 ⟨s3,q,nq,hq,rfl⟩
 have hx3:=s3 _ _ hx1
 have hb3:=s3 _ _ hb1
 refine⟨x,_,dx,_,_,rfl,hx3,T.ar,T.bD,rfl,?_⟩
 refine⟨_,rfl,_,.of hb3,λb' H4 g4=>?_⟩
 rw[ed]at g4
 refine⟨x,_,dx,_,rfl,g4.sm _ _ hx3,T.ar,T.bD,Nat.lt_of_lt_of_le (Nat.lt_succ_self 8) (by decide),?_⟩
 have s4:=s1.trans (s3.trans g4.sm)
 have ft4:=ft1.mono (s3.trans g4.sm)
 have hx4:=g4.sm _ _ hx3
 obtain⟨H5,e5⟩ : ∃ H5,H5=upd H4 x (cD t dx o b' mt y g c false):=⟨_,rfl⟩
 have e5':upd H4 x (.ins t.bu dx (ck "begun" (.ref b') [("tongue",.ref o),("place",.int 0),("at_page",.int g),("begun",.ref b),("many",.int (c:Int)),("met",.ref mt),("ended",.bl false),("way",.ref y)]))=H5:=by rw[e5]; rfl
 rw[e5']
 have hx5:H5 x=some (cD t dx o b' mt y g c false):=by rw[e5,aQ]
 have st5 : ∀ a u,a≠x->H4 a=some u->H5 a=some u:=λa u n e=>by rw[e5,aw n]; exact e
 have nbx':b'≠x:=(aH hx3 g4.nw).symm
 have hb5:=st5 _ _ nbx' g4.at_
 have hq4:=g4.sm _ _ hq
 have nqx:q≠x:=bc hq4 hx4 (by intro z; cases z)
 have hq5:=st5 _ _ nqx hq4
 have s5:af Hb H5:=λa u e=>st5 a u (aH e fx) (s4 a u e)
 have ft5:cz H5 mt (L++[(p,c - r.length,(r.length - aK D),kd)]):=⟨st5 _ _ nmx ft4.1,λz hz=>st5 _ _ (bc (ft4.2 z hz) hx4 (by intro z; cases z)) (ft4.2 z hz)⟩
 have fr0 : ∀ a,H1 a=none->H a=none:=λa n=>by
  cases e:H a with
  | none=>rfl
  | some u =>
   by_cases z:a=mt
   ·rw[z,ft1.1]at n; cases n
   ·rw[k1 a u z e]at n; cases n
 have nqb:q≠b':=aH hq g4.nw
 have nq0:=fr0 q nq
 have nb0:=fr0 b' (s3.free g4.nw)
 refine⟨x,_,dx,_,_,rfl,hx5,T.ar,T.bD,rfl,_,.inl (.of hb5),?_⟩
 have u1:1<=aK D/\aK D<=2:=by cases D <;> simp[aK]
 have ldr:(r.drop (r.length - aK D)).length=aK D:=by rw[List.length_drop]; omega
 have cne:((r.drop (r.length - aK D)).map V.int).isEmpty=false:=by
  cases e:r.drop (r.length - aK D) with
  | nil=>rw[e]at ldr; simp at ldr; omega
  | cons a as=>rfl
 refine ak (λ_=>?_) (λz=>absurd (show (!((r.drop (r.length - aK D)).map V.int).isEmpty)=true by rw[cne]; rfl) z)
 have fb':Hb b'=none:=sb.free nb0
 have nbm':b'≠mt:=(aH ft.1 nb0).symm
 have ez:c8 false D g c r=((cN D g c (r.drop (r.length - aK D))).1,(cN D g c (r.drop (r.length - aK D))).2.1,.ft (c - r.length) (r.length - aK D) "broken" (r.take (r.length - aK D)) :: (cN D g c (r.drop (r.length - aK D))).2.2):=by
  unfold c8 gu
  rw[if_neg (by decide),hno]
 rw[ez]at k
 have dd:(r.drop (r.length - aK D)).drop ((r.drop (r.length - aK D)).length - aK D)=r.drop (r.length - aK D):=by rw[ldr,Nat.sub_self,List.drop_zero]
 have sw:af Hb (wo H5 [x,b',mt]):=hZ s5 fx fb' fm
 have nqm:q≠mt:=(aH ft.1 nq0).symm
 have wq:=eB nqx nqb nqm hq5
 have kp5 : ∀ a u,a≠x->a≠mt->H a=some u->H5 a=some u:=λa u n1 n2 e=>st5 _ _ n1 (g4.sm _ _ (s3 _ _ (k1 _ _ n2 e)))
 refine⟨x,dx,_,rfl,hx5,rfl,wo H5 [x,b',mt],x,dx,o,b',mt,y,D,W,g,c,r.drop (r.length - aK D),L++[(p,c - r.length,r.length - aK D,kd)],rfl,⟨tn.mono sw,wy.mono sw,gH,cC (by simp),cC (by simp),cC (by simp),nbm',hx5,hb5,ft5,pg,dl,by rw[dd]; exact dl,by omega,by omega,by omega,by rw[List.length_append]; show _+1<=9000; omega,(λ_=>ldr),(λz=>nomatch z),(λz=>nomatch z)⟩,λq2 b2 ps H6 s6 nq2 fb2 nbm2 nqb2 hx6 hb6 ft6 eps hq6=>?_⟩
 have ezO:c8 true D g c (r.drop (r.length - aK D))=cN D g c (r.drop (r.length - aK D)):=if_pos rfl
 rw[ezO]at hx6 hb6 eps hq6
 have hqq:=s6 _ _ wq
 have bz:(cN D g c (r.drop (r.length - aK D))).2.2.length<=1:=by
  unfold cN
  split <;> simp
 have tlB_len : ∀ bs:List Int,(eG W bs).length<=bs.length+1:=λbs=>by cases W <;> simp[eG]
 have tl6:(aU W (cN D g c (r.drop (r.length - aK D))).2.2).length<=200:=by
  unfold cN
  split
  ·show 1<=200; decide
  ·show 0<=200; decide
  ·show (eG W (r.drop (r.length - aK D))++[]).length<=200
   rw[List.append_nil]
   have:=tlB_len (r.drop (r.length - aK D))
   omega
 have tl5:=tlB_len (r.take (r.length - aK D))
 rw[List.length_take]at tl5
 refine⟨_,_,.of hqq,.of hq6,bB (by rw[List.length_map,List.length_map]; omega),λq3 H7 g7=>?_⟩
 rw[<- List.map_append]at g7
 have nq3:H q3=none:=by
  cases e:H q3 with
  | none=>rfl
  | some u =>
   have n1:q3≠x:=(aH hx6 g7.nw).symm
   have n2:q3≠mt:=(aH ft6.1 g7.nw).symm
   have n3:q3≠b':=aH e nb0
   have:=s6 _ _ (eB n1 n3 n2 (kp5 _ _ n1 n2 e))
   rw[g7.nw]at this; cases this
 refine k q3 b2 ((p,c - r.length,r.length - aK D,kd) :: ps) H7 ((sw.trans s6).trans g7.sm) nq3 (sw.free fb2) nbm2 (aH hb6 g7.nw).symm (g7.sm _ _ hx6) (g7.sm _ _ hb6) ?_ ?_ g7.at_
 ·have:=ft6.mono g7.sm
  rw[List.append_assoc]at this
  exact this
 ·rw[List.map_cons,eps,ekd]
  rfl
theorem Mv (T:Txt w K mg t):bT P w K mg base t.bu "meet_none" 10 t.qZ t.pE ["self"] (zN t false):=by
 have iW:=λ(T:Txt w K mg t)=>Mx (P:=P) (base:=base) T
 refine⟨T.ar,T.mt_GoingReader_meet_none,T.Dq,T.Eo.okQ nP (λvs H Q E h=>by obtain⟨Hb,x,dx,o,b,mt,y,D,W,g,c,r,L,rfl,_⟩:=h; rfl) λcdv A outer s H vs Q E hr h=>?_⟩
 obtain⟨Hb,x,dx,o,b,mt,y,D,W,g,c,r,L,rfl,M,hno,k⟩:=h
 have hu:=hr.units
 refine⟨_,(ai (aJ (i:=1) nP.nd rfl (by first | exact Or.inl rfl | exact Or.inr rfl) (au cv (bi (bA (K:=K) rfl) T.n_len PySem.boot_len (ab (aq (K:=K) rfl (aa 0)) ad)) (bf (bG (oF T) hr (aq (K:=K) rfl (aa 0))) (bf (bG (oK T) hr (aq (K:=K) rfl (aa 0))) (bf (bG (oJ T) hr (aq (K:=K) rfl (aa 0))) (bf (bG (oH T) hr (aq (K:=K) rfl (aa 0))) (bG (oG T) hr (aq (K:=K) rfl (aa 0)))))))))
  (ai (aF (av gy (aa 1) aj (aD _)) (ah (al (bJ (iW T) hr (aa 0) (ab (aa 1) (ab bX ad))))) aG)
  (ah (al (bJ (iW T) hr (aa 0) (ab (bi (bA (K:=K) rfl) T.n_len PySem.boot_len (ab (aq (K:=K) rfl (aa 0)) ad)) (ab bX ad))))))),?_⟩
 have tn:=M.tn.mono M.sb
 refine dh (λσ' H'=>H'=H/\σ'=[some (.ref x),some (.int ((r.length:Int) - (aK D:Int)))]) (λnx hn=>?_) ?_
 ·refine⟨x,_,dx,_,_,rfl,M.hx,T.ar,T.bD,rfl,?_⟩
  refine⟨_,.inl (.of M.hb),?_⟩
  rw[List.length_map]
  cases D with
  | br =>
   obtain⟨dxo,ho⟩:=id tn
   exact .inl ⟨x,_,dx,_,_,rfl,M.hx,T.ar,T.bS,rfl,o,dxo,_,rfl,ho,rfl,_,rfl,hn _ _ ⟨rfl,rfl⟩⟩
  | ld =>
   obtain⟨dxo,ho⟩:=id tn
   exact .inr (.inl ⟨x,_,dx,_,_,rfl,M.hx,T.ar,T.bS,rfl,o,dxo,_,rfl,ho,rfl,_,rfl,hn _ _ ⟨rfl,rfl⟩⟩)
  | pr h =>
   obtain⟨dxo,ho⟩:=id tn
   exact .inr (.inr (.inl ⟨x,_,dx,_,_,rfl,M.hx,T.ar,T.bS,rfl,o,dxo,_,rfl,ho,rfl,_,rfl,hn _ _ ⟨rfl,rfl⟩⟩))
  | sh f ns ms=>exact .inr (.inr (.inr (.inl ⟨x,_,dx,_,_,rfl,M.hx,T.ar,T.bS,rfl,o,f.dx,_,rfl,Tg.o tn,rfl,_,rfl,hn _ _ ⟨rfl,rfl⟩⟩)))
  | tb f es=>exact .inr (.inr (.inr (.inr ⟨x,_,dx,_,_,rfl,M.hx,T.ar,T.bS,rfl,o,f.dx,_,rfl,tn.1.o,rfl,_,rfl,hn _ _ ⟨rfl,rfl⟩⟩)))
 rintro σ' H' ⟨rfl,rfl⟩
 have e:=M.mo rfl
 refine ak (λ_=>?_) (λz=>absurd (decide_eq_true (show (r.length:Int) - (aK D:Int) > 0 by omega)) z)
 have ec:(r.length:Int) - (aK D:Int)=((r.length - aK D:Nat):Int):=by omega
 rw[ec]
 refine⟨x,dx,_,rfl,M.hx,rfl,Hb,x,dx,o,b,mt,y,D,W,g,c,r,L,rfl,M,hno,k⟩
theorem MA (T:Txt w K mg t):bT P w K mg base t.bu "look_at_begun" 11 t.m4 t.mI ["self"] (zO t false):=by
 have h_GoingReader_meet_none:=λ(T:Txt w K mg t)=>Mv (P:=P) (base:=base) T
 refine⟨T.ar,T.mt_GoingReader_look_at_begun,T.xl,T.yR.okQ lW (λvs H Q E h=>by obtain⟨Hb,x,dx,o,b,mt,y,D,W,g,c,r,L,rfl,_⟩:=h; rfl) λcdv A outer s H vs Q E hr h=>?_⟩
 obtain⟨Hb,x,dx,o,b,mt,y,D,W,g,c,r,L,rfl,M,k⟩:=h
 have hu:=hr.units
 refine⟨_,(ai (aJ (i:=1) lW.nd rfl (by first | exact Or.inl rfl | exact Or.inr rfl) (bf (bO (BX T) hr (aq (K:=K) rfl (aa 0)) (ab (aq (K:=K) rfl (aa 0)) (ab (aq (K:=K) rfl (aa 0)) ad))) (bf (bO (Cd T) hr (aq (K:=K) rfl (aa 0)) (ab (aq (K:=K) rfl (aa 0)) (ab (aq (K:=K) rfl (aa 0)) ad))) (bf (bO (Ca T) hr (aq (K:=K) rfl (aa 0)) (ab (aq (K:=K) rfl (aa 0)) (ab (aq (K:=K) rfl (aa 0)) ad))) (bf (bO (B4 T) hr (aq (K:=K) rfl (aa 0)) (ab (aq (K:=K) rfl (aa 0)) (ab (aq (K:=K) rfl (aa 0)) ad))) (bO (BZ T) hr (aq (K:=K) rfl (aa 0)) (ab (aq (K:=K) rfl (aa 0)) (ab (aq (K:=K) rfl (aa 0)) ad))))))))
  (ai (aF (av (bo (K:=K) rfl hu) (aL (aM (K:=K) rfl) (aa 1) aj (λ_ _=>rfl)) bX (aD _)) (ah (al (aS ad))) aG)
  (ai (aF (av (bo (K:=K) rfl hu) (aL (aM (K:=K) rfl) (aa 1) aj (λ_ _=>rfl)) bX (aD _)) (ah (al (bG (h_GoingReader_meet_none T) hr (aa 0)))) aG)
  (ai (cg (K:=K) rfl (aa 0) (aS ad))
  (ai (cg (K:=K) rfl (aa 0) (aL (aM (K:=K) rfl) (aa 1) aj (λ_ _=>rfl)))
  (ah (al (aS (ab (aL (aM (K:=K) rfl) (aa 1) aj (λ_ _=>rfl)) ad))))))))),?_⟩
 have tn:=M.tn.mono M.sb
 refine dh (λσ' H'=>∃ pf,af H H'/\H' pf=some (.tup (mj g (bV D g r)))/\σ'=[some (.ref x),some (.ref pf)]) (λnx hnx=>?_) ?_
 ·have fin : ∃ (o' q':Addr) (D':Kt) (g':Int) (r':List Int),([.ref o,.ref b,.int g]:List V)=[.ref o',.ref q',.int g']/\TN t H o' D'/\bE D' g'/\H q'=some (.lst (r'.map V.int))/\Dm D' g' r'/\∀ p H',af H H'->H' p=some (.tup (mj g' (bV D' g' r')))->nx [some (.ref x),some (.ref p)] H':=⟨o,b,D,g,r,rfl,tn,M.pg,M.hb,M.dm,λp H' s' hp=>hnx _ _ ⟨p,s',hp,rfl⟩⟩
  cases D with
  | br =>
   obtain⟨dxo,ho⟩:=id tn
   exact .inl ⟨x,_,dx,_,_,rfl,M.hx,T.ar,T.bS,rfl,o,dxo,_,rfl,ho,rfl,x,_,dx,_,_,rfl,M.hx,T.ar,T.bD,rfl,x,_,dx,_,_,rfl,M.hx,T.ar,T.fi,rfl,fin⟩
  | ld =>
   obtain⟨dxo,ho⟩:=id tn
   exact .inr (.inl ⟨x,_,dx,_,_,rfl,M.hx,T.ar,T.bS,rfl,o,dxo,_,rfl,ho,rfl,x,_,dx,_,_,rfl,M.hx,T.ar,T.bD,rfl,x,_,dx,_,_,rfl,M.hx,T.ar,T.fi,rfl,fin⟩)
  | pr h =>
   obtain⟨dxo,ho⟩:=id tn
   exact .inr (.inr (.inl ⟨x,_,dx,_,_,rfl,M.hx,T.ar,T.bS,rfl,o,dxo,_,rfl,ho,rfl,x,_,dx,_,_,rfl,M.hx,T.ar,T.bD,rfl,x,_,dx,_,_,rfl,M.hx,T.ar,T.fi,rfl,fin⟩))
  | sh f ns ms =>
   exact .inr (.inr (.inr (.inl ⟨x,_,dx,_,_,rfl,M.hx,T.ar,T.bS,rfl,o,f.dx,_,rfl,Tg.o tn,rfl,x,_,dx,_,_,rfl,M.hx,T.ar,T.bD,rfl,x,_,dx,_,_,rfl,M.hx,T.ar,T.fi,rfl,fin⟩)))
  | tb f es =>
   exact .inr (.inr (.inr (.inr ⟨x,_,dx,_,_,rfl,M.hx,T.ar,T.bS,rfl,o,f.dx,_,rfl,tn.1.o,rfl,x,_,dx,_,_,rfl,M.hx,T.ar,T.bD,rfl,x,_,dx,_,_,rfl,M.hx,T.ar,T.fi,rfl,fin⟩)))
 ·rintro σ' H1 ⟨pf,s1,hp,rfl⟩
  cases e:bV D g r with
  | sg n g' =>
   rw[e]at hp
   have ez:c8 false D g c r=(g',[],[.sg n]):=by
    simp only [c8,cN,gu,e,ite_self]
   rw[ez]at k
   refine⟨_,_,.inr (.of hp),aV (j:=0) rfl,?_⟩
   refine⟨_,_,ap.str _,ap.str _,aA n6,aA ie,?_⟩
   refine ak (λz=>absurd (show PyData.eqv (.str "sign") (.str "more")=true from z) (by decide +kernel)) (λ_=>?_)
   refine⟨_,_,.inr (.of hp),aV (j:=0) rfl,?_⟩
   refine⟨_,_,ap.str _,ap.str _,aA n6,aA ic,?_⟩
   refine ak (λz=>absurd (show PyData.eqv (.str "sign") (.str "none")=true from z) (by decide +kernel)) (λ_=>?_)
   refine⟨sz rfl,λb' H2 g2=>?_⟩
   have s2:=s1.trans g2.sm
   have hx2:=s2 _ _ M.hx
   have hp2:=g2.sm _ _ hp
   have nb:H b'=none:=s1.free g2.nw
   have npx:pf≠x:=bc hp2 hx2 (by intro z; cases z)
   have nbx:b'≠x:=(aH M.hx nb).symm
   refine⟨x,_,dx,_,rfl,hx2,T.ar,T.bD,Nat.lt_of_lt_of_le (Nat.lt_succ_self 8) (by decide),?_⟩
   refine⟨_,_,.inr (.of (by rw[aw npx]; exact hp2)),aV (j:=2) rfl,?_⟩
   refine⟨x,_,dx,_,rfl,aQ,T.ar,T.fi,Nat.lt_of_lt_of_le (Nat.lt_succ_self 8) (by decide),?_⟩
   refine⟨_,_,.inr (.of (by rw[aw npx,aw npx]; exact hp2)),aV (j:=1) rfl,?_⟩
   refine⟨sz rfl,λq H3 g3=>?_⟩
   have kp:Kp x H H3:=Kp.trans (Kp.trans (Kp.of s2) (Kp.trans Kp.upd Kp.upd)) (Kp.of g3.sm)
   have nq:H q=none:=Kp.free (x:=x) (Kp.trans (Kp.of s2) (Kp.trans Kp.upd Kp.upd)) aQ g3.nw
   have hb3:=g3.sm b' _ (by rw[aw nbx,aw nbx]; exact g2.at_)
   refine k q b' [] H3 (λa u e=>kp _ _ (aH e M.fx) (M.sb _ _ e)) nq (M.sb.free nb) (aH M.ft.1 nb).symm (aH (by rw[aw nbx,aw nbx]; exact g2.at_) g3.nw).symm (g3.sm x _ (by rw[aQ]; rfl)) hb3 ?_ rfl g3.at_
   rw[List.append_nil]
   exact⟨kp _ _ (bc M.ft.1 M.hx (by intro z; cases z)) M.ft.1,λz hz=>kp _ _ (bc (M.ft.2 z hz) M.hx (by intro z; cases z)) (M.ft.2 z hz)⟩
  | mo =>
   rw[e]at hp
   have ez:c8 false D g c r=(g,r,[]):=by
    simp only [c8,cN,gu,e,ite_self]
   rw[ez]at k
   refine⟨_,_,.inr (.of hp),aV (j:=0) rfl,?_⟩
   refine⟨_,_,ap.str _,ap.str _,aA ie,aA ie,?_⟩
   refine ak (λ_=>?_) (λz=>absurd (show PyData.eqv (.str "more") (.str "more")=true by decide +kernel) z)
   refine⟨sz rfl,λq H2 g2=>?_⟩
   have s2:=s1.trans g2.sm
   have nq:=s1.free g2.nw
   exact k q b [] H2 (M.sb.trans s2) nq M.fb M.nbm (aH M.hb nq).symm (s2 _ _ M.hx) (s2 _ _ M.hb) (by rw[List.append_nil]; exact M.ft.mono s2) rfl g2.at_
  | no =>
   rw[e]at hp
   refine⟨_,_,.inr (.of hp),aV (j:=0) rfl,?_⟩
   refine⟨_,_,ap.str _,ap.str _,aA ic,aA ie,?_⟩
   refine ak (λz=>absurd (show PyData.eqv (.str "none") (.str "more")=true from z) (by decide +kernel)) (λ_=>?_)
   refine⟨_,_,.inr (.of hp),aV (j:=0) rfl,?_⟩
   refine⟨_,_,ap.str _,ap.str _,aA ic,aA ic,?_⟩
   refine ak (λ_=>?_) (λz=>absurd (show PyData.eqv (.str "none") (.str "none")=true by decide +kernel) z)
   refine⟨x,dx,_,rfl,s1 _ _ M.hx,rfl,Hb,x,dx,o,b,mt,y,D,W,g,c,r,L,rfl,{ M with sb:=M.sb.trans s1,hx:=s1 _ _ M.hx,hb:=s1 _ _ M.hb,ft:=M.ft.mono s1 },e,λq b' ps H' a1 a2=>k q b' ps H' a1 (s1.free a2)⟩
structure yM (t:Adr) (Hb H:Hp) (x dx o b mt y:Addr) (D:Kt) (W:Wy) (g:Int) (c:Nat) (r:List Int) (L:FL):Prop where
 tn:TN t Hb o D
 wy:hU t Hb y W
 sb:af Hb H
 fx:Hb x=none
 fb:Hb b=none
 fm:Hb mt=none
 nbm:b≠mt
 hx:H x=some (cD t dx o b mt y g c false)
 hb:H b=some (.lst (r.map V.int))
 ft:cz H mt L
 pg:bE D g
 bg:cS D g r
 lc:r.length<=c
def Fn(t:Adr):Sp:=λvs H Q _=>∃ (Hb:Hp) (x dx o b mt y:Addr) (D:Kt) (W:Wy) (g:Int) (c:Nat) (r:List Int) (L:FL) (v:Int),vs=[.ref x,.int v]/\yM t Hb H x dx o b mt y D W g c r L/\0<=v/\v<=255/\L.length<=8999/\m9 t Hb H x dx o mt y D W (c+1) L (bU D g r (c+1) v) Q
theorem MY (T:Txt w K mg t):bT P w K mg base t.bu "take" 12 t.yo t.uI ["self", "byte"] (Fn t):=by
 refine⟨T.ar,T.mt_GoingReader_take,T.QK,T.RI.okQ G5 (λvs H Q E h=>by obtain⟨Hb,x,dx,o,b,mt,y,D,W,g,c,r,L,v,rfl,_⟩:=h; rfl) λcdv A outer s H vs Q E hr h=>?_⟩
 obtain⟨Hb,x,dx,o,b,mt,y,D,W,g,c,r,L,v,rfl,⟨tn,wy,sb,fx,fb,fm,nbm,hx,hb,ft,pg,bg,lc⟩,v0,v1,lL,k⟩:=h
 have hu:=hr.units
 have l6:=(bg.byts pg).2
 have ln:(r++[v]).length=r.length+1:=by rw[List.length_append]; rfl
 have nbx:b≠x:=bc hb hx (by intro z; cases z)
 by_cases one:(r++[v]).length=aK D
 ·have h_GoingReader_look_at_begun:=λ(T:Txt w K mg t)=>BR (P:=P) (base:=base) T
  refine⟨_,(ai (cT (dQ (K:=K) rfl PySem.F.plainAttrs_list PySem.F.slot_list_append PySem.F.type_list_append gq (aq (K:=K) rfl (aa 0)) (ab (aa 1) ad)))
   (ai (AK (K:=K) rfl (aa 0) aj)
   (ai (aF (av (gx (K:=K) rfl hu) (au oR (bi (bA (K:=K) rfl) T.n_len PySem.boot_len (ab (aq (K:=K) rfl (aa 0)) ad)) (bf (bG (oF T) hr (aq (K:=K) rfl (aa 0))) (bf (bG (oK T) hr (aq (K:=K) rfl (aa 0))) (bf (bG (oJ T) hr (aq (K:=K) rfl (aa 0))) (bf (bG (oH T) hr (aq (K:=K) rfl (aa 0))) (bG (oG T) hr (aq (K:=K) rfl (aa 0)))))))) aj (aD _)) (ah (al (aS ad))) aG)
   (ah (al (bG (h_GoingReader_look_at_begun T) hr (aa 0))))))),?_⟩
  refine⟨x,_,dx,_,_,rfl,hx,T.ar,T.bD,rfl,?_⟩
  refine⟨.inl ⟨rfl,_,.of hb⟩,?_⟩
  refine⟨_,hb,dP (by rw[List.length_map]; omega),?_⟩
  obtain⟨H1,e1⟩ : ∃ H1,H1=upd H b (.lst (r.map V.int++[.int v])):=⟨_,rfl⟩
  rw[<- e1]
  have hb1:H1 b=some (.lst ((r++[v]).map V.int)):=by rw[e1,aQ,List.map_append]; rfl
  have hx1:H1 x=some (cD t dx o b mt y g c false):=by rw[e1,aw nbx.symm]; exact hx
  refine⟨x,_,dx,_,_,rfl,hx1,T.ar,T.oj,rfl,_,_,rfl,rfl,dx,_,hx1,Nat.lt_of_lt_of_le (Nat.lt_succ_self 8) (by decide),?_⟩
  obtain⟨H2,e2⟩ : ∃ H2,H2=upd H1 x (cD t dx o b mt y g (c+1) false):=⟨_,rfl⟩
  have e2':upd H1 x (.ins t.bu dx (ck "many" (.int ((c:Int)+1)) [("tongue",.ref o),("place",.int 0),("at_page",.int g),("begun",.ref b),("many",.int (c:Int)),("met",.ref mt),("ended",.bl false),("way",.ref y)]))=H2:=by rw[e2]; rfl
  rw[e2']
  have hx2:H2 x=some (cD t dx o b mt y g (c+1) false):=by rw[e2]; exact aQ
  have hb2:H2 b=some (.lst ((r++[v]).map V.int)):=by rw[e2,aw nbx]; exact hb1
  have sb2:af Hb H2:=by rw[e2,e1]; exact (sb.put fb).put fx
  have k2 : ∀ a u,a≠x->a≠b->H a=some u->H2 a=some u:=λa u na nb e=>by rw[e2,aw na,e1,aw nb]; exact e
  have ft2:cz H2 mt L:=ft.keep k2 hx hb nbm.symm
  have tn2:=tn.mono sb2
  have nq2 : ∀ q,H2 q=none->H q=none:=λq nq=>by
   cases e:H q with
   | none=>rfl
   | some u =>
    have:=k2 q u (λz=>by rw[z,hx2]at nq; cases nq) (λz=>by rw[z,hb2]at nq; cases nq) e
    rw[nq]at this; cases this
  dsimp only
  refine dh (λσ' H'=>H'=H2/\(r++[v]).length%aK D=0/\σ'=[some (.ref x),some (.int v)]) (λnx hnx=>?_) ?_
  ·have out : ¬ (r++[v]).length%aK D=0->∀ q H3,aZ H2 q (.lst []) H3->Q (.ref q) H3:=λnev q H3 g3=>by
    have ez:bU D g r (c+1) v=(g,r++[v],[]):=by unfold bU; rw[if_neg nev]
    rw[ez]at k
    have nq:=nq2 q g3.nw
    exact k q b [] H3 (sb2.trans g3.sm) nq fb nbm (aH hb nq).symm (g3.sm _ _ hx2) (g3.sm _ _ hb2) (by rw[List.append_nil]; exact ft2.mono g3.sm) rfl g3.at_
   refine⟨x,_,dx,_,_,rfl,hx2,T.ar,T.bD,rfl,?_⟩
   refine⟨_,.inl (.of hb2),?_⟩
   rw[List.length_map]
   cases D with
   | br =>
    obtain⟨dxo,ho⟩:=id tn2
    refine .inl ⟨x,_,dx,_,_,rfl,hx2,T.ar,T.bS,rfl,o,dxo,_,rfl,ho,rfl,_,rfl,Int.zero_lt_one,?_⟩
    exact ak (λz=>absurd z (by simp)) (λ_=>hnx _ _ ⟨rfl,Nat.mod_one _,rfl⟩)
   | ld =>
    obtain⟨dxo,ho⟩:=id tn2
    refine .inr (.inl ⟨x,_,dx,_,_,rfl,hx2,T.ar,T.bS,rfl,o,dxo,_,rfl,ho,rfl,_,rfl,Int.zero_lt_one,?_⟩)
    exact ak (λz=>absurd z (by simp)) (λ_=>hnx _ _ ⟨rfl,Nat.mod_one _,rfl⟩)
   | pr h =>
    obtain⟨dxo,ho⟩:=id tn2
    refine .inr (.inr (.inl ⟨x,_,dx,_,_,rfl,hx2,T.ar,T.bS,rfl,o,dxo,_,rfl,ho,rfl,_,rfl,(show (0:Int) < 2 by decide),?_⟩))
    refine ak (λz=>?_) (λz=>?_)
    ·have z:(!decide ((((r++[v]).length:Nat):Int)%2=0))=true:=z
     refine⟨sz rfl,out (λy=>?_)⟩
     have y:(r++[v]).length%2=0:=y
     rw[decide_eq_true (by omega)]at z
     cases z
    ·refine hnx _ _ ⟨rfl,?_,rfl⟩
     have z : ¬ (!decide ((((r++[v]).length:Nat):Int)%2=0))=true:=z
     show (r++[v]).length%2=0
     rcases Nat.mod_two_eq_zero_or_one (r++[v]).length with y | y
     ·exact y
     ·exact absurd (by rw[decide_eq_false (by omega)]; rfl) z
   | sh f ns ms =>
    refine .inr (.inr (.inr (.inl ⟨x,_,dx,_,_,rfl,hx2,T.ar,T.bS,rfl,o,f.dx,_,rfl,Tg.o tn2,rfl,_,rfl,Int.zero_lt_one,?_⟩)))
    exact ak (λz=>absurd z (by simp)) (λ_=>hnx _ _ ⟨rfl,Nat.mod_one _,rfl⟩)
   | tb f es =>
    refine .inr (.inr (.inr (.inr ⟨x,_,dx,_,_,rfl,hx2,T.ar,T.bS,rfl,o,f.dx,_,rfl,tn2.1.o,rfl,_,rfl,Int.zero_lt_one,?_⟩)))
    exact ak (λz=>absurd z (by simp)) (λ_=>hnx _ _ ⟨rfl,Nat.mod_one _,rfl⟩)
  rintro σ' H' ⟨rfl,ev,rfl⟩
  have lu:aK D<=(r++[v]).length:=by
   rcases Nat.lt_or_ge (r++[v]).length (aK D) with z | z
   ·rw[Nat.mod_eq_of_lt z]at ev; omega
   ·exact z
  have ez:bU D g r (c+1) v=c8 true D g (c+1) (r++[v]):=by
   unfold bU c8
   rw[if_pos ev]
   rw[if_pos one,if_pos rfl]
  rw[ez]at k
  exact⟨x,dx,_,rfl,hx2,rfl,Hb,x,dx,o,b,mt,y,D,W,g,c+1,r++[v],L,rfl,⟨tn,wy,sb2,fx,fb,fm,nbm,hx2,hb2,ft2,pg,uT bg v0 v1,uU bg v0 v1,by omega,by omega,lu,by omega,(λ_=>one),(λz=>nomatch z),λ_=>lL⟩,λq b' ps H' a1 a2=>k q b' ps H' a1 (nq2 q a2)⟩
 ·have h_GoingReader_look_at_begun:=λ(T:Txt w K mg t)=>MA (P:=P) (base:=base) T
  refine⟨_,(ai (cT (dQ (K:=K) rfl PySem.F.plainAttrs_list PySem.F.slot_list_append PySem.F.type_list_append gq (aq (K:=K) rfl (aa 0)) (ab (aa 1) ad)))
   (ai (AK (K:=K) rfl (aa 0) aj)
   (ai (aF (av (gx (K:=K) rfl hu) (au oR (bi (bA (K:=K) rfl) T.n_len PySem.boot_len (ab (aq (K:=K) rfl (aa 0)) ad)) (bf (bG (oF T) hr (aq (K:=K) rfl (aa 0))) (bf (bG (oK T) hr (aq (K:=K) rfl (aa 0))) (bf (bG (oJ T) hr (aq (K:=K) rfl (aa 0))) (bf (bG (oH T) hr (aq (K:=K) rfl (aa 0))) (bG (oG T) hr (aq (K:=K) rfl (aa 0)))))))) aj (aD _)) (ah (al (aS ad))) aG)
   (ah (al (bG (h_GoingReader_look_at_begun T) hr (aa 0))))))),?_⟩
  refine⟨x,_,dx,_,_,rfl,hx,T.ar,T.bD,rfl,?_⟩
  refine⟨.inl ⟨rfl,_,.of hb⟩,?_⟩
  refine⟨_,hb,dP (by rw[List.length_map]; omega),?_⟩
  obtain⟨H1,e1⟩ : ∃ H1,H1=upd H b (.lst (r.map V.int++[.int v])):=⟨_,rfl⟩
  rw[<- e1]
  have hb1:H1 b=some (.lst ((r++[v]).map V.int)):=by rw[e1,aQ,List.map_append]; rfl
  have hx1:H1 x=some (cD t dx o b mt y g c false):=by rw[e1,aw nbx.symm]; exact hx
  refine⟨x,_,dx,_,_,rfl,hx1,T.ar,T.oj,rfl,_,_,rfl,rfl,dx,_,hx1,Nat.lt_of_lt_of_le (Nat.lt_succ_self 8) (by decide),?_⟩
  obtain⟨H2,e2⟩ : ∃ H2,H2=upd H1 x (cD t dx o b mt y g (c+1) false):=⟨_,rfl⟩
  have e2':upd H1 x (.ins t.bu dx (ck "many" (.int ((c:Int)+1)) [("tongue",.ref o),("place",.int 0),("at_page",.int g),("begun",.ref b),("many",.int (c:Int)),("met",.ref mt),("ended",.bl false),("way",.ref y)]))=H2:=by rw[e2]; rfl
  rw[e2']
  have hx2:H2 x=some (cD t dx o b mt y g (c+1) false):=by rw[e2]; exact aQ
  have hb2:H2 b=some (.lst ((r++[v]).map V.int)):=by rw[e2,aw nbx]; exact hb1
  have sb2:af Hb H2:=by rw[e2,e1]; exact (sb.put fb).put fx
  have k2 : ∀ a u,a≠x->a≠b->H a=some u->H2 a=some u:=λa u na nb e=>by rw[e2,aw na,e1,aw nb]; exact e
  have ft2:cz H2 mt L:=ft.keep k2 hx hb nbm.symm
  have tn2:=tn.mono sb2
  have nq2 : ∀ q,H2 q=none->H q=none:=λq nq=>by
   cases e:H q with
   | none=>rfl
   | some u =>
    have:=k2 q u (λz=>by rw[z,hx2]at nq; cases nq) (λz=>by rw[z,hb2]at nq; cases nq) e
    rw[nq]at this; cases this
  dsimp only
  refine dh (λσ' H'=>H'=H2/\(r++[v]).length%aK D=0/\σ'=[some (.ref x),some (.int v)]) (λnx hnx=>?_) ?_
  ·have out : ¬ (r++[v]).length%aK D=0->∀ q H3,aZ H2 q (.lst []) H3->Q (.ref q) H3:=λnev q H3 g3=>by
    have ez:bU D g r (c+1) v=(g,r++[v],[]):=by unfold bU; rw[if_neg nev]
    rw[ez]at k
    have nq:=nq2 q g3.nw
    exact k q b [] H3 (sb2.trans g3.sm) nq fb nbm (aH hb nq).symm (g3.sm _ _ hx2) (g3.sm _ _ hb2) (by rw[List.append_nil]; exact ft2.mono g3.sm) rfl g3.at_
   refine⟨x,_,dx,_,_,rfl,hx2,T.ar,T.bD,rfl,?_⟩
   refine⟨_,.inl (.of hb2),?_⟩
   rw[List.length_map]
   cases D with
   | br =>
    obtain⟨dxo,ho⟩:=id tn2
    refine .inl ⟨x,_,dx,_,_,rfl,hx2,T.ar,T.bS,rfl,o,dxo,_,rfl,ho,rfl,_,rfl,Int.zero_lt_one,?_⟩
    exact ak (λz=>absurd z (by simp)) (λ_=>hnx _ _ ⟨rfl,Nat.mod_one _,rfl⟩)
   | ld =>
    obtain⟨dxo,ho⟩:=id tn2
    refine .inr (.inl ⟨x,_,dx,_,_,rfl,hx2,T.ar,T.bS,rfl,o,dxo,_,rfl,ho,rfl,_,rfl,Int.zero_lt_one,?_⟩)
    exact ak (λz=>absurd z (by simp)) (λ_=>hnx _ _ ⟨rfl,Nat.mod_one _,rfl⟩)
   | pr h =>
    obtain⟨dxo,ho⟩:=id tn2
    refine .inr (.inr (.inl ⟨x,_,dx,_,_,rfl,hx2,T.ar,T.bS,rfl,o,dxo,_,rfl,ho,rfl,_,rfl,(show (0:Int) < 2 by decide),?_⟩))
    refine ak (λz=>?_) (λz=>?_)
    ·have z:(!decide ((((r++[v]).length:Nat):Int)%2=0))=true:=z
     refine⟨sz rfl,out (λy=>?_)⟩
     have y:(r++[v]).length%2=0:=y
     rw[decide_eq_true (by omega)]at z
     cases z
    ·refine hnx _ _ ⟨rfl,?_,rfl⟩
     have z : ¬ (!decide ((((r++[v]).length:Nat):Int)%2=0))=true:=z
     show (r++[v]).length%2=0
     rcases Nat.mod_two_eq_zero_or_one (r++[v]).length with y | y
     ·exact y
     ·exact absurd (by rw[decide_eq_false (by omega)]; rfl) z
   | sh f ns ms =>
    refine .inr (.inr (.inr (.inl ⟨x,_,dx,_,_,rfl,hx2,T.ar,T.bS,rfl,o,f.dx,_,rfl,Tg.o tn2,rfl,_,rfl,Int.zero_lt_one,?_⟩)))
    exact ak (λz=>absurd z (by simp)) (λ_=>hnx _ _ ⟨rfl,Nat.mod_one _,rfl⟩)
   | tb f es =>
    refine .inr (.inr (.inr (.inr ⟨x,_,dx,_,_,rfl,hx2,T.ar,T.bS,rfl,o,f.dx,_,rfl,tn2.1.o,rfl,_,rfl,Int.zero_lt_one,?_⟩)))
    exact ak (λz=>absurd z (by simp)) (λ_=>hnx _ _ ⟨rfl,Nat.mod_one _,rfl⟩)
  rintro σ' H' ⟨rfl,ev,rfl⟩
  have lu:aK D<=(r++[v]).length:=by
   rcases Nat.lt_or_ge (r++[v]).length (aK D) with z | z
   ·rw[Nat.mod_eq_of_lt z]at ev; omega
   ·exact z
  have ez:bU D g r (c+1) v=c8 false D g (c+1) (r++[v]):=by
   unfold bU c8
   rw[if_pos ev]
   rw[if_neg one,if_neg (by decide)]
  rw[ez]at k
  exact⟨x,dx,_,rfl,hx2,rfl,Hb,x,dx,o,b,mt,y,D,W,g,c+1,r++[v],L,rfl,⟨tn,wy,sb2,fx,fb,fm,nbm,hx2,hb2,ft2,pg,uT bg v0 v1,uU bg v0 v1,by omega,by omega,lu,by omega,(λz=>nomatch z),(λ_=>by omega),λ_=>lL⟩,λq b' ps H' a1 a2=>k q b' ps H' a1 (nq2 q a2)⟩
theorem zC{D:Kt}{g n:Int}(tn:rn D)(pg:bE D g)(hn:fQ D n):1<=(dY D g n).1.length:=by
 cases D with
 | ld=>exact (Av n).1
 | pr h=>show 1<=(d8 h n).length; rw[IE]; split <;> omega
 | sh f ns ms =>
  obtain⟨r,g',e,_,hr⟩:=zD pg hn
  rw[zB e]
  rcases hr with ⟨b,rfl,_⟩ | ⟨c,rfl,_⟩
  ·show 1<=1; decide
  ·show 1<=2; decide
 | tb f es =>
  obtain⟨e,he,_,ef⟩:=ly hn
  have es':dY (.tb f es) g n=(e.2,g):=by
   show (Option.map _ _).getD _=_
   rw[ef]; rfl
  rw[es']
  exact (Es.sg tn e he).2.1
 | br=>exact hn.elim
def fz(D:Kt)(x:Int):Prop:=(61184<=x/\x<=61439)\/fQ D x
theorem rU{D:Kt}{g x:Int}(ok:dq D)(pg:bE D g)(h:fz D x):bE D (cH D g x).2/\1<=(cH D g x).1.length/\(cH D g x).1.length<=6:=by
 unfold cH
 by_cases c:61184<=x/\x<=61439
 ·rw[if_pos c]; exact⟨pg,by show 1<=1; decide,by show 1<=6; decide⟩
 ·rw[if_neg c]
  have h:=h.resolve_left c
  obtain⟨r,g',_,ef,p,l⟩:=rQ ok.kok pg h
  have z:=zC ok.kok pg h
  rw[ef]at z ⊢
  exact⟨p,z,l⟩
theorem nz{D:Kt}(ok:dq D) : ∀ (xs:List Int) (g:Int),bE D g->(∀ x∈xs,fz D x)->bE D (aY D g xs).2/\xs.length<=(aY D g xs).1.length
 | [],g,pg,_=>⟨pg,Nat.le_refl _⟩
 | x :: xs,g,pg,h=>by
  have e:aY D g (x :: xs)=aY D g ([x]++xs):=rfl
  obtain⟨a,b,_⟩:=rU ok pg (h x (List.mem_cons_self ..))
  obtain⟨c,d⟩:=nz ok xs _ a λy hy=>h y (List.mem_cons_of_mem _ hy)
  rw[e,gG,ny]
  exact⟨c,by rw[List.length_cons,List.length_append]; omega⟩
theorem rK{D:Kt}{es:List Ev}(h : ∀ e∈es,ja D e) : ∀ x∈aU .se es,fz D x:=λx hx=>by
 obtain⟨e,he,hx⟩:=List.mem_flatMap.mp hx
 have o:=h e he
 cases e with
 | sg n=>rw[List.mem_singleton.mp hx]; exact .inr o
 | ft p l k bs =>
  obtain⟨b,hb,rfl⟩:=List.mem_map.mp hx
  have:=o.1 b hb
  exact .inl (by omega)
theorem nG(W:Wy) : ∀ es:List Ev,(aU W es).length<=(aU .se es).length+es.length
 | []=>Nat.le_refl _
 | e :: es=>by
  have ih:=nG W es
  have h1:(gK W e).length<=(gK .se e).length+1:=by
   cases e with
   | sg n=>show 1<=1+1; decide
   | ft p l k bs=>cases W <;> simp[gK,eG]
  show (gK W e++aU W es).length<=(gK .se e++aU .se es).length+(es.length+1)
  rw[List.length_append,List.length_append]
  omega
theorem sk{D:Kt}(ok:dq D)(W:Wy){bs:List Int}{g:Int}{r:List Int}(c:Nat)(pg:bE D g)(bg:cS D g r)(hb:bq bs):(aU W (run D g r c bs).2.2).length<=r.length+3*bs.length:=by
 obtain⟨_,_,h3,_,h5,h6⟩:=gX ok bs g r c pg bg hb
 have a:=nG W (run D g r c bs).2.2
 have b:=(nz ok _ g pg (rK h5)).2
 have e:=congrArg List.length h3
 rw[List.length_append,List.length_append]at e
 omega
theorem lj : ∀ es:List Ev,(fts es).length<=es.length
 | []=>Nat.le_refl _
 | .sg n :: es=>Nat.le_succ_of_le (lj es)
 | .ft p l k bs :: es=>Nat.succ_le_succ (lj es)
def FZ(K:PySem.W.Frag)(t:Adr):Sp:=λvs H Q _=>∃ (Hb:Hp) (x dx o b mt y a:Addr) (D:Kt) (W:Wy) (g:Int) (c:Nat) (r:List Int) (L:FL) (ws:List Int),vs=[.ref x,.ref a]/\yM t Hb H x dx o b mt y D W g c r L/\aE K Hb a (ws.map V.int)/\bq ws/\ws.length<=1000/\L.length<=4000/\m9 t Hb H x dx o mt y D W (c+ws.length) L (run D g r c ws) Q
theorem oM (T:Txt w K mg t):bT P w K mg base t.bu "feed" 13 t.yr t.uK ["self", "row"] (FZ K t):=by
 refine⟨T.ar,T.mt_GoingReader_feed,T.QN,T.RK.okQ sf (λvs H Q E h=>by obtain⟨Hb,x,dx,o,b,mt,y,a,D,W,g,c,r,L,ws,rfl,_⟩:=h; rfl) λcdv A outer s H vs Q E hr h=>?_⟩
 obtain⟨Hb,x,dx,o,b0,mt,y,a,D,W,g,c,r,L,ws,rfl,⟨tn,wy,sb,fx,fb0,fm,nbm0,hx,hb0,ft,pg,bg,lc⟩,ha,hws,lw,lL,k⟩:=h
 have hu:=hr.units
 have ok:=tn.koS
 have l6:=(bg.byts pg).2
 refine⟨_,(ai (aJ (i:=2) sf.nd rfl (by first | exact Or.inl rfl | exact Or.inr rfl) (aS ad))
  (ai (aF (fZ (K:=K) rfl (aq (K:=K) rfl (aa 0))) (ah (al (aa 2))) aG)
  (ai (dw PassesOwn.never rfl (dz (K:=K) rfl (aa 1)) (ba (i:=3) sf.nd rfl (by first | exact Or.inl rfl | exact Or.inr rfl)) (ai (cT (dQ (K:=K) rfl PySem.F.plainAttrs_list PySem.F.slot_list_extend PySem.F.type_list_extend (sE (K:=K) rfl) (aa 2) (ab (bJ (MY T) hr (aa 0) (ab (aa 3) ad)) ad)))
  (ah (aF (fZ (K:=K) rfl (aq (K:=K) rfl (aa 0))) (ah HL) aG))))
  (ah (al (aa 2)))))),?_⟩
 refine⟨sz rfl,λq H1 g1=>?_⟩
 have s1:=sb.trans g1.sm
 have fq:Hb q=none:=sb.free g1.nw
 have hx1:=g1.sm _ _ hx
 have nqm:q≠mt:=(aH ft.1 g1.nw).symm
 have nqx:q≠x:=(aH hx g1.nw).symm
 refine⟨x,_,dx,_,_,rfl,hx1,T.ar,T.me,rfl,?_⟩
 refine⟨a,rfl,⟨_,s1.seq ha⟩,iY (K:=K) (a:=a) (xs:=ws.map V.int) (λi σ H'=>af Hb H'/\∃ (b:Addr) (ps:FL) (v3:Option V),Hb b=none/\q≠b/\b≠mt/\H' x=some (cD t dx o b mt y (run D g r c (ws.take i)).1 (c+i) false)/\H' b=some (.lst ((run D g r c (ws.take i)).2.1.map V.int))/\cz H' mt (L++ps)/\ps.map (λx=>x.2)=fts (run D g r c (ws.take i)).2.2/\H' q=some (.lst ((aU W (run D g r c (ws.take i)).2.2).map V.int))/\σ=[some (.ref x),some (.ref a),some (.ref q),v3])
  ⟨s1,b0,[],_,fb0,(aH hb0 g1.nw).symm,nbm0,hx1,g1.sm _ _ hb0,by rw[List.append_nil]; exact ft.mono g1.sm,rfl,g1.at_,rfl⟩ (λi σ H' _ z=>z.1.seq ha) ?_ ?_⟩
 ·rintro i v σ H3 hv ⟨s3,b,ps,v3,fb,nqb,nbm,hx3,hb3,ft3,eps,hq3,rfl⟩
  obtain⟨by',hby,rfl⟩:=dn hv
  have hi:i < ws.length:=(List.getElem?_eq_some_iff.mp hby).1
  have hv01:=hws by' (List.mem_of_getElem? hby)
  have htk:bq (ws.take i):=λz hz=>hws z (List.mem_of_mem_take hz)
  obtain⟨pg3,bg3,acc3,_,ev3,le3⟩:=gX ok (ws.take i) g r c pg bg htk
  have rl:=sk ok W (r:=r) c pg bg htk
  have lti:(ws.take i).length=i:=by rw[List.length_take]; omega
  have nxt:run D g r c (ws.take (i+1))=((bU D (run D g r c (ws.take i)).1 (run D g r c (ws.take i)).2.1 (c+i+1) by').1,(bU D (run D g r c (ws.take i)).1 (run D g r c (ws.take i)).2.1 (c+i+1) by').2.1,(run D g r c (ws.take i)).2.2++(bU D (run D g r c (ws.take i)).1 (run D g r c (ws.take i)).2.1 (c+i+1) by').2.2):=by
   rw[ff hby,At,lti]
  have lc3:(run D g r c (ws.take i)).2.1.length<=c+i:=by
   have:=congrArg List.length acc3
   rw[List.length_append,List.length_append,lti]at this
   omega
  have lps:ps.length<=2*i:=by
   have:=congrArg List.length eps
   rw[List.length_map]at this
   have:=lj (run D g r c (ws.take i)).2.2
   omega
  obtain⟨gd1,gd2,gd3,gd4,gd5,gd6⟩:=Cg (c+i+1) ok pg3 bg3 hv01.1 hv01.2
  have lst4:(aU W (bU D (run D g r c (ws.take i)).1 (run D g r c (ws.take i)).2.1 (c+i+1) by').2.2).length<=20:=by
   have a1:=nG W (bU D (run D g r c (ws.take i)).1 (run D g r c (ws.take i)).2.1 (c+i+1) by').2.2
   have a2:=(nz ok _ _ pg3 (rK gd5)).2
   have a3:=congrArg List.length gd3
   have a4:=(bg3.byts pg3).2
   rw[List.length_append,List.length_append]at a3
   simp at a3
   omega
  have sw:af Hb (wo H3 [x,b,mt]):=hZ s3 fx fb fm
  refine⟨.inl ⟨rfl,_,.of hq3⟩,?_⟩
  refine⟨x,dx,_,rfl,hx3,rfl,wo H3 [x,b,mt],x,dx,o,b,mt,y,D,W,_,c+i,_,L++ps,by',rfl,⟨tn.mono sw,wy.mono sw,gH,cC (by simp),cC (by simp),cC (by simp),nbm,hx3,hb3,ft3,pg3,bg3,lc3⟩,hv01.1,hv01.2,by rw[List.length_append]; omega,λq2 b2 ps2 H4 s4 nq2 fb2 nbm2 nqb2 hx4 hb4 ft4 eps2 hq4=>?_⟩
  have hqq:=s4 _ _ (eB nqx nqb nqm hq3)
  refine⟨_,_,hqq,hq4,bB (by rw[List.length_map,List.length_map]; omega),?_⟩
  have nqx':x≠q:=nqx.symm
  have nqb2':b2≠q:=λz=>by
   have:=eB (H:=H3) nqx nqb nqm hq3
   rw[z]at fb2
   rw[fb2]at this; cases this
  have hx5:upd H4 q (.lst ((aU W (run D g r c (ws.take i)).2.2).map V.int++(aU W (bU D (run D g r c (ws.take i)).1 (run D g r c (ws.take i)).2.1 (c+i+1) by').2.2).map V.int)) x=some (cD t dx o b2 mt y (bU D (run D g r c (ws.take i)).1 (run D g r c (ws.take i)).2.1 (c+i+1) by').1 (c+i+1) false):=by rw[aw nqx']; exact hx4
  refine⟨x,_,dx,_,_,rfl,hx5,T.ar,T.me,rfl,?_⟩
  refine⟨(sw.trans s4).put fq,b2,ps++ps2,_,sw.free fb2,nqb2'.symm,nbm2,?_,?_,?_,?_,?_,rfl⟩
  ·rw[nxt]; exact hx5
  ·rw[nxt,aw nqb2']; exact hb4
  ·rw[<- List.append_assoc]
   exact⟨by rw[aw nqm.symm]; exact ft4.1,λz hz=>by rw[aw (bc (ft4.2 z hz) hqq (by intro z; cases z))]; exact ft4.2 z hz⟩
  ·rw[nxt,List.map_append,eps,eps2,gY]
  ·rw[nxt,aQ,gJ,List.map_append]
 ·rintro σ H3 ⟨s3,b,ps,v3,fb,nqb,nbm,hx3,hb3,ft3,eps,hq3,rfl⟩
  rw[List.length_map,List.take_length]at hx3 hb3 eps hq3
  exact k q b ps H3 s3 g1.nw fb nbm nqb hx3 hb3 ft3 eps hq3
def eT(c:Nat)(r:List Int):List Ev:=if r=[] then [] else [.ft (c - r.length) r.length "short" r]
def Gd(t:Adr):Sp:=λvs H Q _=>∃ (Hb:Hp) (x dx o b mt y:Addr) (D:Kt) (W:Wy) (g:Int) (c:Nat) (r:List Int) (L:FL),vs=[.ref x]/\yM t Hb H x dx o b mt y D W g c r L/\L.length<=9000 /\
 ∀ (q b':Addr) (ps:FL) H',af Hb H'->H q=none->H' x=some (cD t dx o b' mt y g c true)->cz H' mt (L++ps)->ps.map (λx=>x.2)=fts (eT c r)->H' q=some (.lst ((aU W (eT c r)).map V.int))->Q (.ref q) H'
theorem sV (T:Txt w K mg t):bT P w K mg base t.bu "end" 3 t.yu t.uM ["self"] (Gd t):=by
 have iW:=λ(T:Txt w K mg t)=>BQ (P:=P) (base:=base) T
 refine⟨T.ar,T.mt_GoingReader_end,T.QQ,T.RM.okQ Am (λvs H Q E h=>by obtain⟨Hb,x,dx,o,b,mt,y,D,W,g,c,r,L,rfl,_⟩:=h; rfl) λcdv A outer s H vs Q E hr h=>?_⟩
 obtain⟨Hb,x,dx,o,b,mt,y,D,W,g,c,r,L,rfl,M,lL,k⟩:=h
 have hu:=hr.units
 have l6:=(M.bg.byts M.pg).2
 refine⟨_,(ai (aF (fZ (K:=K) rfl (aq (K:=K) rfl (aa 0))) (ah (al (aS ad))) aG)
  (ai (aJ (i:=1) Am.nd rfl (by first | exact Or.inl rfl | exact Or.inr rfl) (gn (fZ (K:=K) rfl (aq (K:=K) rfl (aa 0))) (bJ (iW T) hr (aa 0) (ab (bi (bA (K:=K) rfl) T.n_len PySem.boot_len (ab (aq (K:=K) rfl (aa 0)) ad)) (ab bX ad))) (aS ad)))
  (ai (cg (K:=K) rfl (aa 0) fY)
  (ah (al (aa 1)))))),?_⟩
 refine⟨x,_,dx,_,_,rfl,M.hx,T.ar,T.me,rfl,?_⟩
 unfold nH
 dsimp only
 rw[if_neg (by decide)]
 refine dh (λσ' H'=>af Hb H'/\∃ (q b':Addr) (ps:FL),H q=none/\H' x=some (cD t dx o b' mt y g c false)/\cz H' mt (L++ps)/\ps.map (λx=>x.2)=fts (eT c r)/\H' q=some (.lst ((aU W (eT c r)).map V.int))/\σ'=[some (.ref x),some (.ref q)]) (λnx hn=>?_) ?_
 ·refine⟨x,_,dx,_,_,rfl,M.hx,T.ar,T.bD,rfl,_,.inl (.of M.hb),?_⟩
  cases r with
  | nil =>
   refine⟨sz rfl,λq H1 g1=>?_⟩
   exact hn _ _ ⟨M.sb.trans g1.sm,q,b,[],g1.nw,g1.sm _ _ M.hx,by rw[List.append_nil]; exact M.ft.mono g1.sm,rfl,g1.at_,rfl⟩
  | cons v r =>
   refine⟨x,dx,_,rfl,M.hx,rfl,?_⟩
   refine⟨x,_,dx,_,_,rfl,M.hx,T.ar,T.bD,rfl,_,.inl (.of M.hb),?_⟩
   refine⟨Hb,x,dx,o,b,mt,y,W,g,c,v :: r,L,_,by rw[List.length_map]; rfl,M.wy,M.sb,M.fx,M.fb,M.fm,M.nbm,M.hx,M.hb,M.ft,M.lc,by omega,by omega,λq b' p H1 s1 nq nb nqb hx1 hb1 ft1 hq1=>?_⟩
   refine hn _ _ ⟨s1,q,b',[(p,c - (v :: r).length,(v :: r).length, "short")],nq,hx1,ft1,rfl,?_,rfl⟩
   rw[show aU W (eT c (v :: r))=eG W (v :: r)++[] from rfl,List.append_nil]
   exact hq1
 ·rintro σ' H1 ⟨s1,q,b',ps,nq,hx1,ft1,eps,hq1,rfl⟩
  refine⟨x,_,dx,_,rfl,hx1,T.ar,T.me,Nat.lt_of_lt_of_le (Nat.lt_succ_self 8) (by decide),?_⟩
  have nqx:q≠x:=(aH M.hx nq).symm
  refine k q b' ps _ (s1.put M.fx) nq (by rw[aQ]; rfl) ⟨by rw[aw (bc ft1.1 hx1 (by intro z; cases z))]; exact ft1.1,λz hz=>by rw[aw (bc (ft1.2 z hz) hx1 (by intro z; cases z))]; exact ft1.2 z hz⟩ eps (by rw[aw nqx]; exact hq1)
def FX(t:Adr):Sp:=λvs H Q _=>∃ (x dx o b mt y:Addr) (g:Int) (c:Nat) (e:Bool) (L:FL),vs=[.ref x]/\H x=some (cD t dx o b mt y g c e)/\cz H mt L/\∀ p H',aZ H p (.lst (L.map λx=>V.ref x.1)) H'->Q (.ref p) H'
theorem mv (T:Txt w K mg t):bT P w K mg base t.bu "faults" 1 t.yt t.uL ["self"] (FX t):=by
 refine⟨T.ar,T.mt_GoingReader_faults,T.QP,T.RL.okQ G8 (λvs H Q E h=>by obtain⟨x,dx,o,b,mt,y,g,c,e,L,rfl,_⟩:=h; rfl) λcdv A outer s H vs Q E hr h=>?_⟩
 obtain⟨x,dx,o,b,mt,y,g,c,e,L,rfl,hx,ft,k⟩:=h
 refine⟨_,(ah (al (dR (fw (K:=K) rfl) T.n_list PyProof.Rows.boot_list (ab (aq (K:=K) rfl (aa 0)) ad)))),?_⟩
 refine⟨x,_,dx,_,_,rfl,hx,T.ar,T.sy,rfl,?_⟩
 exact⟨_,.inl (.of ft.1),k⟩
def fI(n:Int):Int:=if n < 128 then 1 else if n < 2048 then 2 else if n < 65536 then 3 else 4
theorem Lp{n:Int}(h:Sg n)(h1:128<=n) : ∃ (L:Nat) (v q0:Int) (bN:List Int),fI n=(L:Int)/\L≠1/\L<=4/\d7 6 L n=q0 :: bN/\[0,0,192,224,240][L]? = some v/\row n=(v+q0) :: bN.map (λx=>128+x)/\n < 2 ^ (6*L):=by
 obtain⟨h0,h2,_,_⟩:=h
 have c1 : ¬ n < 128:=by omega
 by_cases c2:n < 2048
 ·have e1:row n=[192+n / 64,128+n%64]:=by unfold row; rw[if_neg c1,if_pos c2]
  have e2:fI n=2:=by unfold fI; rw[if_neg c1,if_pos c2]
  rw[e1,e2]
  refine⟨2,192,n / 64%64,[n%64],rfl,by decide,by decide,by simp[d7,List.range_succ],rfl,?_,by simp; omega⟩
  have:n / 64%64=n / 64:=by omega
  rw[this]; rfl
 by_cases c3:n < 65536
 ·have e1:row n=[224+n / 4096,128+n / 64%64,128+n%64]:=by unfold row; rw[if_neg c1,if_neg c2,if_pos c3]
  have e2:fI n=3:=by unfold fI; rw[if_neg c1,if_neg c2,if_pos c3]
  rw[e1,e2]
  refine⟨3,224,n / 4096%64,[n / 64%64,n%64],rfl,by decide,by decide,by simp[d7,List.range_succ],rfl,?_,by simp; omega⟩
  have:n / 4096%64=n / 4096:=by omega
  rw[this]; rfl
 have e1:row n=[240+n / 262144,128+n / 4096%64,128+n / 64%64,128+n%64]:=by unfold row; rw[if_neg c1,if_neg c2,if_neg c3]
 have e2:fI n=4:=by unfold fI; rw[if_neg c1,if_neg c2,if_neg c3]
 rw[e1,e2]
 refine⟨4,240,n / 262144%64,[n / 4096%64,n / 64%64,n%64],rfl,by decide,by decide,by simp[d7,List.range_succ],rfl,?_,by simp; omega⟩
 have:n / 262144%64=n / 262144:=by omega
 rw[this]; rfl
def FH:Sp:=λvs H Q _=>∃ (n:Int) (b m:Nat),vs=[.int n,.int (b:Int),.int (m:Int)]/\0<=n/\n < 2 ^ (b*m)/\b<=1000/\m<=1000/\∀ p H',aZ H p (.lst ((d7 b m n).map V.int)) H'->Q (.ref p) H'
theorem sQ (T:Txt w K mg t):bp P w K mg base "parted" 2 t.xK t.t0 ["number", "bits", "many"] FH:=by
 refine⟨T.NL,T.DZ.kp,T.P0,T.DZ.okQ lU (λvs H Q E h=>by obtain⟨n,b,m,rfl,_⟩:=h; rfl) λcdv A outer s H vs Q E hr h=>?_⟩
 obtain⟨n,b,m,rfl,h0,h1,hb,hm,k⟩:=h
 refine⟨_,(ai (cT (aN (BU T) hr (ab (aa 0) (ab (au em (aa 1) (aa 2)) ad))))
  (ai (aJ (i:=3) lU.nd rfl (by first | exact Or.inl rfl | exact Or.inr rfl) (aS ad))
  (ai (dw PassesOwn.never rfl (kR rfl T.n_range (ab (aa 2) ad)) (ba (i:=4) lU.nd rfl (by first | exact Or.inl rfl | exact Or.inr rfl)) (ai (aJ (i:=5) lU.nd rfl (by first | exact Or.inl rfl | exact Or.inr rfl) (au NJ (aa 0) (aa 1)))
  (ai (cT (dQ (K:=K) rfl PySem.F.plainAttrs_list PySem.F.slot_list_append PySem.F.type_list_append gq (aa 3) (ab (au cv (aa 0) (au Cn (aa 5) (aa 1))) ad)))
  (ah (aJ (i:=0) lU.nd rfl (by first | exact Or.inl rfl | exact Or.inr rfl) (aa 5))))))
  (ah (al (HX (K:=K) rfl rfl T.n_list T.n_reversed (ab (aa 3) ad))))))),?_⟩
 have two64:(2:Int) ^ 64=18446744073709551616:=by decide
 refine⟨Or.inl ⟨by omega,by omega⟩,?_⟩
 refine⟨n,b*m,by rw[Int.natCast_mul]; rfl,h0,h1,?_⟩
 refine⟨sz rfl,λp1 H1 g1=>?_⟩
 refine⟨(m:Int),rfl,by omega,by omega,?_⟩
 refine o0 (lo:=0) (n:=((m:Nat):Int).toNat) (λi σ H'=>af H H'/\H' p1=some (.lst (((List.range i).map λi=>n / 2 ^ (b*i)%2 ^ b).map V.int))/\∃ v4 v5,σ=[some (.int (n / 2 ^ (b*i))),some (.int b),some (.int m),some (.ref p1),v4,v5])
  ⟨g1.sm,g1.at_,_,_,by simp; rfl⟩ ?_ ?_
 ·rintro i σ H2 hi ⟨s2,h2,v4,v5,rfl⟩
  have hi':i < m:=by simpa using hi
  refine⟨by omega,?_⟩
  refine⟨.inl ⟨rfl,_,.of h2⟩,?_⟩
  have hq:0<=n / 2 ^ (b*i) / 2 ^ b/\n / 2 ^ (b*i) / 2 ^ b<=n:=by
   have z1:0<=n / 2 ^ (b*i):=Int.ediv_nonneg h0 (Int.le_of_lt (nB _))
   exact⟨Int.ediv_nonneg z1 (Int.le_of_lt (nB _)),Int.le_trans (Int.ediv_le_self _ z1) (Int.ediv_le_self _ h0)⟩
  have hbits:Builtin.Int.intBits (n / 2 ^ (b*i) / 2 ^ b)<=b*m:=intBits_le_iff.mpr (by
   have:((n / 2 ^ (b*i) / 2 ^ b).natAbs:Int) < ((2 ^ (b*m):Nat):Int):=by rw[Int.natAbs_of_nonneg hq.1,Int.natCast_pow]; exact Int.lt_of_le_of_lt hq.2 h1
   exact Int.ofNat_lt.mp this)
  have hbm:b*m<=1000000:=Nat.mul_le_mul hb hm
  refine⟨⟨by omega,show ((Builtin.Int.intBits (n / 2 ^ (b*i) / 2 ^ b):Nat):Int)+(b:Int)<=2 ^ 27 by omega⟩,?_⟩
  refine⟨_,h2,dP (by simp; omega),?_⟩
  refine⟨s2.put g1.nw,?_,?_⟩
  ·rw[aQ,List.range_succ,List.map_append,List.map_append]
   have:=KF (n / 2 ^ (b*i)) b
   exact congrArg (λz=>some (HO.lst (_++[V.int z]))) this
  ·rw[<- OE n b i]
   exact⟨_,_,rfl⟩
 ·rintro σ H2 ⟨s2,h2,v4,v5,rfl⟩
  refine⟨p1,_,rfl,.of h2,λp3 H3 g3=>?_⟩
  have e:((List.map V.int ((List.range ((m:Nat):Int).toNat).map λi=>n / 2 ^ (b*i)%2 ^ b))).reverse=(d7 b m n).map V.int:=by
   rw[<- List.map_reverse,Int.toNat_natCast,IC]
  rw[e]at g3
  exact k _ _ (g3.after s2)
def Fh:Sp:=λvs H Q _=>∃ n,vs=[.int n]/\Sg n/\∀ p H',aZ H p (.lst ((cf n).map V.int)) H'->Q (.ref p) H'
theorem Mq (T:Txt w K mg t):bp P w K mg base "units_of" 3 t.xG t.tW ["sign"] Fh:=by
 refine⟨T.NE,T.DV.kp,T.PV,T.DV.okQ Ad (λvs H Q E h=>by obtain⟨n,rfl,_⟩:=h; rfl) λcdv A outer s H vs Q E hr h=>?_⟩
 obtain⟨n,rfl,hs,k⟩:=h
 have hu:=hr.units
 refine⟨_,(ai (aF (av dA (aa 0) (bP T.w9) (aD _)) (ah (al (aS (ab (aa 0) ad)))) aG)
  (ai (aJ (i:=1) Ad.nd rfl (by first | exact Or.inl rfl | exact Or.inr rfl) (aN (sQ T) hr (ab (au cv (aa 0) (bP T.w9)) (ab (bP T.Dd) (ab aj ad)))))
  (ah (al (aS (ab (au (aX (K:=K) rfl) (bP T.xb) (aL (aM (K:=K) rfl) (aa 1) aj (λ_ _=>rfl))) (ab (au (aX (K:=K) rfl) (bP T.qM) (aL (aM (K:=K) rfl) (aa 1) aj (λ_ _=>rfl))) ad))))))),?_⟩
 obtain⟨h0,h1,_,_⟩:=hs
 refine ak (λe=>?_) (λe=>?_)
 ·have e2:cf n=[n]:=by unfold cf; rw[if_pos (of_decide_eq_true e)]
  rw[e2]at k
  exact⟨sz rfl,λp H' g=>k p H' g⟩
 have c : ¬ n < 65536:=λz=>e (decide_eq_true z)
 have e2:cf n=[55296+(n - 65536) / 1024,56320+(n - 65536)%1024]:=by unfold cf; rw[if_neg c]
 have two20:(2:Int) ^ (10*2)=1048576:=by decide
 refine⟨n - 65536,10,2,rfl,by omega,by omega,by decide,by decide,λp1 H1 g1=>?_⟩
 have ep:d7 10 2 (n - 65536)=[(n - 65536) / 1024,(n - 65536)%1024]:=by
  have:(n - 65536) / 1024%1024=(n - 65536) / 1024:=by omega
  simp[d7,List.range_succ,this]
 rw[ep]at g1
 refine⟨_,.int ((n - 65536) / 1024),.inl g1.lst,aV (j:=0) rfl,?_⟩
 refine⟨_,.int ((n - 65536)%1024),.inl g1.lst,aV (j:=1) rfl,?_⟩
 rw[e2]at k
 exact⟨sz rfl,λp2 H2 g2=>k _ _ (g2.after g1.sm)⟩
def Fz(K:PySem.W.Frag)(t:Adr):Sp:=λvs H Q _=>∃ (o a:Addr) (h:Bool) (us:List Int),vs=[.ref o,.ref a]/\Po t H o h/\aE K H a (us.map V.int)/\us.length<=10/\(∀ u∈us,0<=u/\u < 65536)/\∀ p H',aZ H p (.lst ((us.flatMap (ub h)).map V.int)) H'->Q (.ref p) H'
theorem MU (T:Txt w K mg t):bT P w K mg base t.cw "row_of" 3 t.yC t.uR ["self", "units"] (Fz K t):=by
 refine⟨T.gb,T.KA,T.Q3,T.RV.okQ si (λvs H Q E h=>by obtain⟨o,a,h,us,rfl,_⟩:=h; rfl) λcdv A outer s H vs Q E hr h=>?_⟩
 obtain⟨o,a,h,us,rfl,po,ha,hl,hb,k⟩:=h
 have hu:=hr.units
 refine⟨_,(ai (aJ (i:=2) si.nd rfl (by first | exact Or.inl rfl | exact Or.inr rfl) (aS ad))
  (ai (dw PassesOwn.never rfl (dz (K:=K) rfl (aa 1)) (ba (i:=3) si.nd rfl (by first | exact Or.inl rfl | exact Or.inr rfl)) (ah (cT (dQ (K:=K) rfl PySem.F.plainAttrs_list PySem.F.slot_list_extend PySem.F.type_list_extend (sE (K:=K) rfl) (aa 2) (ab (bJ (B8 T) hr (aa 0) (ab (aN (sQ T) hr (ab (aa 3) (ab (bP T.Df) (ab aj ad)))) ad)) ad)))))
  (ah (al (aa 2))))),?_⟩
 refine⟨sz rfl,λp1 H1 g1=>?_⟩
 refine⟨a,rfl,⟨_,g1.sm.seq ha⟩,iY (K:=K) (a:=a) (xs:=us.map V.int) (λi σ H'=>af H H'/\H' p1=some (.lst (((us.take i).flatMap (ub h)).map V.int))/\∃ v3,σ=[some (.ref o),some (.ref a),some (.ref p1),v3]) ⟨g1.sm,g1.at_,_,rfl⟩ (λi σ H' _ z=>z.1.seq ha) ?_ ?_⟩
 ·rintro i x σ H2 hx ⟨s2,h2,v3,rfl⟩
  obtain⟨u,hux,rfl⟩:=dn hx
  have hub:=hb u (List.mem_of_getElem? hux)
  have hi:i < us.length:=(List.getElem?_eq_some_iff.mp hux).1
  obtain⟨dx,ho⟩:=po
  have two16:(2:Int) ^ (8*2)=65536:=by decide
  refine⟨.inl ⟨rfl,_,.of h2⟩,?_⟩
  refine⟨o,dx,_,rfl,s2 _ _ ho,rfl,?_⟩
  refine⟨u,8,2,rfl,hub.1,by omega,by decide,by decide,λp2 H3 g3=>?_⟩
  have ep:d7 8 2 u=[u / 256,u%256]:=by
   have:u / 256%256=u / 256:=by omega
   simp[d7,List.range_succ,this]
  rw[ep]at g3
  refine⟨o,p2,h,u / 256,u%256,rfl,⟨dx,g3.sm _ _ (s2 _ _ ho)⟩,g3.at_,λp3 H4 s4 h4=>?_⟩
  have h24:=s4 _ _ (g3.sm _ _ h2)
  have el:((us.take i).flatMap (ub h)).length=2*(us.take i).length:=mz h _
  have el2:(us.take i).length<=10:=by rw[List.length_take]; omega
  refine⟨_,_,h24,h4,bB (by rw[List.length_map,List.length_map,el]; cases h <;> simp <;> omega),?_⟩
  refine⟨(s2.trans (g3.sm.trans s4)).put g1.nw,?_,_,rfl⟩
  rw[aQ]
  have e:us.take (i+1)=us.take i++[u]:=by rw[List.take_add_one,hux]; rfl
  rw[e,List.flatMap_append,List.map_append]
  simp[ub]
 ·rintro σ H2 ⟨s2,h2,v3,rfl⟩
  rw[List.length_map,List.take_length]at h2
  exact k _ _ ⟨g1.nw,s2,h2⟩
def zI(t:Adr):Sp:=λvs H Q _=>∃ (o:Addr) (h:Bool) (n:Int),vs=[.ref o,.int n,.int 0]/\Po t H o h/\Sg n/\∀ p q H',H q=none->af H H'->H' q=some (.lst ((d8 h n).map V.int))->H' p=some (.tup [.ref q,.int 0])->Q (.ref p) H'
theorem JO (T:Txt w K mg t):bv P w K mg base bC 4 t.q9 t.mK ["self", "sign", "page"] (zI t):=by
 refine T.RU.okQ Hf (λvs H Q E h=>by obtain⟨o,h,n,rfl,_⟩:=h; rfl) λcdv A outer s H vs Q E hr h=>?_
 obtain⟨o,h,n,rfl,po,hs,k⟩:=h
 have hu:=hr.units
 refine⟨_,(ai (aF (eJ (dE (aN (ik T) hr (ab (aa 1) ad)))) (ah fG) aG)
  (ah (al (bK (ab (bJ (MU T) hr (aa 0) (ab (aN (Mq T) hr (ab (aa 1) ad)) ad)) (ab (aa 2) ad)))))),?_⟩
 refine⟨.int n,rfl,.int n,?_⟩
 refine ak (λe=>absurd ((gL n).mpr hs) (by simpa using e)) (λ_=>?_)
 obtain⟨dx,ho⟩:=id po
 refine⟨o,dx,_,rfl,ho,rfl,?_⟩
 refine⟨n,rfl,hs,λp1 H1 g1=>?_⟩
 refine⟨o,p1,h,cf n,rfl,po.mono g1.sm,g1.lst,by have:=rG n; omega,λu hu=>yZ hs hu,λp2 H2 g2=>?_⟩
 exact⟨sz rfl,λp3 H3 g3=>k p3 p2 H3 (g2.after g1.sm).nw (g1.sm.trans (g2.sm.trans g3.sm)) (g3.sm _ _ g2.at_) g3.at_⟩
theorem B9 (T:Txt w K mg t):c7 P w K mg base t.cw "spell" 4 t.q9 t.mK ["self", "sign", "page"] [] (zI t) :=
 ⟨T.gb,T.Kz,⟨_,T.Q0,.nil⟩,JO T⟩
theorem MB (T:Txt w K mg t):bp P w K mg base "length_of" 1 t.xM t.ua ["sign"] (λvs H Q _=>∃ n,vs=[.int n]/\Q (.int (fI n)) H):=by
 refine⟨T.NQ,T.D2.kp,T.P2,T.D2.okQ GB (λvs H Q E h=>by obtain⟨n,rfl,_⟩:=h; rfl) λcdv A outer s H vs Q E hr h=>?_⟩
 obtain⟨n,rfl,k⟩:=h
 refine⟨_,(ai (aF (av dA (aa 0) aj (aD _)) (ah (al aj)) aG)
  (ai (aF (av dA (aa 0) aj (aD _)) (ah (al aj)) aG)
  (ai (aF (av dA (aa 0) aj (aD _)) (ah (al aj)) aG)
  (ah (al aj))))),?_⟩
 unfold fI at k
 refine ak (λe=>?_) (λe=>?_)
 ·rw[if_pos (of_decide_eq_true e)]at k; exact k
 rw[if_neg (λz=>e (decide_eq_true z))]at k
 refine ak (λe=>?_) (λe=>?_)
 ·rw[if_pos (of_decide_eq_true e)]at k; exact k
 rw[if_neg (λz=>e (decide_eq_true z))]at k
 refine ak (λe=>?_) (λe=>?_)
 ·rw[if_pos (of_decide_eq_true e)]at k; exact k
 rw[if_neg (λz=>e (decide_eq_true z))]at k
 exact k
def FA:Sp:=λvs H Q _=>∃ n,vs=[.int n]/\Sg n/\∀ p H',aZ H p (.lst ((row n).map V.int)) H'->Q (.ref p) H'
theorem MD (T:Txt w K mg t):bp P w K mg base "lead_row" 3 t.xO t.ud ["sign"] FA:=by
 refine⟨T.NS,T.D4.kp,T.P4,T.D4.okQ rY (λvs H Q E h=>by obtain⟨n,rfl,_⟩:=h; rfl) λcdv A outer s H vs Q E hr h=>?_⟩
 obtain⟨n,rfl,hs,k⟩:=h
 have hu:=hr.units
 refine⟨_,(ai (aJ (i:=1) rY.nd rfl (by first | exact Or.inl rfl | exact Or.inr rfl) (aN (MB T) hr (ab (aa 0) ad)))
  (ai (aF (av (bo (K:=K) rfl hu) (aa 1) aj (aD _)) (ah (al (aS (ab (aa 0) ad)))) aG)
  (ai (aJ (i:=2) rY.nd rfl (by first | exact Or.inl rfl | exact Or.inr rfl) (aN (sQ T) hr (ab (aa 0) (ab (bP T.Dg) (ab (aa 1) ad)))))
  (ah (al (au (aX (K:=K) rfl) (aS (ab (au (aX (K:=K) rfl) (aL (aM (K:=K) rfl) (gP (v:=.ref t.m5) rfl T.Db rfl) (aa 1) (λ_ _=>rfl)) (aL (aM (K:=K) rfl) (aa 2) aj (λ_ _=>rfl))) ad)) (fh rfl (cG.of (fns:=(ag iI).names) (N:=["sign", "length", "parts"]) (Nc:=["part"]) (nv:=1) (caps:=[]) rfl rfl (by decide +kernel)) (dz (K:=K) rfl (cU (c9 (K:=K) rfl) (aa 2) (ci aj) dD)) (λ_ _ _ _=>(ba (i:=0) (show List.Nodup (["part"]:List Str) by decide +kernel) rfl (Or.inl rfl) (Or.inr rfl))) (λ_ _ _ _=>d6) (λ_ _ _ _=>(au (aX (K:=K) rfl) (bP T.qN) (aa 0)))))))))),?_⟩
 refine⟨n,rfl,?_⟩
 by_cases c:n < 128
 ·have e1:fI n=1:=by unfold fI; rw[if_pos c]
  have e2:row n=[n]:=by unfold row; rw[if_pos c]
  refine ak (λ_=>?_) (λe=>absurd (decide_eq_true e1) e)
  rw[e2]at k
  exact⟨sz rfl,λp H' g=>k p H' g⟩
 obtain⟨L,v,q0,bN,eL,n1,l4,ep,hv,er,hn⟩:=Lp hs (by omega)
 refine ak (λe=>absurd (of_decide_eq_true e) (by rw[eL]; omega)) (λ_=>?_)
 refine⟨n,6,L,by rw[eL]; rfl,hs.1,hn,by decide,by omega,λp1 H1 g1=>?_⟩
 rw[ep]at g1
 have hat:cR (([0,0,192,224,240]:List Int).map V.int) (fI n)=some (.int v):=by
  rw[eL]; exact aV (by rw[List.getElem?_map,hv]; rfl)
 refine⟨_,.int v,.inr (T.AM _),hat,?_⟩
 refine⟨_,.int q0,.inl g1.lst,aV (j:=0) rfl,?_⟩
 refine⟨sz rfl,λp2 H2 g2=>?_⟩
 refine⟨_,rfl,_,g2.sm.seq g1.lst,λp3 H3 g3=>?_⟩
 rw[C1]at g3
 have hrl:bN.length<=1000:=by
  have:=ID 6 L n
  rw[ep]at this
  simp at this
  omega
 refine⟨_,rfl,⟨_,g3.lst⟩,?_⟩
 refine i7 ((bN.map λb=>128+b).map V.int) (by simp) g3.lst (bB (by simp; omega)) (λi y v H4 N hy hv s4 hN=>?_) λp4 H4 g4=>?_
 ·rw[List.getElem?_map]at hy
  obtain⟨y,hy',rfl⟩:=Option.map_eq_some_iff.mp hy
  rw[List.getElem?_map,List.getElem?_map,hy']at hv
  cases hv
  exact hN _ (af.refl _)
 refine⟨_,_,(g3.sm.trans g4.sm).seq g2.lst,g4.lst,bB (by simp; omega),λp5 H5 g5=>?_⟩
 rw[er]at k
 exact k _ _ (g5.after (((g1.sm.trans g2.sm).trans g3.sm).trans g4.sm))
def zJ:Sp:=λvs H Q _=>∃ (o:Addr) (n:Int),vs=[.ref o,.int n,.int 0]/\Sg n/\∀ p q H',H q=none->af H H'->H' q=some (.lst ((row n).map V.int))->H' p=some (.tup [.ref q,.int 0])->Q (.ref p) H'
theorem JP (T:Txt w K mg t):bv P w K mg base bC 4 t.rg t.mO ["self", "sign", "page"] zJ:=by
 refine T.RZ.okQ Hi (λvs H Q E h=>by obtain⟨o,n,rfl,_⟩:=h; rfl) λcdv A outer s H vs Q E hr h=>?_
 obtain⟨o,n,rfl,hs,k⟩:=h
 have hu:=hr.units
 refine⟨_,(ai (aF (eJ (dE (aN (ik T) hr (ab (aa 1) ad)))) (ah fG) aG)
  (ah (al (bK (ab (aN (MD T) hr (ab (aa 1) ad)) (ab (aa 2) ad)))))),?_⟩
 refine⟨.int n,rfl,.int n,?_⟩
 refine ak (λe=>absurd ((gL n).mpr hs) (by simpa using e)) (λ_=>?_)
 refine⟨n,rfl,hs,λp1 H1 g1=>?_⟩
 exact⟨sz rfl,λp2 H2 g2=>k p2 p1 H2 g1.nw (g1.sm.trans g2.sm) (g2.sm _ _ g1.at_) g2.at_⟩
theorem Cc (T:Txt w K mg t):c7 P w K mg base t.dX "spell" 4 t.rg t.mO ["self", "sign", "page"] [] zJ :=
 ⟨T.mW,T.KD,⟨_,T.Q7,.nil⟩,JP T⟩
def zK(t:Adr):Sp:=λvs H Q _=>∃ (a:Addr) (f:Fp) (ns ms:List Int) (x:V) (g:Int) (r:List Int) (g':Int),vs=[.ref a,x,.int g]/\cJ g/\Tg t H a f ns ms/\dg (am g ns ms) (am g ms ns) g x=some (r,g') /\
 ∀ p q H',af H H'->H q=none->H' q=some (.lst (r.map V.int))->H' p=some (.tup [.ref q,.int g'])->Q (.ref p) H'
theorem JQ (T:Txt w K mg t):bv P w K mg base bC 4 t.qV t.mG ["self", "sign", "page"] (zK t):=by
 refine T.RA.okQ GY (λvs H Q E h=>by obtain⟨o,f,ns,ms,x,g,r,g',rfl,_⟩:=h; rfl) λcdv A outer s H vs Q E hr h=>?_
 obtain⟨a,f,ns,ms,x,g,r,g',rfl,two,tg,hsp,k⟩:=h
 have hu:=hr.units
 refine⟨_,(ai (aF (dE (aN (ik T) hr (ab (aa 1) ad))) (ai (aF (av (oU hu) (aa 1) (aL (aM (K:=K) rfl) (aq (K:=K) rfl (aa 0)) (aa 2) (λ_ _=>rfl)) (by with_unfolding_all rfl)) (ah (al (bK (ab (aS (ab (so hu (aL (aM (K:=K) rfl) (aq (K:=K) rfl (aa 0)) (aa 2) (λ_ _=>rfl)) (aa 1)) ad)) (ab (aa 2) ad))))) aG)
  (ah (aF (av (oU hu) (aa 1) (aL (aM (K:=K) rfl) (aq (K:=K) rfl (aa 0)) (au cv aj (aa 2)) (λ_ _=>rfl)) (by with_unfolding_all rfl)) (ah (al (bK (ab (aS (ab (aL (aM (K:=K) rfl) (gP (v:=.ref t.lE) rfl T.w6 rfl) (au cv aj (aa 2)) (λ_ _=>rfl)) (ab (so hu (aL (aM (K:=K) rfl) (aq (K:=K) rfl (aa 0)) (au cv aj (aa 2)) (λ_ _=>rfl)) (aa 1)) ad))) (ab (au cv aj (aa 2)) ad))))) aG))) aG)
  (ah fG)),?_⟩
 have okP:cE (am g ns ms):=nJ tg.k0 tg.k1
 have okO:cE (am g ms ns):=nJ tg.k1 tg.k0
 have yes:c6 x=true:=by
  cases e:c6 x with
  | true=>rfl
  | false=>rw[Fa okP okO e]at hsp; cases hsp
 obtain⟨n,rfl,_⟩:=Gq yes
 refine⟨_,rfl,.int n,?_⟩
 refine ak (λ_=>?_) (λz=>absurd yes z)
 have ed : ∀ g,cJ g->cR [V.ref f.d0,V.ref f.d1] g=some (.ref (am g f.d0 f.d1)):=λg two=>by rw[lD two]; exact congrArg some (jk V.ref _ _ _)
 obtain⟨kv,hkv,vkv⟩:=tg.dk two
 obtain⟨kw,hkw,vkw⟩:=tg.dk two.flip
 rw[zZ two]at vkw
 refine⟨a,_,f.dx,_,_,rfl,tg.o,T.cX,T.iR,rfl,?_⟩
 refine⟨_,_,.inl (.of tg.p),ed g two,?_⟩
 refine⟨_,_,rfl,cK.k (k:=.inl n) hkv,?_⟩
 unfold dg at hsp
 dsimp only at hsp
 cases e1:cu (am g ns ms) n with
 | some i =>
  rw[e1]at hsp
  cases hsp
  have v1:bj kv (.inl n)=some (.int (i:Int)):=by rw[vkv,e1]; rfl
  refine ak (λ_=>?_) (λz=>absurd (show (bj kv (.inl n)).isSome=true by rw[v1]; rfl) z)
  refine⟨a,_,f.dx,_,_,rfl,tg.o,T.cX,T.iR,rfl,?_⟩
  refine⟨_,_,.inl (.of tg.p),ed g two,?_⟩
  refine⟨_,_,rfl,by have:=cK.k (k:=.inl n) hkv; rw[v1]at this; exact this,?_⟩
  refine⟨sz rfl,λp1 H1 g1=>?_⟩
  refine⟨sz rfl,λp2 H2 g2=>?_⟩
  exact k p2 p1 H2 (g1.sm.trans g2.sm) g1.nw (g2.sm _ _ g1.at_) g2.at_
 | none =>
  rw[e1]at hsp
  dsimp only at hsp
  have v1:bj kv (.inl n)=none:=by rw[vkv,e1]; rfl
  refine ak (λz=>absurd (show (bj kv (.inl n)).isSome=true from z) (by rw[v1]; decide)) (λ_=>?_)
  refine⟨a,_,f.dx,_,_,rfl,tg.o,T.cX,T.iR,rfl,?_⟩
  refine⟨_,_,.inl (.of tg.p),ed (1 - g) two.flip,?_⟩
  refine⟨_,_,rfl,cK.k (k:=.inl n) hkw,?_⟩
  cases e2:cu (am g ms ns) n with
  | none=>rw[e2]at hsp; cases hsp
  | some i =>
   rw[e2]at hsp
   cases hsp
   have v2:bj kw (.inl n)=some (.int (i:Int)):=by rw[vkw,e2]; rfl
   refine ak (λ_=>?_) (λz=>absurd (show (bj kw (.inl n)).isSome=true by rw[v2]; rfl) z)
   have sh:cR (([254,255]:List Int).map V.int) (1 - g)=some (.int (254+(1 - g))):=by
    rcases two with rfl | rfl <;> rfl
   refine⟨_,_,.inr (T.sq _),sh,?_⟩
   refine⟨a,_,f.dx,_,_,rfl,tg.o,T.cX,T.iR,rfl,?_⟩
   refine⟨_,_,.inl (.of tg.p),ed (1 - g) two.flip,?_⟩
   refine⟨_,_,rfl,by have:=cK.k (k:=.inl n) hkw; rw[v2]at this; exact this,?_⟩
   refine⟨sz rfl,λp1 H1 g1=>?_⟩
   refine⟨sz rfl,λp2 H2 g2=>?_⟩
   exact k p2 p1 H2 (g1.sm.trans g2.sm) g1.nw (g2.sm _ _ g1.at_) g2.at_
theorem B1 (T:Txt w K mg t):c7 P w K mg base t.bL "spell" 4 t.qV t.mG ["self", "sign", "page"] [] (zK t) :=
 ⟨T.cX,T.Km,⟨_,T.Qy,.nil⟩,JQ T⟩
def zL(t:Adr):Sp:=λvs H Q _=>∃ (a:Addr) (f:Ft) (es:List (Int × List Int)) (e:Int × List Int) (g:Int),vs=[.ref a,.int e.1,.int g]/\Tt t H a f es 1000/\Es es/\e∈es /\
 ∀ p q H',af H H'->H q=none->H' q=some (.lst (e.2.map V.int))->H' p=some (.tup [.ref q,.int g])->Q (.ref p) H'
theorem JN (T:Txt w K mg t):bv P w K mg base bC 4 t.qR t.mD ["self", "sign", "page"] (zL t):=by
 refine T.Ru.okQ GX (λvs H Q E h=>by obtain⟨o,f,es,e,g,rfl,_⟩:=h; rfl) λcdv A outer s H vs Q E hr h=>?_
 obtain⟨a,f,es,e,g,rfl,tt,ok,he,k⟩:=h
 have hu:=hr.units
 refine⟨_,(ai (aF (bZ (dv (eJ (dE (aN (ik T) hr (ab (aa 1) ad)))) (du (av (Co hu) (aa 1) (aq (K:=K) rfl (aa 0)) (by with_unfolding_all rfl))))) (ah fG) aG)
  (ah (al (bK (ab (dR (fw (K:=K) rfl) T.n_list PyProof.Rows.boot_list (ab (so hu (aq (K:=K) rfl (aa 0)) (aa 1)) ad)) (ab (aa 2) ad)))))),?_⟩
 obtain⟨o,⟨k1,k2,k3,a1,a2,a3,_,_,_,kv⟩,ne⟩:=id tt
 obtain⟨q,vq,hq⟩:=kv.a e he
 have yes:c6 (.int e.1)=true:=(gL _).mpr (ok.sg e he).1
 refine⟨_,rfl,.int _,?_⟩
 refine ak (λz=>absurd (show (!c6 (.int e.1))=true from z) (by rw[yes]; decide)) (λ_=>?_)
 refine⟨a,_,f.dx,_,_,rfl,o,T.dU,T.og,rfl,?_⟩
 refine⟨f.d1,_,rfl,cK.k (k:=.inl e.1) a1,?_⟩
 refine ak (λz=>absurd (show (!(bj k1 (.inl e.1)).isSome)=true from z) (by rw[vq]; simp)) (λ_=>?_)
 refine⟨a,_,f.dx,_,_,rfl,o,T.dU,T.og,rfl,?_⟩
 refine⟨f.d1,_,rfl,by have:=cK.k (k:=.inl e.1) a1; rw[vq]at this; exact this,?_⟩
 refine⟨_,.inr (.of hq),λp1 H1 g1=>?_⟩
 refine⟨sz rfl,λp2 H2 g2=>?_⟩
 exact k p2 p1 H2 (g1.sm.trans g2.sm) g1.nw (g2.sm _ _ g1.at_) g2.at_
theorem BY (T:Txt w K mg t):c7 P w K mg base t.bW "spell" 4 t.qR t.mD ["self", "sign", "page"] [] (zL t) :=
 ⟨T.dU,T.Ki,⟨_,T.Qt,.nil⟩,JN T⟩
theorem BW (T:Txt w K mg t):c7 P w K mg base t.dW "spell" 2 t.yg t.pz ["self", "sign", "page"] [] rV :=
 ⟨T.mU,T.Ke,⟨_,T.Qq,.nil⟩,T.Rq.okQ GV (λvs H Q E h=>h.elim) λcdv A outer s H vs Q E hr h=>h.elim⟩
theorem fg{H:Hp}{x dx C:Addr}(hx:H x=none)(hdx:H dx=none):af H (upd (upd H dx (.own x)) x (.ins C dx [])):=λb ob q=>by rw[aw (aH q hx),aw (aH q hdx)]; exact q
def Ss(t:Adr)(H:Hp)(s o:Addr):Prop:=∃ dx,H s=some (.ins t.dL dx [("tongue",.ref o)])
theorem Ss.mono{H H':Hp}{s o:Addr}(p:Ss t H s o)(e:af H H'):Ss t H' s o:=let ⟨dx,z⟩:=p; ⟨dx,e _ _ z⟩
def FU(t:Adr):Sp:=λvs H Q _=>∃ (x dx o:Addr),vs=[.ref x,.ref o]/\H x=some (.ins t.dL dx [])/\Q .non (upd H x (.ins t.dL dx [("tongue",.ref o)]))
theorem BF (T:Txt w K mg t):hX P w K mg base "SeenSpeller" t.dL 1 t.ym t.uG ["self", "tongue"] [] (FU t):=⟨T.Na,T.KK,⟨[],T.QH,.nil⟩,by
 refine T.RG.okQ G3 (λvs H Q E h=>by obtain⟨x,dx,o,rfl,_⟩:=h; rfl) λcdv A outer s H vs Q E hr h=>?_
 obtain⟨x,dx,o,rfl,hx,k⟩:=h
 exact⟨_,(ah (cg (K:=K) rfl (aa 0) (aa 1))),x,_,dx,_,rfl,hx,T.i8,T.md,by decide,k⟩⟩
theorem Ms (T:Txt w K mg t):bT P w K mg base t.dL "spell" 1 t.qY t.pD ["self", "sign", "page"] rV :=
 ⟨T.i8,T.Bc,T.Dp,T.En.okQ Al (λvs H Q E h=>h.elim) λcdv A outer s H vs Q E hr h=>h.elim⟩
def Fq(t:Adr):Sp:=λvs H Q _=>∃ (s o:Addr) (D:Kt) (g x:Int),vs=[.ref s,.int x,.int g]/\Ss t H s o/\TN t H o D/\bE D g/\fz D x/\∀ p q H',af H H'->H' q=some (.lst ((cH D g x).1.map V.int))->H' p=some (.tup [.ref q,.int (cH D g x).2])->Q (.ref p) H'
theorem Mr (T:Txt w K mg t):bT P w K mg base t.dL "spell" 5 t.qY t.pD ["self", "sign", "page"] (Fq t):=by
 have sU:=λ(T:Txt w K mg t)=>Ms (P:=P) (base:=base) T
 refine⟨T.i8,T.Bc,T.Dp,T.En.okQ Al (λvs H Q E h=>by obtain⟨s,o,D,g,x,rfl,_⟩:=h; rfl) λcdv A outer s H vs Q E hr h=>?_⟩
 obtain⟨s,o,D,g,n,rfl,⟨dx,hs⟩,tn,pg,th,k⟩:=h
 have hu:=hr.units
 refine⟨_,(ai (aF (dE (aN (sR T) hr (ab (aa 1) ad))) (ah (al (bK (ab (aS (ab (au cv (aa 1) (bP T.xa)) ad)) (ab (aa 2) ad))))) aG)
  (ah (al (bf (bJ (sU T) hr (aq (K:=K) rfl (aa 0)) (ab (aa 1) (ab (aa 2) ad))) (bf (bO (BW T) hr (aq (K:=K) rfl (aa 0)) (ab (aa 1) (ab (aa 2) ad))) (bf (bO (Cc T) hr (aq (K:=K) rfl (aa 0)) (ab (aa 1) (ab (aa 2) ad))) (bf (bO (B9 T) hr (aq (K:=K) rfl (aa 0)) (ab (aa 1) (ab (aa 2) ad))) (bf (bO (B1 T) hr (aq (K:=K) rfl (aa 0)) (ab (aa 1) (ab (aa 2) ad))) (bO (BY T) hr (aq (K:=K) rfl (aa 0)) (ab (aa 1) (ab (aa 2) ad))))))))))),?_⟩
 refine⟨.int n,rfl,.int n,?_⟩
 unfold cH at k
 refine ak (λz=>?_) (λz=>?_)
 ·have z:(decide (61184<=n) && decide (n<=61439))=true:=z
  simp at z
  rw[if_pos z]at k
  refine⟨sz rfl,λq H1 g1=>?_⟩
  exact⟨sz rfl,λp H2 g2=>k p q H2 (g1.sm.trans g2.sm) (g2.sm _ _ g1.at_) g2.at_⟩
 ·have z : ¬ (decide (61184<=n) && decide (n<=61439))=true:=z
  have z : ¬ (61184<=n/\n<=61439):=λy=>z (by simp; exact y)
  rw[if_neg z]at k
  have hsn:=th.resolve_left z
  obtain⟨r,g',eO,ef,_,sl⟩:=rQ tn.ok pg hsn
  rw[ef]at k
  cases D with
  | br=>exact hsn.elim
  | ld =>
   obtain⟨dx',ho⟩:=id tn
   obtain rfl:g=0:=pg
   cases eO
   exact .inr (.inr (.inl ⟨s,_,dx,_,_,rfl,hs,T.i8,T.md,rfl,o,dx',_,rfl,ho,rfl,o,n,rfl,hsn,λpf q H4 _ s4 hq hf=>k pf q H4 s4 hq hf⟩))
  | pr b =>
   obtain⟨dx',ho⟩:=id tn
   obtain rfl:g=0:=pg
   cases eO
   exact .inr (.inr (.inr (.inl ⟨s,_,dx,_,_,rfl,hs,T.i8,T.md,rfl,o,dx',_,rfl,ho,rfl,o,b,n,rfl,tn,hsn,λpf q H4 _ s4 hq hf=>k pf q H4 s4 hq hf⟩)))
  | sh f us ms=>exact .inr (.inr (.inr (.inr (.inl ⟨s,_,dx,_,_,rfl,hs,T.i8,T.md,rfl,o,f.dx,_,rfl,Tg.o tn,rfl,o,f,us,ms,.int n,g,r,g',rfl,pg,tn,eO,λpf q H4 s4 _ hq hf=>k pf q H4 s4 hq hf⟩))))
  | tb f es =>
   obtain⟨e1,he1,en,ef1⟩:=ly hsn
   have eO:((es.find? λe=>decide (e.1=n)).map λe=>(e.2,g))=some (r,g'):=eO
   rw[ef1]at eO
   cases eO
   exact .inr (.inr (.inr (.inr (.inr ⟨s,_,dx,_,_,rfl,hs,T.i8,T.md,rfl,o,f.dx,_,rfl,tn.1.o,rfl,o,f,es,e1,_,by rw[en]; rfl,tn.1,tn.2,he1,λpf q H4 s4 _ hq hf=>k pf q H4 s4 hq hf⟩))))
theorem yU(D:Kt)(g:Int)(xs:List Int)(n:Int):aY D g (xs++[n])=((aY D g xs).1++(cH D (aY D g xs).2 n).1,(cH D (aY D g xs).2 n).2):=by rw[gG,ny]
theorem rD{D:Kt}(ok:dq D) : ∀ (m:Nat) (xs:List Int) (g:Int),bE D g->(∀ x∈xs,fz D x)->bE D (aY D g (xs.take m)).2/\(aY D g (xs.take m)).1.length<=6*m
 | 0,xs,g,pg,_=>⟨pg,Nat.le_refl _⟩
 | m+1,xs,g,pg,h=>by
  obtain⟨a,b⟩:=rD ok m xs g pg h
  cases e:xs[m]? with
  | none =>
   rw[List.take_of_length_le (by have:=List.getElem?_eq_none_iff.mp e; omega)]
   rw[List.take_of_length_le (List.getElem?_eq_none_iff.mp e)]at a b
   exact⟨a,by omega⟩
  | some n =>
   rw[ff e,yU]
   obtain⟨p,_,l⟩:=rU ok a (h n (List.mem_of_getElem? e))
   exact⟨p,by rw[List.length_append]; omega⟩
def Fg(K:PySem.W.Frag)(t:Adr):Sp:=λvs H Q _=>∃ (s o a:Addr) (D:Kt) (xs:List Int) (g:Int),vs=[.ref s,.ref a,.int g]/\Ss t H s o/\TN t H o D/\bE D g/\aE K H a (xs.map V.int)/\xs.length<=2000/\(∀ x∈xs,fz D x)/\∀ p q H',H q=none->af H H'->H' q=some (.lst ((aY D g xs).1.map V.int))->H' p=some (.tup [.ref q,.int (aY D g xs).2])->Q (.ref p) H'
theorem BN (T:Txt w K mg t):bp P w K mg base "write_from" 6 t.xE t.tU ["tongue", "text", "page"] (Fg K t):=by
 have sU:=λ(T:Txt w K mg t)=>Mr (P:=P) (base:=base) T
 refine⟨T.NC,T.DT.kp,T.PR,T.DT.okQ jp (λvs H Q E h=>by obtain⟨s,o,a,D,xs,g,rfl,_⟩:=h; rfl) λcdv A outer s H vs Q E hr h=>?_⟩
 obtain⟨s,o,a,D,xs,g0,rfl,ss,tn,pg0,ha,hl,hs,k⟩:=h
 have hu:=hr.units
 have ok:=tn.koS
 refine⟨_,(ai (aJ (i:=3) jp.nd rfl (by first | exact Or.inl rfl | exact Or.inr rfl) (aS ad))
  (ai (dw PassesOwn.never rfl (kS (K:=K) rfl rfl T.n_enumerate (ab (aa 1) ad)) (eN (K:=K) rfl rfl (bR (ba (i:=4) jp.nd rfl (by first | exact Or.inl rfl | exact Or.inr rfl)) (bR (ba (i:=5) jp.nd rfl (by first | exact Or.inl rfl | exact Or.inr rfl)) eK))) (ai (HI (K:=K) (Es:=λ_=>E0) rfl ⟨rfl,rfl⟩ T.mx (λe=>PassesOwnAt.never) Lm (λpn W Eb L=>(ah (aJ (i:=6) jp.nd rfl (by first | exact Or.inl rfl | exact Or.inr rfl) (bf (bJ (sU T) hr (aa 0) (ab (aa 5) (ab (aa 2) ad))) (bf (bO (BW T) hr (aa 0) (ab (aa 5) (ab (aa 2) ad))) (bf (bO (Cc T) hr (aa 0) (ab (aa 5) (ab (aa 2) ad))) (bf (bO (B9 T) hr (aa 0) (ab (aa 5) (ab (aa 2) ad))) (bf (bO (B1 T) hr (aa 0) (ab (aa 5) (ab (aa 2) ad))) (bO (BY T) hr (aa 0) (ab (aa 5) (ab (aa 2) ad))))))))))) (λeh LH=>(ah fG)))
  (ai (cT (dQ (K:=K) rfl PySem.F.plainAttrs_list PySem.F.slot_list_extend PySem.F.type_list_extend (sE (K:=K) rfl) (aa 3) (ab (aL (aM (K:=K) rfl) (aa 6) aj (λ_ _=>rfl)) ad)))
  (ah (aJ (i:=2) jp.nd rfl (by first | exact Or.inl rfl | exact Or.inr rfl) (aL (aM (K:=K) rfl) (aa 6) aj (λ_ _=>rfl)))))))
  (ah (al (bK (ab (aa 3) (ab (aa 2) ad))))))),?_⟩
 refine⟨sz rfl,λp1 H1 g1=>?_⟩
 refine⟨a,_,rfl,g1.sm.seq ha,ls (K:=K) (a:=a) (xs:=xs.map V.int) (λi σ H'=>af H H'/\H' p1=some (.lst ((aY D g0 (xs.take i)).1.map V.int))/\∃ v4 v5 v6,σ=[some (.ref s),some (.ref a),some (.int (aY D g0 (xs.take i)).2),some (.ref p1),v4,v5,v6]) ⟨g1.sm,g1.at_,_,_,_,rfl⟩ (λi σ H' _ z=>z.1.seq ha) ?_ ?_⟩
 ·rintro i x p σ H2 H3 hx ⟨s2,h2,v4,v5,v6,rfl⟩ g3
  obtain⟨n,hn,rfl⟩:=dn hx
  have hsn:=hs n (List.mem_of_getElem? hn)
  have hi:i < xs.length:=(List.getElem?_eq_some_iff.mp hn).1
  refine⟨p,_,rfl,g3.tup,rfl,_,_,rfl,_,_,rfl,rfl,?_⟩
  have s3:=s2.trans g3.sm
  obtain⟨dx,hss⟩:=ss.mono s3
  obtain⟨pgi,li⟩:=rD ok i xs g0 pg0 hs
  obtain⟨_,_,sl⟩:=rU ok pgi hsn
  have e:aY D g0 (xs.take (i+1))=((aY D g0 (xs.take i)).1++(cH D (aY D g0 (xs.take i)).2 n).1,(cH D (aY D g0 (xs.take i)).2 n).2):=by rw[ff hn,yU]
  dsimp only [cO]
  refine dh (λσ' H4=>∃ pf q,af H3 H4/\H4 q=some (.lst ((cH D (aY D g0 (xs.take i)).2 n).1.map V.int))/\H4 pf=some (.tup [.ref q,.int (cH D (aY D g0 (xs.take i)).2 n).2])/\σ'=[some (.ref s),some (.ref a),some (.int (aY D g0 (xs.take i)).2),some (.ref p1),some (.int (i:Int)),some (.int n),some (.ref pf)]) (λnx hn=>?_) ?_
  ·exact⟨λ_ _ _ _=>False,.inl ⟨s,dx,_,rfl,hss,rfl,s,o,D,_,n,rfl,⟨dx,hss⟩,tn.mono s3,pgi,hsn,λpf q H4 s4 hq hf=>hn _ _ ⟨pf,q,s4,hq,hf,rfl⟩⟩,λ_ _ _ _ _ _ z=>z.elim⟩
  ·rintro σ' H4 ⟨pf,q,s4,hq,hf,rfl⟩
   have h4:=s4 _ _ (g3.sm _ _ h2)
   refine⟨.inl ⟨rfl,_,.of h4⟩,?_⟩
   refine⟨_,.ref q,.inr (.of hf),aV (j:=0) rfl,?_⟩
   refine⟨_,_,h4,hq,bB (by rw[List.length_map,List.length_map]; omega),?_⟩
   have fne:pf≠p1:=λz=>by rw[z,h4]at hf; cases hf
   refine⟨_,.int _,.inr (.of (by rw[aw fne]; exact hf)),aV (j:=1) rfl,?_⟩
   refine⟨(s3.trans s4).put g1.nw,?_,_,_,_,by rw[e]; rfl⟩
   rw[aQ,e,List.map_append]
 ·rintro σ H2 ⟨s2,h2,v4,v5,v6,rfl⟩
  rw[List.length_map,List.take_length]at h2
  rw[List.length_map,List.take_length]
  exact⟨sz rfl,λp3 H3 g3=>k p3 p1 H3 g1.nw (s2.trans g3.sm) (g3.sm _ _ h2) g3.at_⟩
def Fe(K:PySem.W.Frag)(t:Adr):Sp:=λvs H Q _=>∃ (s o a:Addr) (D:Kt) (xs:List Int),vs=[.ref s,.ref a]/\Ss t H s o/\TN t H o D/\aE K H a (xs.map V.int)/\xs.length<=2000/\(∀ x∈xs,fz D x)/\∀ p H',af H H'->H' p=some (.lst ((aY D 0 xs).1.map V.int))->Q (.ref p) H'
theorem fH(D:Kt):bE D 0:=by
 cases D with
 | sh f ns ms=>exact .inl rfl
 | _=>exact rfl
theorem Mp (T:Txt w K mg t):bp P w K mg base "write" 7 t.xF t.tV ["tongue", "text"] (Fe K t):=by
 refine⟨T.ND,T.DU.kp,T.PU,T.DU.okQ Gz (λvs H Q E h=>by obtain⟨s,o,a,D,xs,rfl,_⟩:=h; rfl) λcdv A outer s H vs Q E hr h=>?_⟩
 obtain⟨s,o,a,D,xs,rfl,ss,tn,ha,hl,hs,k⟩:=h
 refine⟨_,(ah (al (aL (aM (K:=K) rfl) (aN (BN T) hr (ab (aa 0) (ab (aa 1) (ab aj ad)))) aj (λ_ _=>rfl)))),?_⟩
 refine⟨s,o,a,D,xs,0,rfl,ss,tn,fH D,ha,hl,hs,λp q H1 nq s1 hq hp=>?_⟩
 exact⟨_,.ref q,.inr (.of hp),aV (j:=0) rfl,k q H1 s1 hq⟩
def Fd(K:PySem.W.Frag)(t:Adr):Sp:=λvs H Q _=>∃ (o a:Addr) (D:Kt) (xs:List Int),vs=[.ref o,.ref a]/\TN t H o D/\aE K H a (xs.map V.int)/\xs.length<=2000/\(∀ x∈xs,fz D x)/\∀ p H',af H H'->H' p=some (.lst ((aY D 0 xs).1.map V.int))->Q (.ref p) H'
theorem sj{H:Hp}{x dx C:Addr}{o:HO}(hx:H x=none)(hdx:H dx=none):af H (upd (upd (upd H dx (.own x)) x (.ins C dx [])) x o):=λb ob q=>by rw[aw (aH q hx)]; exact fg hx hdx b ob q
theorem Mo (T:Txt w K mg t):bp P w K mg base "write_seen" 8 t.xD t.tT ["tongue", "text"] (Fd K t):=by
 refine⟨T.NB,T.DS.kp,T.PQ,T.DS.okQ Gy (λvs H Q E h=>by obtain⟨o,a,D,xs,rfl,_⟩:=h; rfl) λcdv A outer s H vs Q E hr h=>?_⟩
 obtain⟨o,a,D,xs,rfl,tn,ha,hl,hs,k⟩:=h
 refine⟨_,(ah (al (aN (Mp T) hr (ab (gp (BF T) hr (ab (aa 0) ad)) (ab (aa 1) ad))))),?_⟩
 refine λx dx hx hdx hne=>?_
 have s1:=sj (C:=t.dL) (o:=.ins t.dL dx [("tongue",.ref o)]) hx hdx
 refine⟨x,dx,o,rfl,aQ,rfl,?_⟩
 exact⟨x,o,a,D,xs,rfl,⟨dx,aQ⟩,tn.mono s1,s1.seq ha,hl,hs,λp H' s' hp=>k p H' (s1.trans s') hp⟩
def Wr(t:Adr)(H:Hp)(x s:Addr)(g:Int):Prop:=∃ dx,H x=some (.ins t.eW dx [("tongue",.ref s),("at_page",.int g)])
def FS(t:Adr):Sp:=λvs H Q _=>∃ (x dx s:Addr),vs=[.ref x,.ref s]/\H x=some (.ins t.eW dx [])/\∀ H',Kp x H H'->H' x=some (.ins t.eW dx [("tongue",.ref s),("at_page",.int 0)])->Q .non H'
theorem L6 (T:Txt w K mg t):yN P w K mg base 1 t.yc t.uz ["self", "tongue"] [] (FS t):=by
 refine⟨T.Em.kp,⟨_,T.Qm,.nil⟩,T.Em.okQ GR (λvs H Q E h=>by obtain⟨x,dx,o,rfl,_⟩:=h; rfl) λcdv A outer s H vs Q E hr h=>?_⟩
 obtain⟨x,dx,o,rfl,hx,k⟩:=h
 refine⟨_,(ai (cg (K:=K) rfl (aa 0) (aa 1))
  (ah (cg (K:=K) rfl (aa 0) aj))),?_⟩
 refine⟨x,_,dx,_,rfl,hx,T.lC,T.A9,Nat.lt_of_lt_of_le Nat.zero_lt_one (by decide),?_⟩
 refine⟨x,_,dx,_,rfl,aQ,T.lC,T.sv,Nat.lt_of_lt_of_le (Nat.lt_succ_self 1) (by decide),?_⟩
 exact k _ (Kp.upd.trans Kp.upd) (by rw[aQ]; rfl)
def FT(t:Adr):Sp:=λvs H Q _=>∃ (x dx o:Addr),vs=[.ref x,.ref o]/\H x=some (.ins t.eW dx [])/\∀ s H',Kp x H H'->Wr t H' x s 0->Ss t H' s o->H s=none->Q .non H'
theorem LY (T:Txt w K mg t):hX P w K mg base "SeenWriter" t.eW 3 t.yl t.uF ["self", "tongue"] [] (FT t):=⟨T.M9,T.KJ,⟨[],T.QF,.nil⟩,by
 refine T.RF.okQ G2 (λvs H Q E h=>by obtain⟨x,dx,o,rfl,_⟩:=h; rfl) λcdv A outer s H vs Q E hr h=>?_
 obtain⟨x,dx,o,rfl,hx,k⟩:=h
 refine⟨_,(ah (cT (AJ (K:=K) rfl T.Pr T.M5 (L6 T) hr (ab (aa 0) (ab (gp (BF T) hr (ab (aa 1) ad)) ad))))),?_⟩
 refine λs ds hs hds hne=>?_
 have s1:=sj (C:=t.dL) (o:=.ins t.dL ds [("tongue",.ref o)]) hs hds
 refine⟨s,ds,o,rfl,aQ,rfl,?_⟩
 have nxs:s≠x:=(aH hx hs).symm
 refine⟨x,dx,s,rfl,s1 _ _ hx,λH2 k2 hx2=>?_⟩
 exact k s H2 ((Kp.of s1).trans k2) ⟨dx,hx2⟩ ⟨ds,k2 _ _ nxs aQ⟩ hs⟩
def Ga(K:PySem.W.Frag)(t:Adr):Sp:=λvs H Q _=>∃ (x s o a:Addr) (D:Kt) (xs:List Int) (g:Int),vs=[.ref x,.ref a]/\Wr t H x s g/\Ss t H s o/\TN t H o D/\bE D g/\aE K H a (xs.map V.int)/\xs.length<=2000/\(∀ x∈xs,fz D x) /\
 ∀ q H',Kp x H H'->H q=none->Wr t H' x s (aY D g xs).2->H' q=some (.lst ((aY D g xs).1.map V.int))->Q (.ref q) H'
theorem oI (T:Txt w K mg t):bT P w K mg base t.eW "feed" 7 t.yd t.uA ["self", "text"] (Ga K t):=by
 refine⟨T.lC,T.mt_SeenWriter_feed,T.Qn,T.Rm.okQ Af (λvs H Q E h=>by obtain⟨x,s,o,a,D,xs,g,rfl,_⟩:=h; rfl) λcdv A outer s H vs Q E hr h=>?_⟩
 obtain⟨x,s,o,a,D,xs,g,rfl,⟨dx,hx⟩,ss,tn,pg,ha,hl,hs,k⟩:=h
 have hu:=hr.units
 refine⟨_,(ai (aJ (i:=2) Af.nd rfl (by first | exact Or.inl rfl | exact Or.inr rfl) (aN (BN T) hr (ab (aq (K:=K) rfl (aa 0)) (ab (aa 1) (ab (aq (K:=K) rfl (aa 0)) ad)))))
  (ai (cg (K:=K) rfl (aa 0) (aL (aM (K:=K) rfl) (aa 2) aj (λ_ _=>rfl)))
  (ah (al (aL (aM (K:=K) rfl) (aa 2) aj (λ_ _=>rfl)))))),?_⟩
 refine⟨x,_,dx,_,_,rfl,hx,T.lC,T.A9,rfl,?_⟩
 refine⟨x,_,dx,_,_,rfl,hx,T.lC,T.sv,rfl,?_⟩
 refine⟨s,o,a,D,xs,g,rfl,ss,tn,pg,ha,hl,hs,λp q H1 nq s1 hq hp=>?_⟩
 refine⟨_,.int _,.inr (.of hp),aV (j:=1) rfl,?_⟩
 have hx1:=s1 _ _ hx
 refine⟨x,_,dx,_,rfl,hx1,T.lC,T.sv,Nat.lt_of_lt_of_le (Nat.lt_succ_self 2) (by decide),?_⟩
 have npx:p≠x:=bc hp hx1 (by intro z; cases z)
 have nqx:q≠x:=(aH hx nq).symm
 refine⟨_,.ref q,.inr (.of (by rw[aw npx]; exact hp)),aV (j:=0) rfl,?_⟩
 exact k q _ ((Kp.of s1).trans Kp.upd) nq ⟨dx,by rw[aQ]; rfl⟩ (by rw[aw nqx]; exact hq)
def Ge(K:PySem.W.Frag):Sp:=λvs H Q _=>∃ (a:Addr) (ns:List Int) (k:Nat),vs=[.ref a,.int (k:Int)]/\aE K H a (ns.map V.int)/\∀ c H',af H H'->Q (.int c) H'
theorem mr (T:Txt w K mg t):bp P w K mg base "_law_drawn" 1 t.xB t.tR ["_law_script", "_law_at"] (Ge K):=by
 refine⟨T.Nz,T.DQ.kp,T.PN,T.DQ.okQ Gx (λvs H Q E h=>by obtain⟨a,ns,i,rfl,_⟩:=h; rfl) λcdv A outer s H vs Q E hr h=>?_⟩
 obtain⟨a,ns,i,rfl,h1,k⟩:=h
 refine⟨_,(ah (al (bi (C7 (K:=K) rfl rfl) T.n_sum PyProof.Rows.boot_sum (ab (cU (c9 (K:=K) rfl) (aa 0) (ci (aa 1)) (ci (au (aX (K:=K) rfl) (aa 1) aj))) ad)))),?_⟩
 refine⟨_,rfl,_,rfl,_,h1,λp1 H1 g1=>?_⟩
 rw[eU]at g1
 exact⟨_,g1.lst,k _ _ g1.sm⟩
def FJ:Sp:=λvs H Q _=>∃ (n k:Int),vs=[.int n,.int k]/\0<=k/\k<=1000000/\∀ m,0<=m->m < 2147483629->Q (.int m) H
theorem sO (T:Txt w K mg t):bp P w K mg base "_law_mixed" 1 t.xx t.tM ["_law_number", "_law_k"] FJ:=by
 refine⟨T.Nu,T.DM.kp,T.PJ,T.DM.okQ Ab (λvs H Q E h=>by obtain⟨n,k,rfl,_⟩:=h; rfl) λcdv A outer s H vs Q E hr h=>?_⟩
 obtain⟨n,k,rfl,k0,k1,kq⟩:=h
 have two64:(2:Int) ^ 64=18446744073709551616:=by decide
 refine⟨_,(ai (aJ (i:=0) Ab.nd rfl (by first | exact Or.inl rfl | exact Or.inr rfl) (bh (au (aX (K:=K) rfl) (au (aX (K:=K) rfl) (aa 0) (au em (au em aj (aa 1)) (aa 1))) aj)))
  (ah (al (bh (au (aX (K:=K) rfl) (au (aX (K:=K) rfl) (au em (aa 0) (aa 0)) (au em aj (aa 0))) (aa 1)))))),?_⟩
 refine⟨Or.inl ⟨by decide,by decide⟩,?_⟩
 refine⟨Or.inr ⟨by omega,by omega⟩,?_⟩
 refine⟨Or.inl ⟨by omega,by omega⟩,?_⟩
 refine⟨Or.inl ⟨by decide,by decide⟩,?_⟩
 exact kq _ (by omega) (by omega)
def fj(n:Int):Int:=if (if n%1111808>=55296 then n%1111808+2048 else n%1111808)>=61184 then (if n%1111808>=55296 then n%1111808+2048 else n%1111808)+256 else (if n%1111808>=55296 then n%1111808+2048 else n%1111808)
theorem oQ(n:Int):Sg (fj n):=by
 unfold fj Sg
 (repeat' split) <;> omega
theorem sX{a b:Int}(h:fj a=fj b):a%1111808=b%1111808:=by
 unfold fj at h
 revert h
 (repeat' split) <;> omega
theorem Op{k d:Int}(h0 : -251 < d)(h1:d < 251)(hk:14997*d=1111808*k):d=0:=by
 omega
theorem Oo{k d:Int}(h0 : -251 < d)(h1:d < 251)(hk:24995*d=1111808*k):d=0:=by
 omega
theorem Lj(B x y:Int):4999*(B+3*(0+x)) - 4999*(B+3*(0+y))=14997*(x - y):=by
 omega
theorem Li(B x y:Int):4999*(B+5*(0+x)) - 4999*(B+5*(0+y))=24995*(x - y):=by
 omega
theorem sB{x y:Int}(h:x%1111808=y%1111808) : ∃ k:Int,x - y=1111808*k:=⟨x / 1111808 - y / 1111808,by omega⟩
theorem LP{B:Int}{i j n:Nat}(hi:i < n)(hj:j < n)(hn:n<=250)(h:4999*(B+3*(0+(i:Int)))%1111808=4999*(B+3*(0+(j:Int)))%1111808):i=j:=by
 obtain⟨k,hk⟩:=sB h
 rw[Lj]at hk
 have:=Op (by clear h hk; omega) (by clear h hk; omega) hk
 clear h hk
 omega
theorem LO{B:Int}{i j n:Nat}(hi:i < n)(hj:j < n)(hn:n<=250)(h:4999*(B+5*(0+(i:Int)))%1111808=4999*(B+5*(0+(j:Int)))%1111808):i=j:=by
 obtain⟨k,hk⟩:=sB h
 rw[Li]at hk
 have:=Oo (by clear h hk; omega) (by clear h hk; omega) hk
 clear h hk
 omega
theorem Oq{k d:Int}(h0 : -251 < d)(h1:d < 251)(hk:4999*d=1111808*k):d=0:=by
 omega
theorem Ll(B x y:Int):4999*(B+(0+x)) - 4999*(B+(0+y))=4999*(x - y):=by
 omega
theorem LQ{B:Int}{i j n:Nat}(hi:i < n)(hj:j < n)(hn:n<=250)(h:4999*(B+(0+(i:Int)))%1111808=4999*(B+(0+(j:Int)))%1111808):i=j:=by
 obtain⟨k,hk⟩:=sB h
 rw[Ll]at hk
 have:=Oq (by clear h hk; omega) (by clear h hk; omega) hk
 clear h hk
 omega
theorem oE (T:Txt w K mg t):bp P w K mg base "_law_gapped" 1 t.xA t.tQ ["_law_number"] (λvs H Q _=>∃ n,vs=[.int n]/\Q (.int (fj n)) H):=by
 refine⟨T.Ny,T.DP.kp,T.PM,T.DP.okQ nM (λvs H Q E h=>by obtain⟨n,rfl,_⟩:=h; rfl) λcdv A outer s H vs Q E hr h=>?_⟩
 obtain⟨n,rfl,k⟩:=h
 refine⟨_,(ai (aJ (i:=1) nM.nd rfl (by first | exact Or.inl rfl | exact Or.inr rfl) (bh (aa 0)))
  (ai (aF (av Cr (aa 1) aj (aD _)) (ah (aJ (i:=1) nM.nd rfl (by first | exact Or.inl rfl | exact Or.inr rfl) (au (aX (K:=K) rfl) (aa 1) aj))) aG)
  (ai (aF (av Cr (aa 1) aj (aD _)) (ah (aJ (i:=1) nM.nd rfl (by first | exact Or.inl rfl | exact Or.inr rfl) (au (aX (K:=K) rfl) (aa 1) aj))) aG)
  (ah (al (aa 1)))))),?_⟩
 unfold fj at k
 refine ak (λz=>?_) (λz=>?_)
 ·have z:n%1111808>=55296:=of_decide_eq_true z
  rw[if_pos z]at k
  refine ak (λy=>?_) (λy=>?_)
  ·rw[if_pos (of_decide_eq_true y)]at k; exact k
  ·rw[if_neg (λx=>y (decide_eq_true x))]at k; exact k
 ·have z : ¬ n%1111808>=55296:=λy=>z (decide_eq_true y)
  rw[if_neg z]at k
  refine ak (λy=>?_) (λy=>?_)
  ·rw[if_pos (of_decide_eq_true y)]at k; exact k
  ·rw[if_neg (λx=>y (decide_eq_true x))]at k; exact k
def Fv:Sp:=λvs H Q _=>∃ c,vs=[.int c]/\∀ n H',af H H'->Sg n->Q (.int n) H'
theorem Gr : ∀ n∈([0,10,127,128,2047,2048,55295,57344,61183,61440,65279,65535,65536,1048575,1114111]:List Int),Sg n:=by unfold Sg; decide
theorem Mn (T:Txt w K mg t):bp P w K mg base "_law_as_sign" 2 t.xC t.tS ["_law_number"] Fv:=by
 refine⟨T.NA,T.DR.kp,T.PP,T.DR.okQ Ac (λvs H Q E h=>by obtain⟨c,rfl,_⟩:=h; rfl) λcdv A outer s H vs Q E hr h=>?_⟩
 obtain⟨c,rfl,k⟩:=h
 have hu:=hr.units
 refine⟨_,(ai (aJ (i:=1) Ac.nd rfl (by first | exact Or.inl rfl | exact Or.inr rfl) (aS (lX rfl)))
  (ai (aF (av (bo (K:=K) rfl hu) (bh (aa 0)) aj (aD _)) (ah (al (aL (aM (K:=K) rfl) (aa 1) (bh (bH (aa 0))) (λ_ _=>rfl)))) aG)
  (ai (aF (av (bo (K:=K) rfl hu) (bh (aa 0)) aj (aD _)) (ah (al (bh (bH (aa 0))))) aG)
  (ah (al (aN (oE T) hr (ab (bH (aa 0)) ad))))))),?_⟩
 refine⟨sz rfl,λp1 H1 g1=>?_⟩
 refine ak (λ_=>?_) (λ_=>?_)
 ·obtain⟨v,hv,e1,_⟩:=qP (xs:=(([0,10,127,128,2047,2048,55295,57344,61183,61440,65279,65535,65536,1048575,1114111]:List Int).map V.int)) (i:=c / 4%15) (by omega) (by simp; omega)
  obtain⟨n,hn,rfl⟩:=List.mem_map.mp hv
  exact⟨_,_,.inl g1.lst,e1,k _ _ g1.sm (Gr n hn)⟩
 refine ak (λ_=>?_) (λ_=>?_)
 ·exact k _ _ g1.sm (by unfold Sg; omega)
 ·exact⟨_,rfl,k _ _ g1.sm (oQ _)⟩
theorem Aw{f:Nat->Int}{n:Nat}(hn:n<=250)(hs : ∀ k,k < n->Sg (f k))(inj : ∀ i j,i < n->j < n->f i=f j->i=j):cE ((List.range n).map f):=by
 refine⟨λm hm=>?_,?_,by rw[List.length_map,List.length_range]; exact hn⟩
 ·obtain⟨k,hk,rfl⟩:=List.mem_map.mp hm
  exact hs k (List.mem_range.mp hk)
 ·refine List.pairwise_map.mpr ?_
  exact List.nodup_range.imp_of_mem λ{i j} hi hj ne e=>ne (inj i j (List.mem_range.mp hi) (List.mem_range.mp hj) e)
theorem cE.rev{ns:List Int}(h:cE ns):cE ns.reverse:=⟨λn hn=>h.1 n (List.mem_reverse.mp hn),List.pairwise_reverse.mpr (h.2.1.imp λh=>Ne.symm h),by rw[List.length_reverse]; exact h.2.2⟩
def FP:Sp:=λvs H Q _=>∃ (c:Int),vs=[.int c]/\∀ (p q r:Addr) (ns ms:List Int) H',af H H'->H' p=some (.tup [.ref q,.ref r])->H' q=some (.lst (ns.map V.int))->H' r=some (.lst (ms.map V.int))->cE ns->cE ms->Q (.ref p) H'
theorem Ml (T:Txt w K mg t):bp P w K mg base "_law_lists" 2 t.xy t.tO ["_law_number"] FP:=by
 refine⟨T.Nv,T.DN.kp,T.PK,T.DN.okQ jo (λvs H Q E h=>by obtain⟨c,rfl,_⟩:=h; rfl) λcdv A outer s H vs Q E hr h=>?_⟩
 obtain⟨c,rfl,k⟩:=h
 have hu:=hr.units
 have two64:(2:Int) ^ 64=18446744073709551616:=by decide
 refine⟨_,(ai (aJ (i:=1) jo.nd rfl (by first | exact Or.inl rfl | exact Or.inr rfl) (aS (ab (bh (bH (aa 0))) (ab (bh (bH (aa 0))) ad))))
  (ai (aF (av (bo (K:=K) rfl hu) (bh (aa 0)) aj (aD _)) (ah (aJ (i:=1) jo.nd rfl (by first | exact Or.inl rfl | exact Or.inr rfl) (aS (ab (au (aX (K:=K) rfl) aj (bh (bH (aa 0)))) (ab (bh (bH (aa 0))) ad))))) aG)
  (ai (aJ (i:=2) jo.nd rfl (by first | exact Or.inl rfl | exact Or.inr rfl) (bh (bH (aa 0))))
  (ai (nU (i:=3) jo.nd rfl (by first | exact Or.inl rfl | exact Or.inr rfl) rfl (cG.of (fns:=(ag ia).names) (N:=["_law_number", "_law_sizes", "_law_base", "_law_first", "_law_second"]) (Nc:=["_law_k", "_law_base"]) (nv:=1) (caps:=[2]) rfl rfl (by decide +kernel)) (kR rfl T.n_range (ab (aL (aM (K:=K) rfl) (aa 1) aj (λ_ _=>rfl)) ad)) (λ_ _ _ _=>(ba (i:=0) (show List.Nodup (["_law_k", "_law_base"]:List Str) by decide +kernel) rfl (Or.inl rfl) (Or.inr rfl))) (λ_ _ _ _=>d6) (λ_ _ _ _=>(aN (oE T) hr (ab (au em aj (au (aX (K:=K) rfl) (aa 1) (au em aj (aa 0)))) ad))))
  (ai (nU (i:=4) jo.nd rfl (by first | exact Or.inl rfl | exact Or.inr rfl) rfl (cG.of (fns:=(ag ia).names) (N:=["_law_number", "_law_sizes", "_law_base", "_law_first", "_law_second"]) (Nc:=["_law_k", "_law_base"]) (nv:=1) (caps:=[2]) rfl rfl (by decide +kernel)) (kR rfl T.n_range (ab (aL (aM (K:=K) rfl) (aa 1) aj (λ_ _=>rfl)) ad)) (λ_ _ _ _=>(ba (i:=0) (show List.Nodup (["_law_k", "_law_base"]:List Str) by decide +kernel) rfl (Or.inl rfl) (Or.inr rfl))) (λ_ _ _ _=>d6) (λ_ _ _ _=>(aN (oE T) hr (ab (au em aj (au (aX (K:=K) rfl) (aa 1) (au em aj (aa 0)))) ad))))
  (ai (aF (av gy (bh (aa 0)) aj (aD _)) (ah (cT (AE (K:=K) rfl PySem.F.plainAttrs_list PySem.F.slot_list_reverse PySem.F.type_list_reverse J6 (aa 4)))) aG)
  (ah (al (bK (ab (aa 3) (ab (aa 4) ad))))))))))),?_⟩
 refine⟨sz rfl,λp1 H1 g1=>?_⟩
 dsimp only [cO]
 refine dh (λσ' H'=>af H H'/\∃ (ps:Addr) (x y:Int),H' ps=some (.lst [.int x,.int y])/\0<=x/\x<=250/\0<=y/\y<=250/\σ'=[some (.int c),some (.ref ps),none,none,none]) (λnx hn=>?_) ?_
 ·refine ak (λ_=>?_) (λ_=>?_)
  ·refine⟨sz rfl,λp2 H2 g2=>?_⟩
   exact hn _ _ ⟨g1.sm.trans g2.sm,p2,_,_,g2.at_,by omega,by omega,by omega,by omega,rfl⟩
  ·exact hn _ _ ⟨g1.sm,p1,_,_,g1.at_,by omega,by omega,by omega,by omega,rfl⟩
 rintro σ' H2 ⟨s2,ps,x,y,hps,x0,x1,y0,y1,rfl⟩
 obtain⟨b,eb⟩ : ∃ b,b=c / 1000%1111:=⟨_,rfl⟩
 refine⟨_,.int x,.inl (.of hps),aV (j:=0) rfl,?_⟩
 refine⟨x,rfl,by omega,by omega,?_⟩
 refine qk (lo:=0) (n:=x.toNat) (((List.range x.toNat).map λk:Nat=>fj (4999*(c / 1000%1111+3*(0+(k:Int))))).map V.int) (by rw[List.length_map,List.length_map,List.length_range]) (bB (by omega)) (λj v H5 N hj hv s5 hN=>?_) λq0 H3 g3=>?_
 ·rw[List.getElem?_map,List.getElem?_map,List.getElem?_range hj]at hv
  cases hv
  refine⟨Or.inl ⟨by decide,by decide⟩,?_⟩
  refine⟨Or.inl ⟨by decide,by decide⟩,?_⟩
  exact⟨_,rfl,hN _ (af.refl _)⟩
 have ok0:cE ((List.range x.toNat).map λk:Nat=>fj (4999*(c / 1000%1111+3*(0+(k:Int))))):=Aw (by omega) (λk _=>oQ _) λi j hi hj e=>LP hi hj (by omega) (sX e)
 refine⟨_,.int y,.inl (.of (g3.sm _ _ hps)),aV (j:=1) rfl,?_⟩
 refine⟨y,rfl,by omega,by omega,?_⟩
 refine qk (lo:=0) (n:=y.toNat) (((List.range y.toNat).map λk:Nat=>fj (4999*(c / 1000%1111+5*(0+(k:Int))))).map V.int) (by rw[List.length_map,List.length_map,List.length_range]) (bB (by omega)) (λj v H5 N hj hv s5 hN=>?_) λq1 H4 g4=>?_
 ·rw[List.getElem?_map,List.getElem?_map,List.getElem?_range hj]at hv
  cases hv
  refine⟨Or.inl ⟨by decide,by decide⟩,?_⟩
  refine⟨Or.inl ⟨by decide,by decide⟩,?_⟩
  exact⟨_,rfl,hN _ (af.refl _)⟩
 have ok1:cE ((List.range y.toNat).map λk:Nat=>fj (4999*(c / 1000%1111+5*(0+(k:Int))))):=Aw (by omega) (λk _=>oQ _) λi j hi hj e=>LO hi hj (by omega) (sX e)
 have s24:=g3.sm.trans g4.sm
 have n10:q1≠q0:=(aH g3.at_ g4.nw).symm
 have f1:H q1=none:=s2.free (g3.sm.free g4.nw)
 dsimp only [cO]
 refine dh (λσ' H'=>af H H'/\H' q0=some (.lst (((List.range x.toNat).map λk:Nat=>fj (4999*(c / 1000%1111+3*(0+(k:Int))))).map V.int))/\(∃ ms,H' q1=some (.lst (ms.map V.int))/\cE ms)/\σ'=[some (.int c),some (.ref ps),some (.int (c / 1000%1111)),some (.ref q0),some (.ref q1)]) (λnx hn=>?_) ?_
 ·refine ak (λ_=>?_) (λ_=>?_)
  ·refine⟨.inl ⟨rfl,_,.of g4.at_⟩,?_⟩
   refine⟨q1,_,rfl,rfl,g4.at_,?_⟩
   exact hn _ _ ⟨(s2.trans s24).put f1,by rw[aw n10.symm]; exact g4.sm _ _ g3.at_,⟨_,by rw[aQ,List.map_reverse],ok1.rev⟩,rfl⟩
  ·exact hn _ _ ⟨s2.trans s24,g4.sm _ _ g3.at_,⟨_,g4.at_,ok1⟩,rfl⟩
 ·rintro σ' H5 ⟨s5,h0,⟨ms,hm,okm⟩,rfl⟩
  exact⟨sz rfl,λp6 H6 g6=>k p6 q0 q1 _ _ H6 (s5.trans g6.sm) g6.at_ (g6.sm _ _ h0) (g6.sm _ _ hm) ok0 okm⟩
theorem Do{h h' a b:List Int}(l:h.length=h'.length)(n:h≠h'):cQ (h++a) (h'++b)=false:=by
 unfold cQ
 rw[decide_eq_false]
 intro z
 apply n
 have:=congrArg (List.take h.length) z
 rw[List.take_take,Nat.min_eq_left (by rw[List.length_append]; omega),List.take_append_of_le_length (by omega),List.take_append_of_le_length (by omega),List.take_length,l,List.take_length]at this
 exact this.symm
def dS(n:Int)(k:Nat):List Int:=if n / 11%3 > 0 then [(n / 13+7*((0+(k:Int)) / 3))%256,(n / 4000+5*((0+(k:Int))%3))%256] else [(n / 13+7*(0+(k:Int)))%256]
theorem BJ(n:Int)(i j:Nat):(dS n i).length=(dS n j).length:=by
 unfold dS; split <;> rfl
theorem BK(n:Int)(i:Nat):1<=(dS n i).length/\(dS n i).length<=2:=by
 unfold dS; split <;> simp
theorem BI{n:Int}{i j:Nat}(hi:i < 13)(hj:j < 13)(h:i≠j):dS n i≠dS n j:=by
 unfold dS
 split
 ·intro z
  simp at z
  omega
 ·intro z
  simp at z
  omega
theorem L9(n:Int)(i:Nat) : ∀ b∈dS n i,0<=b/\b<=255:=by
 intro b hb
 unfold dS at hb
 split at hb
 ·simp at hb; omega
 ·simp at hb; omega
def lS(n:Int)(k:Nat):Int:=fj (4999*(n / 13%999+(0+(k:Int))))
theorem Gs{n:Int}{i j:Nat}(hi:i < 13)(hj:j < 13)(h:i≠j):lS n i≠lS n j:=λz=>by
 exact h (LQ hi hj (by decide) (sX z))
def Et(n:Int)(es:List (Int × List Int)):Prop:=∀ (j:Nat) e,es[j]? = some e->e.1=lS n j/\∃ tl,e.2=dS n j++tl/\tl.length<=4/\∀ b∈tl,0<=b/\b<=255
theorem OA{n:Int}{es:List (Int × List Int)}(h:Et n es)(l:es.length<=13):Es es:=by
 refine⟨λe he=>?_,List.pairwise_iff_getElem.mpr λi j hi hj hij=>?_,by omega⟩
 ·obtain⟨j,hj,rfl⟩:=List.mem_iff_getElem.mp he
  obtain⟨e1,tl,e2,l4,hb⟩:=h j _ (List.getElem?_eq_getElem hj)
  have:=BK n j
  refine⟨by rw[e1]; exact oQ _,by rw[e2,List.length_append]; omega,by rw[e2,List.length_append]; omega,λb hb'=>?_⟩
  rw[e2]at hb'
  rcases List.mem_append.mp hb' with z | z
  ·exact L9 n j b z
  ·exact hb b z
 ·obtain⟨a1,t1,a2,_⟩:=h i _ (List.getElem?_eq_getElem hi)
  obtain⟨b1,t2,b2,_⟩:=h j _ (List.getElem?_eq_getElem hj)
  unfold fo
  rw[a1,a2,b1,b2,Do (BJ n i j) (BI (by omega) (by omega) (by omega)),Do (BJ n j i) (BI (by omega) (by omega) (by omega)),decide_eq_false (Gs (by omega) (by omega) (by omega))]
  rfl
def lF(H:Hp)(qs:List Addr)(es:List (Int × List Int)):Prop:=cB (λq e=>H q=some (.lst (e.2.map V.int))) qs es
theorem lF.mono{H H':Hp}{qs:List Addr}{es:List (Int × List Int)}(h:lF H qs es)(s:af H H'):lF H' qs es:=h.imp λq e z=>s _ _ z
def Fo:Sp:=λvs H Q _=>∃ (c:Int),vs=[.int c]/\0<=c/\∀ (p a b:Addr) (qs:List Addr) (es:List (Int × List Int)) H',af H H'->H' p=some (.tup [.ref a,.ref b])->H' a=some (.lst ((es.map λe=>e.1).map V.int))->H' b=some (.lst (qs.map V.ref))->lF H' qs es->Es es->Q (.ref p) H'
theorem Me (T:Txt w K mg t):bp P w K mg base "_law_table" 2 t.xp t.tF ["_law_number"] Fo:=by
 refine⟨T.Nm,T.DF.kp,T.Py,T.DF.okQ h9 (λvs H Q E h=>by obtain⟨c,rfl,_⟩:=h; rfl) λcdv A outer s H vs Q E hr h=>?_⟩
 obtain⟨c,rfl,c0,k⟩:=h
 have hu:=hr.units
 have two64:(2:Int) ^ 64=18446744073709551616:=by decide
 refine⟨_,(ai (aJ (i:=1) h9.nd rfl (by first | exact Or.inl rfl | exact Or.inr rfl) (aS ad))
  (ai (aJ (i:=2) h9.nd rfl (by first | exact Or.inl rfl | exact Or.inr rfl) (aS ad))
  (ai (dw PassesOwn.never rfl (kR rfl T.n_range (ab (bh (aa 0)) ad)) (ba (i:=3) h9.nd rfl (by first | exact Or.inl rfl | exact Or.inr rfl)) (ai (aJ (i:=4) h9.nd rfl (by first | exact Or.inl rfl | exact Or.inr rfl) (aN (sO T) hr (ab (aa 0) (ab (au (aX (K:=K) rfl) (aa 3) aj) ad))))
  (ai (aJ (i:=5) h9.nd rfl (by first | exact Or.inl rfl | exact Or.inr rfl) (aS (ab (bh (au (aX (K:=K) rfl) (bH (aa 0)) (au em aj (aa 3)))) ad)))
  (ai (aF (av gy (bh (bH (aa 0))) aj (aD _)) (ah (aJ (i:=5) h9.nd rfl (by first | exact Or.inl rfl | exact Or.inr rfl) (aS (ab (bh (au (aX (K:=K) rfl) (bH (aa 0)) (au em aj (bH (aa 3))))) (ab (bh (au (aX (K:=K) rfl) (bH (aa 0)) (au em aj (bh (aa 3))))) ad))))) aG)
  (ai (aJ (i:=5) h9.nd rfl (by first | exact Or.inl rfl | exact Or.inr rfl) (au (aX (K:=K) rfl) (aa 5) (fh rfl (cG.of (fns:=(ag iH).names) (N:=["_law_number", "_law_signs", "_law_rows", "_law_k", "_law_far", "_law_row_here"]) (Nc:=["_law_j", "_law_far"]) (nv:=1) (caps:=[4]) rfl rfl (by decide +kernel)) (kR rfl T.n_range (ab (bh (aa 4)) ad)) (λ_ _ _ _=>(ba (i:=0) (show List.Nodup (["_law_j", "_law_far"]:List Str) by decide +kernel) rfl (Or.inl rfl) (Or.inr rfl))) (λ_ _ _ _=>d6) (λ_ _ _ _=>(bh (au (aX (K:=K) rfl) (bH (aa 1)) (au em aj (aa 0))))))))
  (ai (cT (dQ (K:=K) rfl PySem.F.plainAttrs_list PySem.F.slot_list_append PySem.F.type_list_append gq (aa 1) (ab (aN (oE T) hr (ab (au em aj (au (aX (K:=K) rfl) (bh (bH (aa 0))) (aa 3))) ad)) ad)))
  (ah (cT (dQ (K:=K) rfl PySem.F.plainAttrs_list PySem.F.slot_list_append PySem.F.type_list_append gq (aa 2) (ab (aa 5) ad))))))))))
  (ah (al (bK (ab (aa 1) (ab (aa 2) ad)))))))),?_⟩
 refine⟨sz rfl,λpa H1 g1=>?_⟩
 refine⟨sz rfl,λpb H2 g2=>?_⟩
 have nab:pb≠pa:=(aH g1.at_ g2.nw).symm
 have fa:H pa=none:=g1.nw
 have fb:H pb=none:=g1.sm.free g2.nw
 refine⟨c%13,rfl,by omega,by omega,?_⟩
 refine o0 (lo:=0) (n:=(c%13).toNat) (λi σ H'=>af H H'/\(∃ qs es,es.length=i/\Et c es/\H' pa=some (.lst ((es.map λe=>e.1).map V.int))/\H' pb=some (.lst (qs.map V.ref))/\lF H' qs es/\∀ q∈qs,q≠pa/\q≠pb)/\∃ v3 v4 v5,σ=[some (.int c),some (.ref pa),some (.ref pb),v3,v4,v5])
  ⟨g1.sm.trans g2.sm,⟨[],[],rfl,(λj e h=>by simp at h),g2.sm _ _ g1.at_,g2.at_,cB.nil,(λq h=>nomatch h)⟩,_,_,_,rfl⟩ ?_ ?_
 ·rintro i σ H3 hi ⟨s3,⟨qs,es,le,dr,ha,hb,rw3,nq⟩,v3,v4,v5,rfl⟩
  have hi13:i < 13:=by omega
  refine⟨_,_,rfl,by omega,by omega,λfar f0 f1=>?_⟩
  refine⟨Or.inl ⟨by decide,by decide⟩,?_⟩
  refine⟨sz rfl,λp4 H4 g4=>?_⟩
  dsimp only [cO]
  refine dh (λσ' H'=>af H3 H'/\∃ p5,H' p5=some (.lst ((dS c i).map V.int))/\σ'=[some (.int c),some (.ref pa),some (.ref pb),some (.int (0+(i:Int))),some (.int far),some (.ref p5)]) (λnx hn=>?_) ?_
  ·refine ak (λz=>?_) (λz=>?_)
   ·have z:c / 11%3 > 0:=of_decide_eq_true z
    refine⟨Or.inl ⟨by decide,by decide⟩,?_⟩
    refine⟨Or.inl ⟨by decide,by decide⟩,?_⟩
    refine⟨sz rfl,λp5 H5 g5=>?_⟩
    exact hn _ _ ⟨g4.sm.trans g5.sm,p5,by unfold dS; rw[if_pos z]; exact g5.at_,rfl⟩
   ·have z : ¬ c / 11%3 > 0:=λy=>z (decide_eq_true y)
    exact hn _ _ ⟨g4.sm,p4,by unfold dS; rw[if_neg z]; exact g4.at_,rfl⟩
  rintro σ' H5 ⟨s5,p5,h5,rfl⟩
  refine⟨far%5,rfl,by omega,by omega,?_⟩
  refine qk (lo:=0) (n:=(far%5).toNat) (((List.range (far%5).toNat).map λj:Nat=>(far / 16+3*(0+(j:Int)))%256).map V.int) (by rw[List.length_map,List.length_map,List.length_range]) (bB (by omega)) (λj v H6 N hj hv s6 hN=>?_) λp6 H6 g6=>?_
  ·rw[List.getElem?_map,List.getElem?_map,List.getElem?_range hj]at hv
   cases hv
   refine⟨Or.inl ⟨by decide,by decide⟩,?_⟩
   exact hN _ (af.refl _)
  have hl:=BK c i
  refine⟨_,_,.of (g6.sm _ _ h5),g6.lst,bB (by rw[List.length_map,List.length_map,List.length_map,List.length_range]; omega),λp7 H7 g7=>?_⟩
  rw[<- List.map_append]at g7
  have s37:=s5.trans (g6.sm.trans g7.sm)
  have ha7:=s37 _ _ ha
  have hb7:=s37 _ _ hb
  have np7a:p7≠pa:=(aH (g6.sm _ _ (s5 _ _ ha)) g7.nw).symm
  have np7b:p7≠pb:=(aH (g6.sm _ _ (s5 _ _ hb)) g7.nw).symm
  refine⟨.inl ⟨rfl,_,.of ha7⟩,?_⟩
  refine⟨Or.inl ⟨by decide,by decide⟩,?_⟩
  refine⟨_,rfl,?_⟩
  refine⟨_,ha7,dP (by rw[List.length_map,List.length_map]; omega),?_⟩
  have hb8:upd H7 pa (.lst ((es.map λe=>e.1).map V.int++[.int (lS c i)])) pb=some (.lst (qs.map V.ref)):=by rw[aw nab]; exact hb7
  refine⟨.inl ⟨rfl,_,.of hb8⟩,?_⟩
  have lq:qs.length=i:=by rw[<- le]; exact rw3.1
  refine⟨_,hb8,dP (by rw[List.length_map]; omega),?_⟩
  refine⟨((s3.trans s37).put fa).put fb,⟨qs++[p7],es++[(lS c i,dS c i++(List.range (far%5).toNat).map λj:Nat=>(far / 16+3*(0+(j:Int)))%256)],by rw[List.length_append,le]; rfl,λj e he=>?_,?_,?_,cB.app ⟨rw3.1,λj q e hq he=>?_⟩ (cB.cons ?_ cB.nil),λq hq=>?_⟩,_,_,_,rfl⟩
  ·by_cases cj:j < es.length
   ·rw[List.getElem?_append_left cj]at he
    exact dr j e he
   ·have ej:j=es.length:=by
     have:=(List.getElem?_eq_some_iff.mp he).1
     rw[List.length_append]at this
     simp at this
     omega
    rw[ej,List.getElem?_append_right (Nat.le_refl _),Nat.sub_self]at he
    cases he
    refine⟨by rw[ej,le],_,by rw[ej,le],by rw[List.length_map,List.length_range]; omega,λb hb=>?_⟩
    obtain⟨x,_,rfl⟩:=List.mem_map.mp hb
    omega
  ·rw[aw nab.symm,aQ,List.map_append,List.map_append]; rfl
  ·rw[aQ,List.map_append]; rfl
  ·obtain⟨n1,n2⟩:=nq q (List.mem_of_getElem? hq)
   rw[aw n2,aw n1]
   exact s37 _ _ (rw3.2 j q e hq he)
  ·rw[aw np7b,aw np7a]
   exact g7.at_
  ·rcases List.mem_append.mp hq with z | z
   ·exact nq q z
   ·rw[List.mem_singleton.mp z]; exact⟨np7a,np7b⟩
 ·rintro σ H3 ⟨s3,⟨qs,es,le,dr,ha,hb,rw3,nq⟩,v3,v4,v5,rfl⟩
  exact⟨sz rfl,λp4 H4 g4=>k p4 pa pb qs es H4 (s3.trans g4.sm) g4.at_ (g4.sm _ _ ha) (g4.sm _ _ hb) (rw3.mono g4.sm) (OA dr (by omega))⟩
theorem eR:PyData.strOk "lead" = true:=by decide +kernel
theorem dH:PyData.strOk "high" = true:=by decide +kernel
theorem d9:PyData.strOk "low" = true:=by decide +kernel
theorem dG:PyData.strOk "shift" = true:=by decide +kernel
theorem eQ:PyData.strOk "table" = true:=by decide +kernel
theorem kU:PyData.strOk "bare" = true:=by decide +kernel
theorem A0{p q:Prop}[Decidable p][Decidable q]{A B:Prop}(h1:p\/q->A)(h2 : ¬ p->¬ q->B):if decide p=true then (if true=true then A else B) else (if decide q=true then A else B):=by
 by_cases c:p
 ·rw[if_pos (decide_eq_true c),if_pos rfl]; exact h1 (.inl c)
 ·rw[if_neg (λz=>c (of_decide_eq_true z))]
  by_cases c':q
  ·rw[if_pos (decide_eq_true c')]; exact h1 (.inr c')
  ·rw[if_neg (λz=>c' (of_decide_eq_true z))]; exact h2 c c'
inductive Md where
 | ld
 | pr (h:Bool)
 | sh (ns ms:List Int)
 | tb (es:List (Int × List Int))
 | br
def eA:Md->Str
 | .ld => "lead"
 | .pr h=>f6 h
 | .sh _ _ => "shift"
 | .tb _ => "table"
 | .br => "bare"
def rB(H:Hp)(a b:Addr):Md->Prop
 | .sh ns ms=>H a=some (.lst (ns.map V.int))/\H b=some (.lst (ms.map V.int))/\cE ns/\cE ms
 | .tb es=>H a=some (.lst ((es.map λe=>e.1).map V.int))/\(∃ qs,H b=some (.lst (qs.map V.ref))/\lF H qs es)/\Es es
 | _=>H a=some (.lst [])/\H b=some (.lst [])
theorem rB.mono{H H':Hp}{a b:Addr}{M:Md}(h:rB H a b M)(s:af H H'):rB H' a b M:=by
 cases M with
 | sh ns ms=>exact⟨s _ _ h.1,s _ _ h.2.1,h.2.2⟩
 | tb es =>
  obtain⟨h1,⟨qs,h2,h3⟩,h4⟩:=h
  exact⟨s _ _ h1,⟨qs,s _ _ h2,h3.mono s⟩,h4⟩
 | ld=>exact⟨s _ _ h.1,s _ _ h.2⟩
 | pr b=>exact⟨s _ _ h.1,s _ _ h.2⟩
 | br=>exact⟨s _ _ h.1,s _ _ h.2⟩
def Mod(H:Hp)(p:Addr)(M:Md):Prop:=∃ a b,H p=some (.tup [.str (eA M),.ref a,.ref b])/\rB H a b M
theorem Mod.mono{H H':Hp}{p:Addr}{M:Md}(h:Mod H p M)(s:af H H'):Mod H' p M:=by
 obtain⟨a,b,h1,h2⟩:=h
 exact⟨a,b,s _ _ h1,h2.mono s⟩
def FM:Sp:=λvs H Q _=>∃ c:Int,vs=[.int c]/\∀ p M H',af H H'->Mod H' p M->Q (.ref p) H'
theorem Mj (T:Txt w K mg t):bp P w K mg base "_law_model" 3 t.xw t.tL ["_law_cell"] FM:=by
 refine⟨T.Nt,T.DL.kp,T.PH,T.DL.okQ jn (λvs H Q E h=>by obtain⟨c,rfl,_⟩:=h; rfl) λcdv A outer s H vs Q E hr h=>?_⟩
 obtain⟨c,rfl,k⟩:=h
 have hu:=hr.units
 refine⟨_,(ai (aJ (i:=1) jn.nd rfl (by first | exact Or.inl rfl | exact Or.inr rfl) (aN (sO T) hr (ab (bH (aa 0)) (ab aj ad))))
  (ai (aF (bZ (dv (av (bo (K:=K) rfl hu) (bh (aa 0)) aj (aD _)) (du (av (bo (K:=K) rfl hu) (bh (aa 0)) aj (aD _))))) (ai (iP (aN (Ml T) hr (ab (aa 1) ad)) (eN (K:=K) rfl rfl (bR (ba (i:=2) jn.nd rfl (by first | exact Or.inl rfl | exact Or.inr rfl)) (bR (ba (i:=3) jn.nd rfl (by first | exact Or.inl rfl | exact Or.inr rfl)) eK))))
  (ah (al (bK (ab bX (ab (aa 2) (ab (aa 3) ad))))))) aG)
  (ai (aF (bZ (dv (av (bo (K:=K) rfl hu) (bh (aa 0)) aj (aD _)) (du (av (bo (K:=K) rfl hu) (bh (aa 0)) aj (aD _))))) (ai (iP (aN (Me T) hr (ab (aa 1) ad)) (eN (K:=K) rfl rfl (bR (ba (i:=4) jn.nd rfl (by first | exact Or.inl rfl | exact Or.inr rfl)) (bR (ba (i:=5) jn.nd rfl (by first | exact Or.inl rfl | exact Or.inr rfl)) eK))))
  (ah (al (bK (ab bX (ab (aa 4) (ab (aa 5) ad))))))) aG)
  (ai (aF (bZ (fF (av (bo (K:=K) rfl hu) (bh (aa 0)) aj (aD _)) (fX (av (bo (K:=K) rfl hu) (bh (aa 1)) aj (aD _))))) (ah (al (bK (ab bX (ab (aS ad) (ab (aS ad) ad)))))) aG)
  (ah (al (bK (ab (aL (aM (K:=K) rfl) (aS (lX rfl)) (bh (bh (aa 0))) (λ_ _=>rfl)) (ab (aS ad) (ab (aS ad) ad)))))))))),?_⟩
 refine⟨_,_,rfl,by decide,by decide,λn n0 n1=>?_⟩
 refine A0 (p:=c%8=3) (q:=c%8=4) (λ_=>?_) (λ_ _=>?_)
 ·refine⟨n,rfl,λp q r ns ms H1 s1 hp hq hr_ okn okm=>?_⟩
  refine⟨p,_,rfl,.of hp,rfl,_,_,rfl,_,_,rfl,rfl,?_⟩
  exact⟨sz rfl,λp2 H2 g2=>k p2 (.sh ns ms) H2 (s1.trans g2.sm) ⟨q,r,g2.at_,g2.sm _ _ hq,g2.sm _ _ hr_,okn,okm⟩⟩
 refine A0 (p:=c%8=5) (q:=c%8=6) (λ_=>?_) (λ_ _=>?_)
 ·refine⟨n,rfl,n0,λp q r qs es H1 s1 hp hq hr_ rw1 ok=>?_⟩
  refine⟨p,_,rfl,.of hp,rfl,_,_,rfl,_,_,rfl,rfl,?_⟩
  exact⟨sz rfl,λp2 H2 g2=>k p2 (.tb es) H2 (s1.trans g2.sm) ⟨q,r,g2.at_,g2.sm _ _ hq,⟨qs,g2.sm _ _ hr_,rw1.mono g2.sm⟩,ok⟩⟩
 have last : ∀ H0,af H H0->∀ M:Md,(M=.ld\/(∃ h,M=.pr h)\/M=.br)->∀ pa H1 pb H2 p3 H3,aZ H0 pa (.lst []) H1->aZ H1 pb (.lst []) H2->aZ H2 p3 (.tup [.str (eA M),.ref pa,.ref pb]) H3->Q (.ref p3) H3:=by
  intro H0 s0 M hM pa H1 pb H2 p3 H3 g1 g2 g3
  refine k p3 M H3 (s0.trans (g1.sm.trans (g2.sm.trans g3.sm))) ⟨pa,pb,g3.at_,?_⟩
  rcases hM with rfl | ⟨h,rfl⟩ | rfl <;> exact⟨g3.sm _ _ (g2.sm _ _ g1.at_),g3.sm _ _ g2.at_⟩
 have bN : ∀ i:Int,0<=i->i < 3->∃ M:Md,(M=.ld\/(∃ h,M=.pr h)\/M=.br)/\cR [V.str "lead",.str "high",.str "low"] i=some (.str (eA M)):=by
  intro i i0 i3
  rcases (show i=0\/i=1\/i=2 by omega) with rfl | rfl | rfl
  ·exact⟨.ld,.inl rfl,rfl⟩
  ·exact⟨.pr true,.inr (.inl ⟨_,rfl⟩),rfl⟩
  ·exact⟨.pr false,.inr (.inl ⟨_,rfl⟩),rfl⟩
 have fin : ∀ {R:VK},(∀ p H',(∃ M:Md,(M=.ld\/(∃ h,M=.pr h)\/M=.br)/\∃ pa H1 pb H2 H0,af H H0/\aZ H0 pa (.lst []) H1/\aZ H1 pb (.lst []) H2/\aZ H2 p (.tup [.str (eA M),.ref pa,.ref pb]) H')->Q (.ref p) H'):=λ{R} p H' h=>by
  obtain⟨M,hM,pa,H1,pb,H2,H0,s0,g1,g2,g3⟩:=h
  exact last H0 s0 M hM pa H1 pb H2 p H' g1 g2 g3
 have tail : ∀ (hx:True),sF (jf (fW (tp K) (mh (rN [V.str "lead",V.str "high",V.str "low"])) (om 3 (om 8 (mV 0)))) (jf (mh iD) (jf (mh iD) iD))) [some (.int c),some (.int n),none,none,none,none] H Q:=by
  intro _
  refine⟨sz rfl,λp0 H0 g0=>?_⟩
  obtain⟨M,hM,eM⟩:=bN (c%8%3) (by omega) (by omega)
  refine⟨_,_,.inl g0.lst,eM,?_⟩
  refine⟨sz rfl,λpa H1 g1=>?_⟩
  refine⟨sz rfl,λpb H2 g2=>?_⟩
  exact⟨sz rfl,λp3 H3 g3=>last H0 g0.sm M hM pa H1 pb H2 p3 H3 g1 g2 g3⟩
 refine ak (λ_=>?_) (λ_=>?_)
 ·refine ak (λ_=>?_) (λ_=>?_)
  ·refine⟨sz rfl,λpa H1 g1=>?_⟩
   refine⟨sz rfl,λpb H2 g2=>?_⟩
   exact⟨sz rfl,λp3 H3 g3=>last H (af.refl _) .br (.inr (.inr rfl)) pa H1 pb H2 p3 H3 g1 g2 g3⟩
  ·exact tail trivial
 ·exact tail trivial
def Mt:Md->Kt->Prop
 | .ld,D=>D=.ld
 | .pr h,D=>D=.pr h
 | .sh ns ms,D=>∃ f,D=.sh f ns ms
 | .tb es,D=>∃ f,D=.tb f es
 | .br,D=>D=.br
def Fm(t:Adr):Sp:=λvs H Q _=>∃ (p:Addr) (M:Md),vs=[.ref p]/\Mod H p M/\∀ o D H',af H H'->Mt M D->TN t H' o D->Q (.ref o) H'
theorem Mb (T:Txt w K mg t):bp P w K mg base "_law_tongue" 8 t.xn t.tD ["_law_model_here"] (Fm t):=by
 refine⟨T.Nk,T.DD.kp,T.Pw,T.DD.okQ nK (λvs H Q E h=>by obtain⟨p,M,rfl,_⟩:=h; rfl) λcdv A outer s H vs Q E hr h=>?_⟩
 obtain⟨p,M,rfl,⟨a,b,hp,ct⟩,k⟩:=h
 have hu:=hr.units
 refine⟨_,(ai (iP (aa 0) (eN (K:=K) rfl rfl (bR (ba (i:=1) nK.nd rfl (by first | exact Or.inl rfl | exact Or.inr rfl)) (bR (ba (i:=2) nK.nd rfl (by first | exact Or.inl rfl | exact Or.inr rfl)) (bR (ba (i:=3) nK.nd rfl (by first | exact Or.inl rfl | exact Or.inr rfl)) eK)))))
  (ai (aF (av (bo (K:=K) rfl hu) (aa 1) bX (aD _)) (ah (al (nV T.KQ T.Ni))) aG)
  (ai (aF (bZ (dv (av (bo (K:=K) rfl hu) (aa 1) bX (aD _)) (du (av (bo (K:=K) rfl hu) (aa 1) bX (aD _))))) (ah (al (gp (L0 T) hr (ab (aa 1) ad)))) aG)
  (ai (aF (av (bo (K:=K) rfl hu) (aa 1) bX (aD _)) (ah (al (gp (LX T) hr (ab (dR (fw (K:=K) rfl) T.n_list PyProof.Rows.boot_list (ab (aa 2) ad)) (ab (dR (fw (K:=K) rfl) T.n_list PyProof.Rows.boot_list (ab (aa 3) ad)) ad))))) aG)
  (ai (aF (av (bo (K:=K) rfl hu) (aa 1) bX (aD _)) (ah (al (gp (LW T) hr (ab (fh rfl (cG.of (fns:=(ag iG).names) (N:=["_law_model_here", "_law_word", "_law_first", "_law_second"]) (Nc:=["_law_sign", "_law_row_here"]) (nv:=2) (caps:=[]) rfl rfl (by decide +kernel)) (HM (K:=K) rfl rfl T.n_zip (ab (aa 2) (ab (aa 3) ad))) (λ_ _ _ _=>(eN (K:=K) rfl (n:=2) rfl (bR (ba (i:=0) (show List.Nodup (["_law_sign", "_law_row_here"]:List Str) by decide +kernel) rfl (Or.inl rfl) (Or.inr rfl)) (bR (ba (i:=1) (show List.Nodup (["_law_sign", "_law_row_here"]:List Str) by decide +kernel) rfl (Or.inl rfl) (Or.inr rfl)) eK)))) (λ_ _ _ _=>d6) (λ_ _ _ _=>(bK (ab (aa 0) (ab (dR (fw (K:=K) rfl) T.n_list PyProof.Rows.boot_list (ab (aa 1) ad)) ad))))) ad)))) aG)
  (ah (al (nV T.KN T.M6)))))))),?_⟩
 refine⟨p,_,rfl,.of hp,rfl,_,_,rfl,_,_,rfl,_,_,rfl,rfl,?_⟩
 cases M with
 | ld =>
  refine⟨_,_,ap.str _,ap.str _,aA eR,aA eR,?_⟩
  refine ak (λ_=>?_) (λz=>absurd (show PyData.eqv (.str "lead") (.str "lead")=true by decide +kernel) z)
  refine λx dx hx hdx hne=>?_
  exact k x .ld _ (fg hx hdx) rfl ⟨dx,aQ⟩
 | pr h =>
  cases h with
  | true =>
   refine⟨_,_,ap.str _,ap.str _,aA dH,aA eR,?_⟩
   refine ak (λz=>absurd (show PyData.eqv (.str "high") (.str "lead")=true from z) (by decide +kernel)) (λ_=>?_)
   refine⟨_,_,ap.str _,ap.str _,aA dH,aA dH,?_⟩
   refine ak (λ_=>?_) (λz=>absurd (show PyData.eqv (.str "high") (.str "high")=true by decide +kernel) z)
   refine gU ?_
   refine λx dx hx hdx hne=>?_
   refine⟨x,dx,true,rfl,aQ,rfl,?_⟩
   refine k x (.pr true) _ (λc u e=>?_) rfl ⟨dx,aQ⟩
   rw[aw (aH e hx)]
   exact fg hx hdx c u e
  | false =>
   refine⟨_,_,ap.str _,ap.str _,aA d9,aA eR,?_⟩
   refine ak (λz=>absurd (show PyData.eqv (.str "low") (.str "lead")=true from z) (by decide +kernel)) (λ_=>?_)
   refine⟨_,_,ap.str _,ap.str _,aA d9,aA dH,?_⟩
   refine ak (λz=>absurd (show PyData.eqv (.str "low") (.str "high")=true from z) (by decide +kernel)) (λ_=>?_)
   refine⟨_,_,ap.str _,ap.str _,aA d9,aA d9,?_⟩
   refine ak (λ_=>?_) (λz=>absurd (show PyData.eqv (.str "low") (.str "low")=true by decide +kernel) z)
   refine λx dx hx hdx hne=>?_
   refine⟨x,dx,false,rfl,aQ,rfl,?_⟩
   refine k x (.pr false) _ (λc u e=>?_) rfl ⟨dx,aQ⟩
   rw[aw (aH e hx)]
   exact fg hx hdx c u e
 | sh ns ms =>
  obtain⟨ha,hb,okn,okm⟩:=ct
  refine⟨_,_,ap.str _,ap.str _,aA dG,aA eR,?_⟩
  refine ak (λz=>absurd (show PyData.eqv (.str "shift") (.str "lead")=true from z) (by decide +kernel)) (λ_=>?_)
  refine⟨_,_,ap.str _,ap.str _,aA dG,aA dH,?_⟩
  refine ak (λz=>absurd (show PyData.eqv (.str "shift") (.str "high")=true from z) (by decide +kernel)) (λ_=>?_)
  refine⟨_,_,ap.str _,ap.str _,aA dG,aA d9,?_⟩
  refine ak (λz=>absurd (show PyData.eqv (.str "shift") (.str "low")=true from z) (by decide +kernel)) (λ_=>?_)
  refine⟨_,_,ap.str _,ap.str _,aA dG,aA dG,?_⟩
  refine ak (λ_=>?_) (λz=>absurd (show PyData.eqv (.str "shift") (.str "shift")=true by decide +kernel) z)
  refine⟨_,.inl (.of ha),λq H1 g1=>?_⟩
  refine⟨_,.inl (.of (g1.sm _ _ hb)),λr H2 g2=>?_⟩
  refine λx dx hx hdx hne=>?_
  have s:=fg (C:=t.bL) hx hdx
  have q2:=g2.sm _ _ g1.at_
  refine⟨x,dx,q,r,ns,ms,rfl,aQ,.of (s _ _ q2),.of (s _ _ g2.at_),okn,okm,aH q2 hx,aH g2.at_ hx,λfp H8 k8 tg8 fr=>⟨rfl,?_⟩⟩
  refine k x (.sh fp ns ms) H8 (λc u e=>k8 _ _ (aH (g2.sm _ _ (g1.sm _ _ e)) hx) (s _ _ (g2.sm _ _ (g1.sm _ _ e)))) ⟨fp,rfl⟩ tg8
 | tb es =>
  obtain⟨ha,⟨qs,hb,rw1⟩,ok⟩:=ct
  refine⟨_,_,ap.str _,ap.str _,aA eQ,aA eR,?_⟩
  refine ak (λz=>absurd (show PyData.eqv (.str "table") (.str "lead")=true from z) (by decide +kernel)) (λ_=>?_)
  refine⟨_,_,ap.str _,ap.str _,aA eQ,aA dH,?_⟩
  refine ak (λz=>absurd (show PyData.eqv (.str "table") (.str "high")=true from z) (by decide +kernel)) (λ_=>?_)
  refine⟨_,_,ap.str _,ap.str _,aA eQ,aA d9,?_⟩
  refine ak (λz=>absurd (show PyData.eqv (.str "table") (.str "low")=true from z) (by decide +kernel)) (λ_=>?_)
  refine⟨_,_,ap.str _,ap.str _,aA eQ,aA dG,?_⟩
  refine ak (λz=>absurd (show PyData.eqv (.str "table") (.str "shift")=true from z) (by decide +kernel)) (λ_=>?_)
  refine⟨_,_,ap.str _,ap.str _,aA eQ,aA eQ,?_⟩
  refine ak (λ_=>?_) (λz=>absurd (show PyData.eqv (.str "table") (.str "table")=true by decide +kernel) z)
  have l64:=ok.l
  have lq:=rw1.1
  refine⟨a,b,_,_,rfl,.of ha,.of hb,?_⟩
  refine OQ (K:=K) (a:=a) (b:=b) (xs:=(es.map λe=>e.1).map V.int) (zs:=qs.map V.ref) (cs:=[]) (by simp[lq]) (λi ys H'=>af H H'/\∃ ps:List Addr,ys=ps.map V.ref/\ps.length=i/\lK H' ps (es.take i)) ⟨af.refl _,[],rfl,rfl,cB.nil⟩ (λi ys H' hi z=>⟨z.1.seq (.of ha),z.1.seq (.of hb),by obtain⟨_,ps,rfl,hl,_⟩:=z; rw[List.length_map]; omega⟩) (bB (by rw[List.length_map,List.length_map]; omega)) (λi x z ys H2 H3 N hx hz pv s3 hN=>?_) λys H2 pf H3 pv g3=>?_
  ·obtain⟨n,hn,rfl⟩:=dn hx
   obtain⟨q,hq,rfl⟩:=nS hz
   obtain⟨s2,ps,rfl,hl,en⟩:=pv
   obtain⟨e,he,hrow⟩:=rw1.right hq
   rw[List.getElem?_map,he]at hn
   cases hn
   simp only [fV,if_true]
   have s02:=s2.trans s3
   refine⟨_,.inl (.of (s02 _ _ hrow)),λq2 H4 g4=>?_⟩
   refine⟨sz rfl,λp5 H5 g5=>?_⟩
   refine hN _ _ ⟨s02.trans (g4.sm.trans g5.sm),ps++[p5],by rw[List.map_append]; rfl,by rw[List.length_append,hl]; rfl,?_⟩
   rw[ff he]
   refine cB.app (en.mono (s3.trans (g4.sm.trans g5.sm))) (cB.cons ⟨⟨q2,g5.at_,g5.sm _ _ g4.at_⟩,?_⟩ cB.nil)
   have:=ok.sg e (List.mem_of_getElem? he)
   exact⟨this.2.1,this.2.2.1⟩
  obtain⟨s2,ps,rfl,hl,en⟩:=pv
  rw[List.length_map,List.length_map,List.take_length]at en
  refine λx dx hx hdx hne=>?_
  have s:=fg (C:=t.bW) hx hdx
  refine⟨x,dx,pf,ps,es,rfl,aQ,s _ _ g3.at_,en.mono (g3.sm.trans s),ok,λf H8 k8 tt8=>⟨rfl,?_⟩⟩
  exact k x (.tb f es) H8 (λc u e=>k8 _ _ (aH (g3.sm _ _ (s2 _ _ e)) hx) (s _ _ (g3.sm _ _ (s2 _ _ e)))) ⟨f,rfl⟩ ⟨tt8,ok⟩
 | br =>
  refine⟨_,_,ap.str _,ap.str _,aA kU,aA eR,?_⟩
  refine ak (λz=>absurd (show PyData.eqv (.str "bare") (.str "lead")=true from z) (by decide +kernel)) (λ_=>?_)
  refine⟨_,_,ap.str _,ap.str _,aA kU,aA dH,?_⟩
  refine ak (λz=>absurd (show PyData.eqv (.str "bare") (.str "high")=true from z) (by decide +kernel)) (λ_=>?_)
  refine⟨_,_,ap.str _,ap.str _,aA kU,aA d9,?_⟩
  refine ak (λz=>absurd (show PyData.eqv (.str "bare") (.str "low")=true from z) (by decide +kernel)) (λ_=>?_)
  refine⟨_,_,ap.str _,ap.str _,aA kU,aA dG,?_⟩
  refine ak (λz=>absurd (show PyData.eqv (.str "bare") (.str "shift")=true from z) (by decide +kernel)) (λ_=>?_)
  refine⟨_,_,ap.str _,ap.str _,aA kU,aA eQ,?_⟩
  refine ak (λz=>absurd (show PyData.eqv (.str "bare") (.str "table")=true from z) (by decide +kernel)) (λ_=>?_)
  refine λx dx hx hdx hne=>?_
  exact k x .br _ (fg hx hdx) rfl ⟨dx,aQ⟩
def FQ:Sp:=λvs H Q _=>∃ n,vs=[.int n]/\∀ p H',aZ H p (.lst ((row n).map V.int)) H'->Q (.ref p) H'
theorem Mm (T:Txt w K mg t):bp P w K mg base "_law_lead_row" 1 t.xz t.tP ["_law_sign"] FQ:=by
 refine⟨T.Nw,T.DO.kp,T.PL,T.DO.okQ Gw (λvs H Q E h=>by obtain⟨n,rfl,_⟩:=h; rfl) λcdv A outer s H vs Q E hr h=>?_⟩
 obtain⟨n,rfl,k⟩:=h
 refine⟨_,(ai (aF (av dA (aa 0) aj (aD _)) (ah (al (aS (ab (aa 0) ad)))) aG)
  (ai (aF (av dA (aa 0) aj (aD _)) (ah (al (aS (ab (au (aX (K:=K) rfl) aj (bH (aa 0))) (ab (au (aX (K:=K) rfl) aj (bh (aa 0))) ad))))) aG)
  (ai (aF (av dA (aa 0) aj (aD _)) (ah (al (aS (ab (au (aX (K:=K) rfl) aj (bH (aa 0))) (ab (au (aX (K:=K) rfl) aj (bh (bH (aa 0)))) (ab (au (aX (K:=K) rfl) aj (bh (aa 0))) ad)))))) aG)
  (ah (al (aS (ab (au (aX (K:=K) rfl) aj (bH (aa 0))) (ab (au (aX (K:=K) rfl) aj (bh (bH (aa 0)))) (ab (au (aX (K:=K) rfl) aj (bh (bH (aa 0)))) (ab (au (aX (K:=K) rfl) aj (bh (aa 0))) ad)))))))))),?_⟩
 unfold row at k
 refine ak (λc1=>?_) (λc1=>?_)
 ·rw[if_pos (of_decide_eq_true c1)]at k
  exact⟨sz rfl,k⟩
 rw[if_neg (λz=>c1 (decide_eq_true z))]at k
 refine ak (λc2=>?_) (λc2=>?_)
 ·rw[if_pos (of_decide_eq_true c2)]at k
  exact⟨sz rfl,k⟩
 rw[if_neg (λz=>c2 (decide_eq_true z))]at k
 refine ak (λc3=>?_) (λc3=>?_)
 ·rw[if_pos (of_decide_eq_true c3)]at k
  exact⟨sz rfl,k⟩
 rw[if_neg (λz=>c3 (decide_eq_true z))]at k
 exact⟨sz rfl,k⟩
def FE:Sp:=λvs H Q _=>∃ (n:Int) (h:Bool),vs=[.int n,.str (f6 h)]/\∀ p H',af H H'->H p=none->H' p=some (.lst ((d8 h n).map V.int))->Q (.ref p) H'
theorem Mi (T:Txt w K mg t):bp P w K mg base "_law_pair_row" 1 t.xv t.tK ["_law_sign", "_law_word"] FE:=by
 refine⟨T.Nr,T.DK.kp,T.PF,T.DK.okQ iF (λvs H Q E h=>by obtain⟨n,h,rfl,_⟩:=h; rfl) λcdv A outer s H vs Q E hr h=>?_⟩
 obtain⟨n,h,rfl,k⟩:=h
 have hu:=hr.units
 refine⟨_,(ai (aJ (i:=2) iF.nd rfl (by first | exact Or.inl rfl | exact Or.inr rfl) (aS (ab (aa 0) ad)))
  (ai (aF (av gy (aa 0) aj (aD _)) (ah (aJ (i:=2) iF.nd rfl (by first | exact Or.inl rfl | exact Or.inr rfl) (aS (ab (au (aX (K:=K) rfl) aj (bH (au cv (aa 0) aj))) (ab (au (aX (K:=K) rfl) aj (bh (aa 0))) ad))))) aG)
  (ai (aJ (i:=3) iF.nd rfl (by first | exact Or.inl rfl | exact Or.inr rfl) (aS ad))
  (ai (dw PassesOwn.never rfl (dz (K:=K) rfl (aa 2)) (ba (i:=4) iF.nd rfl (by first | exact Or.inl rfl | exact Or.inr rfl)) (ah (aF (av (bo (K:=K) rfl hu) (aa 1) bX (aD _)) (ah (aJ (i:=3) iF.nd rfl (by first | exact Or.inl rfl | exact Or.inr rfl) (au (aX (K:=K) rfl) (aa 3) (aS (ab (bH (aa 4)) (ab (bh (aa 4)) ad)))))) (ah (aJ (i:=3) iF.nd rfl (by first | exact Or.inl rfl | exact Or.inr rfl) (au (aX (K:=K) rfl) (aa 3) (aS (ab (bh (aa 4)) (ab (bH (aa 4)) ad)))))))))
  (ah (al (aa 3))))))),?_⟩
 refine⟨sz rfl,λp1 H1 g1=>?_⟩
 dsimp only [cO]
 refine dh (λσ' H'=>af H H'/\∃ pu,H' pu=some (.lst ((cf n).map V.int))/\σ'=[some (.int n),some (.str (f6 h)),some (.ref pu),none,none]) (λnx hn=>?_) ?_
 ·refine ak (λc=>?_) (λc=>?_)
  ·have c:n > 65535:=of_decide_eq_true c
   refine⟨sz rfl,λp2 H2 g2=>?_⟩
   refine hn _ _ ⟨g1.sm.trans g2.sm,p2,?_,rfl⟩
   have e:cf n=[55296+(n - 65536) / 1024,56320+n%1024]:=by
    unfold cf
    rw[if_neg (by omega)]
    congr 2
    omega
   rw[e]
   exact g2.at_
  ·have c : ¬ n > 65535:=λz=>c (decide_eq_true z)
   refine hn _ _ ⟨g1.sm,p1,?_,rfl⟩
   have e:cf n=[n]:=by unfold cf; rw[if_pos (by omega)]
   rw[e]
   exact g1.at_
 rintro σ' H2 ⟨s2,pu,hu2,rfl⟩
 have lu:=rG n
 refine⟨sz rfl,λp3 H3 g3=>?_⟩
 refine⟨pu,rfl,⟨_,.of (g3.sm _ _ hu2)⟩,iY (K:=K) (a:=pu) (xs:=(cf n).map V.int) (λi σ H'=>af H3 H'/\∃ (pr:Addr) (v4:Option V),H pr=none/\H' pr=some (.lst ((((cf n).take i).flatMap (ub h)).map V.int))/\σ=[some (.int n),some (.str (f6 h)),some (.ref pu),some (.ref pr),v4]) ⟨af.refl _,p3,_,s2.free g3.nw,g3.at_,rfl⟩ (λi σ H' _ z=>z.1.seq (.of (g3.sm _ _ hu2))) ?_ ?_⟩
 ·rintro i x σ H4 hx ⟨s4,pr,v4,_,h4,rfl⟩
  obtain⟨m,hm,rfl⟩:=dn hx
  have s04:=s2.trans (g3.sm.trans s4)
  have hi:i < (cf n).length:=(List.getElem?_eq_some_iff.mp hm).1
  have fl:=mz h ((cf n).take i)
  have lt:((cf n).take i).length<=2:=by rw[List.length_take]; omega
  have e:((cf n).take (i+1)).flatMap (ub h)=((cf n).take i).flatMap (ub h)++ub h m:=by rw[ff hm,List.flatMap_append]; simp
  cases h with
  | true =>
   refine⟨_,_,ap.str _,ap.str _,aA dH,aA dH,?_⟩
   refine ak (λ_=>?_) (λz=>absurd (show PyData.eqv (.str "high") (.str "high")=true by decide +kernel) z)
   refine⟨sz rfl,λp5 H5 g5=>?_⟩
   refine⟨_,_,.of (g5.sm _ _ h4),g5.lst,bB (by rw[List.length_map]; show _+2<=_; omega),λp6 H6 g6=>?_⟩
   refine⟨s4.trans (g5.sm.trans g6.sm),p6,_,(s04.trans g5.sm).free g6.nw,?_,rfl⟩
   rw[e,List.map_append]
   exact g6.at_
  | false =>
   refine⟨_,_,ap.str _,ap.str _,aA d9,aA dH,?_⟩
   refine ak (λz=>absurd (show PyData.eqv (.str "low") (.str "high")=true from z) (by decide +kernel)) (λ_=>?_)
   refine⟨sz rfl,λp5 H5 g5=>?_⟩
   refine⟨_,_,.of (g5.sm _ _ h4),g5.lst,bB (by rw[List.length_map]; show _+2<=_; omega),λp6 H6 g6=>?_⟩
   refine⟨s4.trans (g5.sm.trans g6.sm),p6,_,(s04.trans g5.sm).free g6.nw,?_,rfl⟩
   rw[e,List.map_append]
   exact g6.at_
 ·rintro σ H4 ⟨s4,pr,v4,n4,h4,rfl⟩
  rw[List.length_map,List.take_length]at h4
  exact k pr H4 (s2.trans (g3.sm.trans s4)) n4 h4
theorem mq(n:Int)(ns:List Int):cm (.int n) (ns.map V.int)=decide (n∈ns):=LU n ns
theorem iZ(ns:List Int):(ns.map V.int).all eS=true:=by
 rw[List.all_eq_true]
 intro x hx
 obtain⟨n,_,rfl⟩:=List.mem_map.mp hx
 rfl
def Fr(t:Adr):Sp:=λvs H Q _=>∃ (p:Addr) (M:Md) (D:Kt) (n g:Int),vs=[.ref p,.int n,.int g]/\Mod H p M/\Mt M D/\fQ D n/\bE D g/\∀ pr q H',af H H'->H q=none->H' q=some (.lst ((dY D g n).1.map V.int))->H' pr=some (.tup [.ref q,.int (dY D g n).2])->Q (.ref pr) H'
theorem Mf (T:Txt w K mg t):bp P w K mg base "_law_spell" 2 t.xq t.tG ["_law_model_here", "_law_sign", "_law_page"] (Fr t):=by
 refine⟨T.Nn,T.DG.kp,T.Pz,T.DG.okQ nL (λvs H Q E h=>by obtain⟨p,M,D,n,g,rfl,_⟩:=h; rfl) λcdv A outer s H vs Q E hr h=>?_⟩
 obtain⟨p,M,D,n,g,rfl,⟨a,b,hp,ct⟩,mt,hin,pg,k⟩:=h
 have hu:=hr.units
 refine⟨_,(ai (iP (aa 0) (eN (K:=K) rfl rfl (bR (ba (i:=3) nL.nd rfl (by first | exact Or.inl rfl | exact Or.inr rfl)) (bR (ba (i:=4) nL.nd rfl (by first | exact Or.inl rfl | exact Or.inr rfl)) (bR (ba (i:=5) nL.nd rfl (by first | exact Or.inl rfl | exact Or.inr rfl)) eK)))))
  (ai (aF (av (bo (K:=K) rfl hu) (aa 3) bX (aD _)) (ah (al (bK (ab (aN (Mm T) hr (ab (aa 1) ad)) (ab aj ad))))) aG)
  (ai (aF (bZ (dv (av (bo (K:=K) rfl hu) (aa 3) bX (aD _)) (du (av (bo (K:=K) rfl hu) (aa 3) bX (aD _))))) (ah (al (bK (ab (aN (Mi T) hr (ab (aa 1) (ab (aa 3) ad))) (ab aj ad))))) aG)
  (ai (aF (bZ (fF (av (bo (K:=K) rfl hu) (aa 3) bX (aD _)) (fX (av (oW (K:=K) rfl) (aa 1) (aa 4) (by with_unfolding_all rfl))))) (ah (al (bK (ab (dR (fw (K:=K) rfl) T.n_list PyProof.Rows.boot_list (ab (aL (aM (K:=K) rfl) (aa 5) (dQ (K:=K) rfl PySem.F.plainAttrs_list PySem.F.slot_list_index PySem.F.type_list_index (sD (K:=K) rfl) (aa 4) (ab (aa 1) ad)) (λ_ _=>rfl)) ad)) (ab aj ad))))) aG)
  (ai (aF (bZ (fF (av (bo (K:=K) rfl hu) (aa 3) bX (aD _)) (fX (av (oW (K:=K) rfl) (aa 1) (aL (aM (K:=K) rfl) (aa 0) (au (aX (K:=K) rfl) aj (aa 2)) (λ_ _=>rfl)) (by with_unfolding_all rfl))))) (ah (al (bK (ab (aS (ab (dQ (K:=K) rfl PySem.F.plainAttrs_list PySem.F.slot_list_index PySem.F.type_list_index (sD (K:=K) rfl) (aL (aM (K:=K) rfl) (aa 0) (au (aX (K:=K) rfl) aj (aa 2)) (λ_ _=>rfl)) (ab (aa 1) ad)) ad)) (ab (aa 2) ad))))) aG)
  (ai (aF (bZ (fF (av (bo (K:=K) rfl hu) (aa 3) bX (aD _)) (fX (av (oW (K:=K) rfl) (aa 1) (aL (aM (K:=K) rfl) (aa 0) (au cv aj (aa 2)) (λ_ _=>rfl)) (by with_unfolding_all rfl))))) (ah (al (bK (ab (aS (ab (au cv aj (aa 2)) (ab (dQ (K:=K) rfl PySem.F.plainAttrs_list PySem.F.slot_list_index PySem.F.type_list_index (sD (K:=K) rfl) (aL (aM (K:=K) rfl) (aa 0) (au cv aj (aa 2)) (λ_ _=>rfl)) (ab (aa 1) ad)) ad))) (ab (au cv aj (aa 2)) ad))))) aG)
  (ah (al bY)))))))),?_⟩
 refine⟨p,_,rfl,.of hp,rfl,_,_,rfl,_,_,rfl,_,_,rfl,rfl,?_⟩
 cases M with
 | ld =>
  obtain rfl:D=.ld:=mt
  obtain rfl:g=0:=pg
  refine⟨_,_,ap.str _,ap.str _,aA eR,aA eR,?_⟩
  refine ak (λ_=>?_) (λz=>absurd (show PyData.eqv (.str "lead") (.str "lead")=true by decide +kernel) z)
  refine⟨n,rfl,λq H1 g1=>?_⟩
  exact⟨sz rfl,λp2 H2 g2=>k p2 q H2 (g1.sm.trans g2.sm) g1.nw (g2.sm _ _ g1.at_) g2.at_⟩
 | pr h =>
  obtain rfl:D=.pr h:=mt
  obtain rfl:g=0:=pg
  cases h with
  | true =>
   refine⟨_,_,ap.str _,ap.str _,aA dH,aA eR,?_⟩
   refine ak (λz=>absurd (show PyData.eqv (.str "high") (.str "lead")=true from z) (by decide +kernel)) (λ_=>?_)
   refine⟨_,_,ap.str _,ap.str _,aA dH,aA dH,?_⟩
   refine ak (λ_=>?_) (λz=>absurd (show PyData.eqv (.str "high") (.str "high")=true by decide +kernel) z)
   refine gU ?_
   refine⟨n,true,rfl,λq H1 s1 nq hq=>?_⟩
   exact⟨sz rfl,λp2 H2 g2=>k p2 q H2 (s1.trans g2.sm) nq (g2.sm _ _ hq) g2.at_⟩
  | false =>
   refine⟨_,_,ap.str _,ap.str _,aA d9,aA eR,?_⟩
   refine ak (λz=>absurd (show PyData.eqv (.str "low") (.str "lead")=true from z) (by decide +kernel)) (λ_=>?_)
   refine⟨_,_,ap.str _,ap.str _,aA d9,aA dH,?_⟩
   refine ak (λz=>absurd (show PyData.eqv (.str "low") (.str "high")=true from z) (by decide +kernel)) (λ_=>?_)
   refine⟨_,_,ap.str _,ap.str _,aA d9,aA d9,?_⟩
   refine ak (λ_=>?_) (λz=>absurd (show PyData.eqv (.str "low") (.str "low")=true by decide +kernel) z)
   refine⟨n,false,rfl,λq H1 s1 nq hq=>?_⟩
   exact⟨sz rfl,λp2 H2 g2=>k p2 q H2 (s1.trans g2.sm) nq (g2.sm _ _ hq) g2.at_⟩
 | br =>
  obtain rfl:D=.br:=mt
  exact hin.elim
 | tb es =>
  obtain⟨f,rfl⟩:=mt
  obtain rfl:g=0:=pg
  obtain⟨ha,⟨qs,hb,rw1⟩,ok⟩:=ct
  refine⟨_,_,ap.str _,ap.str _,aA eQ,aA eR,?_⟩
  refine ak (λz=>absurd (show PyData.eqv (.str "table") (.str "lead")=true from z) (by decide +kernel)) (λ_=>?_)
  refine⟨_,_,ap.str _,ap.str _,aA eQ,aA dH,?_⟩
  refine ak (λz=>absurd (show PyData.eqv (.str "table") (.str "high")=true from z) (by decide +kernel)) (λ_=>?_)
  refine⟨_,_,ap.str _,ap.str _,aA eQ,aA d9,?_⟩
  refine ak (λz=>absurd (show PyData.eqv (.str "table") (.str "low")=true from z) (by decide +kernel)) (λ_=>?_)
  refine⟨_,_,ap.str _,ap.str _,aA eQ,aA eQ,?_⟩
  refine ak (λ_=>?_) (λz=>absurd (show PyData.eqv (.str "table") (.str "table")=true by decide +kernel) z)
  obtain⟨e0,he0,en0,ef0⟩:=ly hin
  have hm:n∈es.map λe=>e.1:=List.mem_map.mpr ⟨e0,he0,en0⟩
  refine⟨_,.inl (.of ha),rfl,iZ _,?_⟩
  refine ak (λ_=>?_) (λz=>?_)
  ·obtain⟨j,hj,_⟩:=iV hm
   obtain⟨e1,e2⟩:=ii hj
   rw[List.getElem?_map]at e1
   obtain⟨ej,hej,enj⟩:=Option.map_eq_some_iff.mp e1
   obtain⟨q,hq,hrow⟩:=rw1.left hej
   have ee:ej=e0:=by
    rcases ok.two (List.mem_of_getElem? hej) he0 with z | z
    ·exact z
    ·unfold fo at z
     rw[decide_eq_true (enj.trans en0.symm)]at z
     cases z
   refine⟨.inl ⟨rfl,_,.of ha⟩,?_⟩
   refine⟨_,_,_,j,rfl,rfl,ha,rfl,iZ _,⟨.int n,by rw[List.getElem?_map,List.getElem?_map,hej,<- enj]; rfl,by simp[db]⟩,λj' z hj' hz=>?_,?_⟩
   ·obtain⟨m,hm,rfl⟩:=dn hz
    have : ¬ m=n:=λy=>e2 j' hj' (by rw[<- y]; exact hm)
    simp[db,this]
   refine⟨_,.ref q,.inl (.of hb),aV (by rw[List.getElem?_map,hq]; rfl),?_⟩
   refine⟨_,.inl (.of hrow),λq2 H1 g1=>?_⟩
   have es':dY (.tb f es) 0 n=(e0.2,0):=by
    show (Option.map _ _).getD _=_
    rw[ef0]; rfl
   rw[ee]at g1
   exact⟨sz rfl,λp2 H2 g2=>k p2 q2 H2 (g1.sm.trans g2.sm) g1.nw (by rw[es']; exact g2.sm _ _ g1.at_) (by rw[es']; exact g2.at_)⟩
  ·have z : ¬ cm (.int n) ((es.map λe=>e.1).map V.int)=true:=z
   rw[mq]at z
   exact absurd (decide_eq_true hm) z
 | sh ns ms =>
  obtain⟨f,rfl⟩:=mt
  obtain⟨ha,hb,okn,okm⟩:=ct
  have two:cJ g:=pg
  refine⟨_,_,ap.str _,ap.str _,aA dG,aA eR,?_⟩
  refine ak (λz=>absurd (show PyData.eqv (.str "shift") (.str "lead")=true from z) (by decide +kernel)) (λ_=>?_)
  refine⟨_,_,ap.str _,ap.str _,aA dG,aA dH,?_⟩
  refine ak (λz=>absurd (show PyData.eqv (.str "shift") (.str "high")=true from z) (by decide +kernel)) (λ_=>?_)
  refine⟨_,_,ap.str _,ap.str _,aA dG,aA d9,?_⟩
  refine ak (λz=>absurd (show PyData.eqv (.str "shift") (.str "low")=true from z) (by decide +kernel)) (λ_=>?_)
  refine⟨_,_,ap.str _,ap.str _,aA dG,aA eQ,?_⟩
  refine ak (λz=>absurd (show PyData.eqv (.str "shift") (.str "table")=true from z) (by decide +kernel)) (λ_=>?_)
  refine⟨_,_,ap.str _,ap.str _,aA dG,aA dG,?_⟩
  refine ak (λ_=>?_) (λz=>absurd (show PyData.eqv (.str "shift") (.str "shift")=true by decide +kernel) z)
  have hP:H (am g a b)=some (.lst ((am g ns ms).map V.int)):=by
   rcases two with rfl | rfl
   ·exact ha
   ·exact hb
  have hO:H (am g b a)=some (.lst ((am g ms ns).map V.int)):=by
   rcases two with rfl | rfl
   ·exact hb
   ·exact ha
  have eP:cR [V.str (eA (.sh ns ms)),.ref a,.ref b] (1+g)=some (.ref (am g a b)):=by rcases two with rfl | rfl <;> rfl
  have eO:cR [V.str (eA (.sh ns ms)),.ref a,.ref b] (2 - g)=some (.ref (am g b a)):=by rcases two with rfl | rfl <;> rfl
  have mem:n∈am g ns ms\/n∈am g ms ns:=by
   rcases two with rfl | rfl
   ·exact hin
   ·exact hin.symm
  refine⟨_,_,.inr (.of hp),eP,?_⟩
  refine⟨_,.inl (.of hP),rfl,iZ _,?_⟩
  refine ak (λz=>?_) (λz=>?_)
  ·have z:cm (.int n) ((am g ns ms).map V.int)=true:=z
   rw[mq]at z
   obtain⟨j,hj,_⟩:=iV (of_decide_eq_true z)
   obtain⟨e1,e2⟩:=ii hj
   refine⟨_,_,.inr (.of hp),eP,?_⟩
   refine⟨.inl ⟨rfl,_,.of hP⟩,?_⟩
   refine⟨_,_,_,j,rfl,rfl,hP,rfl,iZ _,⟨.int n,by rw[List.getElem?_map,e1]; rfl,by simp[db]⟩,λj' z hj' hz=>?_,?_⟩
   ·obtain⟨m,hm,rfl⟩:=dn hz
    have : ¬ m=n:=λy=>e2 j' hj' (by rw[<- y]; exact hm)
    simp[db,this]
   have es':dY (.sh f ns ms) g n=([(j:Int)],g):=by
    show (dg (am g ns ms) (am g ms ns) g (.int n)).getD _=_
    unfold dg; dsimp only; rw[hj]; rfl
   refine⟨sz rfl,λq H1 g1=>?_⟩
   exact⟨sz rfl,λp2 H2 g2=>k p2 q H2 (g1.sm.trans g2.sm) g1.nw (by rw[es']; exact g2.sm _ _ g1.at_) (by rw[es']; exact g2.at_)⟩
  ·have z : ¬ cm (.int n) ((am g ns ms).map V.int)=true:=z
   rw[mq]at z
   have z:n∉am g ns ms:=λy=>z (decide_eq_true y)
   have hmO:=mem.resolve_left z
   refine⟨_,_,ap.str _,ap.str _,aA dG,aA dG,?_⟩
   refine ak (λ_=>?_) (λz=>absurd (show PyData.eqv (.str "shift") (.str "shift")=true by decide +kernel) z)
   refine⟨_,_,.inr (.of hp),eO,?_⟩
   refine⟨_,.inl (.of hO),rfl,iZ _,?_⟩
   refine ak (λ_=>?_) (λy=>?_)
   ·obtain⟨j,hj,_⟩:=iV hmO
    obtain⟨e1,e2⟩:=ii hj
    refine⟨_,_,.inr (.of hp),eO,?_⟩
    refine⟨.inl ⟨rfl,_,.of hO⟩,?_⟩
    refine⟨_,_,_,j,rfl,rfl,hO,rfl,iZ _,⟨.int n,by rw[List.getElem?_map,e1]; rfl,by simp[db]⟩,λj' z hj' hz=>?_,?_⟩
    ·obtain⟨m,hm,rfl⟩:=dn hz
     have : ¬ m=n:=λy=>e2 j' hj' (by rw[<- y]; exact hm)
     simp[db,this]
    have es':dY (.sh f ns ms) g n=([254+(1 - g),(j:Int)],1 - g):=by
     show (dg (am g ns ms) (am g ms ns) g (.int n)).getD _=_
     unfold dg; dsimp only; rw[fJ.mpr z]; dsimp only; rw[hj]; rfl
    have e255:(255:Int) - g=254+(1 - g):=by omega
    refine⟨sz rfl,λq H1 g1=>?_⟩
    dsimp only at g1
    rw[e255]at g1
    exact⟨sz rfl,λp2 H2 g2=>k p2 q H2 (g1.sm.trans g2.sm) g1.nw (by rw[es']; exact g2.sm _ _ g1.at_) (by rw[es']; exact g2.at_)⟩
   ·have y : ¬ cm (.int n) ((am g ms ns).map V.int)=true:=y
    rw[mq]at y
    exact absurd (decide_eq_true hmO) y
theorem JI(M:Md):PyData.strOk (eA M)=true:=by
 cases M with
 | ld=>exact eR
 | pr h=>cases h with
  | true=>exact dH
  | false=>exact d9
 | sh ns ms=>exact dG
 | tb es=>exact eQ
 | br=>exact kU
theorem J1 {M:Md} (h : ∀ ns ms,M ≠ .sh ns ms):PyData.eqv (.str (eA M)) (.str "shift")=false:=by
 cases M with
 | ld=>exact show PyData.eqv (.str "lead") (.str "shift")=false by decide +kernel
 | pr b=>cases b with
  | true=>exact show PyData.eqv (.str "high") (.str "shift")=false by decide +kernel
  | false=>exact show PyData.eqv (.str "low") (.str "shift")=false by decide +kernel
 | sh ns ms=>exact absurd rfl (h ns ms)
 | tb es=>exact show PyData.eqv (.str "table") (.str "shift")=false by decide +kernel
 | br=>exact show PyData.eqv (.str "bare") (.str "shift")=false by decide +kernel
def yK:Md->Bool
 | .ld=>true
 | .pr _=>true
 | _=>false
theorem By (M:Md):cm (.str (eA M)) [.str "lead",.str "high",.str "low"]=yK M:=by
 cases M with
 | ld=>exact show cm (.str "lead") [.str "lead",.str "high",.str "low"]=true by decide +kernel
 | pr h=>cases h with
  | true=>exact show cm (.str "high") [.str "lead",.str "high",.str "low"]=true by decide +kernel
  | false=>exact show cm (.str "low") [.str "lead",.str "high",.str "low"]=true by decide +kernel
 | sh ns ms=>exact show cm (.str "shift") [.str "lead",.str "high",.str "low"]=false by decide +kernel
 | tb es=>exact show cm (.str "table") [.str "lead",.str "high",.str "low"]=false by decide +kernel
 | br=>exact show cm (.str "bare") [.str "lead",.str "high",.str "low"]=false by decide +kernel
theorem Lq{M:Md}(h:yK M=true){D:Kt}(m:Mt M D){n:Int}(s:Sg n):fQ D n:=by
 cases M with
 | ld=>obtain rfl:D=.ld:=m; exact s
 | pr b=>obtain rfl:D=.pr b:=m; exact s
 | _=>cases h
def Rk:Md->Int->Prop
 | .sh ns ms,n=>n∉ns/\n∉ms
 | .tb es,n=>∀ e∈es,e.1≠n
 | _,_=>True
theorem LS(n:Int)(qs:List Addr):cm (.int n) (qs.map V.ref)=false:=by
 unfold cm
 rw[List.any_eq_false]
 intro x hx
 obtain⟨q,_,rfl⟩:=List.mem_map.mp hx
 simp[db]
theorem Mod.two{H:Hp}{p:Addr}{M:Md}(h:Mod H p M) : ∃ a b xs ys zs,H p=some (.tup [.str (eA M),.ref a,.ref b])/\H a=some (.lst (xs.map V.int))/\H b=some (.lst ys)/\(∀ y∈ys,Rl H y)/\(∀ n:Int,cm (.int n) ys=decide (n∈zs))/\xs.length<=250/\zs.length<=250/\(∀ n:Int,n∉xs->n∉zs->Rk M n)/\(yK M=false->∀ D,Mt M D->∀ n∈xs,fQ D n)/\(∀ ns ms,M=.sh ns ms->xs=ns/\zs=ms/\ys=ms.map V.int):=by
 obtain⟨a,b,hp,ct⟩:=h
 cases M with
 | ld=>exact⟨a,b,[],[],[],hp,ct.1,ct.2,(λ_ h=>nomatch h),λ_=>rfl,by decide,by decide,λ_ _ _=>trivial,(λh=>nomatch h),(λ_ _ h=>nomatch h)⟩
 | pr h=>exact⟨a,b,[],[],[],hp,ct.1,ct.2,(λ_ h=>nomatch h),λ_=>rfl,by decide,by decide,λ_ _ _=>trivial,(λh=>nomatch h),(λ_ _ h=>nomatch h)⟩
 | br=>exact⟨a,b,[],[],[],hp,ct.1,ct.2,(λ_ h=>nomatch h),λ_=>rfl,by decide,by decide,λ_ _ _=>trivial,(λ_ _ _ _ h=>nomatch h),(λ_ _ h=>nomatch h)⟩
 | sh ns ms =>
  obtain⟨ha,hb,okn,okm⟩:=ct
  refine⟨a,b,ns,_,ms,hp,ha,hb,λy hy=>?_,λn=>mq n ms,okn.2.2,okm.2.2,λn h1 h2=>⟨h1,h2⟩,λ_ D mt n hn=>?_,λns' ms' e=>?_⟩
  ·obtain⟨m,_,rfl⟩:=List.mem_map.mp hy; exact .inl rfl
  ·obtain⟨f,rfl⟩:=mt; exact .inl hn
  ·cases e; exact⟨rfl,rfl,rfl⟩
 | tb es =>
  obtain⟨ha,⟨qs,hb,rw1⟩,ok⟩:=ct
  refine⟨a,b,es.map λe=>e.1,_,[],hp,ha,hb,λy hy=>?_,λn=>LS n qs,by rw[List.length_map]; have:=ok.l; omega,by decide,λn h1 _ e he z=>h1 (List.mem_map.mpr ⟨e,he,z⟩),λ_ D mt n hn=>?_,(λ_ _ h=>nomatch h)⟩
  ·obtain⟨q,hq,rfl⟩:=List.mem_map.mp hy
   obtain⟨j,hj⟩:=List.mem_iff_getElem?.mp hq
   obtain⟨e,_,he⟩:=rw1.right hj
   exact .inr ⟨q,_,rfl,he⟩
  ·obtain⟨f,rfl⟩:=mt
   obtain⟨e,he,en⟩:=List.mem_map.mp hn
   exact⟨e,he,en⟩
def Fj(K:PySem.W.Frag):Sp:=λvs H Q _=>∃ (p c:Addr) (M:Md) (cs:List Int),vs=[.ref p,.ref c]/\Mod H p M/\aE K H c (cs.map V.int)/\cs.length<=100/\∀ q (ts:List Int) H',af H H'->H' q=some (.lst (ts.map V.int))->ts.length<=100->(ts=[]\/ts.length=cs.length)->(∀ D,Mt M D->∀ n∈ts,fQ D n)->Q (.ref q) H'
theorem Mc (T:Txt w K mg t):bp P w K mg base "_law_text" 3 t.xo t.tE ["_law_model_here", "_law_cells"] (Fj K):=by
 refine⟨T.Nl,T.DE.kp,T.Px,T.DE.okQ jl (λvs H Q E h=>by obtain⟨p,c,M,cs,rfl,_⟩:=h; rfl) λcdv A outer s H vs Q E hr h=>?_⟩
 obtain⟨p,c,M,cs,rfl,mod,hc,lc,k⟩:=h
 have hu:=hr.units
 obtain⟨a,b,xs,ys,zs,hp,ha,hb,fl,iy,lx,lz,lk,ld,sh⟩:=mod.two
 refine⟨_,(ai (iP (aa 0) (eN (K:=K) rfl rfl (bR (ba (i:=2) jl.nd rfl (by first | exact Or.inl rfl | exact Or.inr rfl)) (bR (ba (i:=3) jl.nd rfl (by first | exact Or.inl rfl | exact Or.inr rfl)) (bR (ba (i:=4) jl.nd rfl (by first | exact Or.inl rfl | exact Or.inr rfl)) eK)))))
  (ai (aF (av (oW (K:=K) rfl) (aa 2) (bK (lX rfl)) (by with_unfolding_all rfl)) (ah (al (fh rfl (cG.of (fns:=(ag gM).names) (N:=["_law_model_here", "_law_cells", "_law_word", "_law_first", "_law_second", "_law_some"]) (Nc:=["_law_cell"]) (nv:=1) (caps:=[]) rfl rfl (by decide +kernel)) (dz (K:=K) rfl (aa 1)) (λ_ _ _ _=>(ba (i:=0) (show List.Nodup (["_law_cell"]:List Str) by decide +kernel) rfl (Or.inl rfl) (Or.inr rfl))) (λ_ _ _ _=>d6) (λ_ _ _ _=>(aN (Mn T) hr (ab (aa 0) ad)))))) aG)
  (ai (aJ (i:=5) jl.nd rfl (by first | exact Or.inl rfl | exact Or.inr rfl) (dR (fw (K:=K) rfl) T.n_list PyProof.Rows.boot_list (ab (aa 3) ad)))
  (ai (aF (av (bo (K:=K) rfl hu) (aa 2) bX (aD _)) (ah (aJ (i:=5) jl.nd rfl (by first | exact Or.inl rfl | exact Or.inr rfl) (au (aX (K:=K) rfl) (aa 3) (fh rfl (cG.of (fns:=(ag gM).names) (N:=["_law_model_here", "_law_cells", "_law_word", "_law_first", "_law_second", "_law_some"]) (Nc:=["_law_sign", "_law_first"]) (nv:=1) (caps:=[3]) rfl rfl (by decide +kernel)) (dz (K:=K) rfl (aa 4)) (λ_ _ _ _=>(ba (i:=0) (show List.Nodup (["_law_sign", "_law_first"]:List Str) by decide +kernel) rfl (Or.inl rfl) (Or.inr rfl))) (λ_ _ _ _=>(AC (av (Cp (K:=K) rfl) (aa 0) (aa 1) (by with_unfolding_all rfl)))) (λ_ _ _ _=>(aa 0)))))) aG)
  (ai (aF (av (bo (K:=K) rfl hu) (aa 5) (aS ad) (aD _)) (ah (al (aS ad))) aG)
  (ah (al (fh rfl (cG.of (fns:=(ag gM).names) (N:=["_law_model_here", "_law_cells", "_law_word", "_law_first", "_law_second", "_law_some"]) (Nc:=["_law_cell", "_law_some"]) (nv:=1) (caps:=[5]) rfl rfl (by decide +kernel)) (dz (K:=K) rfl (aa 1)) (λ_ _ _ _=>(ba (i:=0) (show List.Nodup (["_law_cell", "_law_some"]:List Str) by decide +kernel) rfl (Or.inl rfl) (Or.inr rfl))) (λ_ _ _ _=>d6) (λ_ _ _ _=>(aL (aM (K:=K) rfl) (aa 1) (au oR (aa 0) (bi (bA (K:=K) rfl) T.n_len PySem.boot_len (ab (aa 1) ad))) (λ_ _=>rfl))))))))))),?_⟩
 refine⟨p,_,rfl,.of hp,rfl,_,_,rfl,_,_,rfl,_,_,rfl,rfl,?_⟩
 refine⟨sz rfl,λp1 H1 g1=>?_⟩
 refine⟨_,.inr g1.tup,rfl,rfl,?_⟩
 have hc1:=g1.sm.seq hc
 refine ak (λz=>?_) (λz=>?_)
 ·have z:cm (.str (eA M)) [.str "lead",.str "high",.str "low"]=true:=z
  rw[By]at z
  refine⟨c,rfl,⟨_,hc1⟩,mT (K:=K) (a:=c) (xs:=cs.map V.int) (λi ys H'=>af H1 H'/\∃ ts:List Int,ys=ts.map V.int/\ts.length=i/\∀ n∈ts,Sg n) ⟨af.refl _,[],rfl,rfl,(λn h=>nomatch h)⟩ (λi ys H' _ z=>⟨z.1.seq hc1,by obtain⟨_,ts,rfl,l,_⟩:=z; rw[List.length_map]; omega⟩) (bB (by rw[List.length_map]; omega)) (λi x ys H' N hx y hN=>?_) λys H' q H'' y g=>?_⟩
  ·obtain⟨s',ts,rfl,l,hs⟩:=y
   obtain⟨m,hm,rfl⟩:=dn hx
   simp only [fV,if_true]
   refine⟨m,rfl,λn H2 s2 hn=>hN _ _ ⟨s'.trans s2,ts++[n],by rw[List.map_append]; rfl,by rw[List.length_append,l]; rfl,λn' hn'=>?_⟩⟩
   rcases List.mem_append.mp hn' with y | y
   ·exact hs n' y
   ·rw[List.mem_singleton.mp y]; exact hn
  ·obtain⟨s',ts,rfl,l,hs⟩:=y
   rw[List.length_map]at l
   exact k q ts H'' (g1.sm.trans (s'.trans g.sm)) g.at_ (by omega) (.inr l) λD m n hn=>Lq z m (hs n hn)
 have z : ¬ cm (.str (eA M)) [.str "lead",.str "high",.str "low"]=true:=z
 rw[By,Bool.not_eq_true]at z
 refine⟨_,.inl (.of (g1.sm _ _ ha)),λp2 H2 g2=>?_⟩
 have s2:=g1.sm.trans g2.sm
 dsimp only [cO]
 refine dh (λσ' H'=>af H H'/\∃ (ps:Addr) (ss:List Int),H' ps=some (.lst (ss.map V.int))/\ss.length<=500/\(∀ D,Mt M D->∀ n∈ss,fQ D n)/\σ'=[some (.ref p),some (.ref c),some (.str (eA M)),some (.ref a),some (.ref b),some (.ref ps)]) (λnx hn=>?_) ?_
 ·refine⟨_,_,ap.str _,ap.str _,aA (JI M),aA dG,?_⟩
  refine ak (λy=>?_) (λy=>?_)
  ·have y:PyData.eqv (.str (eA M)) (.str "shift")=true:=y
   obtain⟨ns,ms,eM⟩ : ∃ ns ms,M=.sh ns ms:=by
    cases M with
    | sh ns ms=>exact⟨ns,ms,rfl⟩
    | _=>rw[J1 (λ_ _ h=>by cases h)]at y; cases y
   obtain⟨rfl,rfl,rfl⟩:=sh ns ms eM
   have hb2:aE K H2 b (zs.map V.int):=.of (s2 _ _ hb)
   refine⟨b,rfl,⟨_,hb2⟩,mT (K:=K) (a:=b) (xs:=zs.map V.int) (λi ys H'=>af H2 H'/\∃ ts:List Int,ys=ts.map V.int/\ts.length<=i/\∀ n∈ts,n∈zs) ⟨af.refl _,[],rfl,Nat.le_refl _,(λn h=>nomatch h)⟩ (λi ys H' _ z=>⟨z.1.seq hb2,by obtain⟨_,ts,rfl,l,_⟩:=z; rw[List.length_map]; omega⟩) (bB (by rw[List.length_map]; omega)) (λi x ys H' N hx y hN=>?_) λys H' q H'' y g=>?_⟩
   ·obtain⟨s',ts,rfl,l,hs⟩:=y
    obtain⟨m,hm,rfl⟩:=dn hx
    refine⟨_,.inl (.of (s' _ _ (s2 _ _ ha))),rfl,iZ _,?_⟩
    refine ak (λ_=>?_) (λ_=>?_)
    ·refine hN _ _ ⟨s',ts++[m],by rw[List.map_append]; rfl,by rw[List.length_append]; show _+1<=_; omega,λn' hn'=>?_⟩
     rcases List.mem_append.mp hn' with y | y
     ·exact hs n' y
     ·rw[List.mem_singleton.mp y]; exact List.mem_of_getElem? hm
    ·exact hN _ _ ⟨s',ts,rfl,by omega,hs⟩
   ·obtain⟨s',ts,rfl,l,hs⟩:=y
    rw[List.length_map]at l
    have s3:=s2.trans (s'.trans g.sm)
    refine⟨_,_,.of (s3 _ _ ha),g.lst,bB (by rw[List.length_map,List.length_map]; omega),λp4 H4 g4=>?_⟩
    refine hn _ _ ⟨s3.trans g4.sm,p4,xs++ts,by rw[List.map_append]; exact g4.at_,by rw[List.length_append]; omega,λD mt n hn=>?_,rfl⟩
    rw[eM]at mt
    obtain⟨f,rfl⟩:=mt
    rcases List.mem_append.mp hn with y | y
    ·exact .inl y
    ·exact .inr (hs n y)
  ·exact hn _ _ ⟨s2,p2,xs,g2.at_,by omega,ld z,rfl⟩
 ·rintro σ' H3 ⟨s3,ps,ss,hps,lss,hss,rfl⟩
  refine⟨sz rfl,λp4 H4 g4=>?_⟩
  have hps4:=g4.sm _ _ hps
  refine im (ns:=ss) (ms:=[]) (.of hps4) g4.lst ?_
  refine ak (λy=>?_) (λy=>?_)
  ·exact⟨sz rfl,λp5 H5 g5=>k p5 [] H5 (s3.trans (g4.sm.trans g5.sm)) g5.at_ (by decide) (.inl rfl) (λ_ _ _ h=>nomatch h)⟩
  ·have y : ¬ ss=[]:=λe=>y (decide_eq_true e)
   have pos:0 < ss.length:=by cases ss with | nil=>exact absurd rfl y | cons _ _=>exact Nat.succ_pos _
   have hc4:=(s3.trans g4.sm).seq hc
   refine⟨c,rfl,⟨_,hc4⟩,mT (K:=K) (a:=c) (xs:=cs.map V.int) (λi ys H'=>af H4 H'/\∃ ts:List Int,ys=ts.map V.int/\ts.length=i/\∀ n∈ts,n∈ss) ⟨af.refl _,[],rfl,rfl,(λn h=>nomatch h)⟩ (λi ys H' _ z=>⟨z.1.seq hc4,by obtain⟨_,ts,rfl,l,_⟩:=z; rw[List.length_map]; omega⟩) (bB (by rw[List.length_map]; omega)) (λi x ys H' N hx y hN=>?_) λys H' q H'' y g=>?_⟩
   ·obtain⟨s',ts,rfl,l,hs⟩:=y
    obtain⟨m,hm,rfl⟩:=dn hx
    simp only [fV,if_true]
    refine⟨_,.inl (.of (s' _ _ hps4)),?_⟩
    rw[List.length_map]
    refine⟨by omega,?_⟩
    obtain⟨v,hv,e1,_⟩:=qP (xs:=ss.map V.int) (i:=m%(ss.length:Int)) (Int.emod_nonneg _ (by omega)) (by rw[List.length_map]; exact Int.emod_lt_of_pos _ (by omega))
    obtain⟨n,hn,rfl⟩:=List.mem_map.mp hv
    refine⟨_,_,.inl (.of (s' _ _ hps4)),e1,?_⟩
    refine hN _ _ ⟨s',ts++[n],by rw[List.map_append]; rfl,by rw[List.length_append,l]; rfl,λn' hn'=>?_⟩
    rcases List.mem_append.mp hn' with y | y
    ·exact hs n' y
    ·rw[List.mem_singleton.mp y]; exact hn
   ·obtain⟨s',ts,rfl,l,hs⟩:=y
    rw[List.length_map]at l
    exact k q ts H'' (s3.trans (g4.sm.trans (s'.trans g.sm))) g.at_ (by omega) (.inr l) λD m n hn=>hss D m n (hs n hn)
def gd(H:Hp)(p:Addr)(L:List (Addr × List Int)):Prop:=H p=some (.lst (L.map λx=>V.ref x.1))/\∀ x∈L,x.1≠p/\H x.1=some (.lst (x.2.map V.int))
def flt(L:List (Addr × List Int)):List Int:=(L.map λx=>x.2).flatten
theorem o6(L:List (Addr × List Int))(q:Addr)(xs:List Int):flt (L++[(q,xs)])=flt L++xs:=by
 unfold flt
 rw[List.map_append,List.flatten_append]
 simp
theorem gd.mono{H H':Hp}{p:Addr}{L:List (Addr × List Int)}(h:gd H p L)(s:af H H'):gd H' p L:=⟨s _ _ h.1,λx hx=>⟨(h.2 x hx).1,s _ _ (h.2 x hx).2⟩⟩
theorem gd.more{H H1:Hp}{p q:Addr}{xs:List Int}{L:List (Addr × List Int)}(h:gd H p L)(g:aZ H q (.lst (xs.map V.int)) H1):gd (upd H1 p (.lst ((L.map λx=>V.ref x.1)++[.ref q]))) p (L++[(q,xs)]):=by
 have nq:q≠p:=(aH h.1 g.nw).symm
 refine⟨by rw[aQ,List.map_append]; rfl,λx hx'=>?_⟩
 rcases List.mem_append.mp hx' with z | z
 ·obtain⟨n,e⟩:=h.2 x z
  exact⟨n,by rw[aw n]; exact g.sm _ _ e⟩
 ·rw[List.mem_singleton.mp z]
  exact⟨nq,by rw[aw nq]; exact g.at_⟩
theorem CC{H:Hp}{L:List (Addr × List Int)}{q:Addr}{xs:List Int}(h : ∀ x∈L,H x.1=none)(n:H q=none) : ∀ x∈L++[(q,xs)],H x.1=none:=λx hx=>by
 rcases List.mem_append.mp hx with z | z
 ·exact h x z
 ·rw[List.mem_singleton.mp z]; exact n
def FG(K:PySem.W.Frag):Sp:=λvs H Q _=>∃ (a:Addr) (c:Int) (ts:List Int),vs=[.ref a,.int c]/\aE K H a (ts.map V.int)/\ts.length<=1000/\∀ p (L:List (Addr × List Int)) H',af H H'->H p=none->gd H' p L->(∀ x∈L,H x.1=none)->flt L=ts->L.length<=2000->Q (.ref p) H'
theorem BM (T:Txt w K mg t):bp P w K mg base "_law_pieces" 2 t.xu t.tJ ["_law_row_here", "_law_cell"] (FG K):=by
 refine⟨T.Nq,T.DJ.kp,T.PD,T.DJ.okQ iE (λvs H Q E h=>by obtain⟨a,c,ts,rfl,_⟩:=h; rfl) λcdv A outer s H vs Q E hr h=>?_⟩
 obtain⟨a,c,ts,rfl,ha,lt,k⟩:=h
 have hu:=hr.units
 refine⟨_,(ai (aJ (i:=2) iE.nd rfl (by first | exact Or.inl rfl | exact Or.inr rfl) (aS ad))
  (ai (aJ (i:=3) iE.nd rfl (by first | exact Or.inl rfl | exact Or.inr rfl) aj)
  (ai (aJ (i:=4) iE.nd rfl (by first | exact Or.inl rfl | exact Or.inr rfl) (aa 1))
  (ai (HK PassesOwn.never (av dA (aa 3) (bi (bA (K:=K) rfl) T.n_len PySem.boot_len (ab (aa 0) ad)) (aD _)) (ai (aJ (i:=4) iE.nd rfl (by first | exact Or.inl rfl | exact Or.inr rfl) (aN (sO T) hr (ab (aa 4) (ab (aa 3) ad))))
  (ai (aJ (i:=5) iE.nd rfl (by first | exact Or.inl rfl | exact Or.inr rfl) (aL (aM (K:=K) rfl) (aS (ab (bi (bA (K:=K) rfl) T.n_len PySem.boot_len (ab (aa 0) ad)) (ab aj (ab (au (aX (K:=K) rfl) aj (bh (bH (aa 4)))) (ab (au (aX (K:=K) rfl) aj (bh (bH (aa 4)))) ad))))) (bh (aa 1)) (λ_ _=>rfl)))
  (ai (aF (av (bo (K:=K) rfl hu) (bh (aa 4)) aj (aD _)) (ah (cT (dQ (K:=K) rfl PySem.F.plainAttrs_list PySem.F.slot_list_append PySem.F.type_list_append gq (aa 2) (ab (aS ad) ad)))) aG)
  (ai (cT (dQ (K:=K) rfl PySem.F.plainAttrs_list PySem.F.slot_list_append PySem.F.type_list_append gq (aa 2) (ab (cU (c9 (K:=K) rfl) (aa 0) (ci (aa 3)) (ci (au (aX (K:=K) rfl) (aa 3) (aa 5)))) ad)))
  (ah (aJ (i:=3) iE.nd rfl (by first | exact Or.inl rfl | exact Or.inr rfl) (au (aX (K:=K) rfl) (aa 3) (aa 5)))))))))
  (ah (al (aa 2))))))),?_⟩
 refine⟨sz rfl,λp H1 g1=>?_⟩
 refine⟨λm σ H'=>af H H'/\∃ (n at_:Nat) (num:Int) (L:List (Addr × List Int)) (v5:Option V),gd H' p L/\(∀ x∈L,H x.1=none)/\flt L=ts.take at_/\L.length<=2*n/\n<=at_/\n<=ts.length/\m=ts.length - at_/\σ=[some (.ref a),some (.int c),some (.ref p),some (.int (at_:Int)),some (.int num),v5],⟨_,g1.sm,0,0,c,[],_,⟨g1.at_,(λ_ h=>nomatch h)⟩,(λ_ h=>nomatch h),rfl,Nat.le_refl _,Nat.le_refl _,Nat.zero_le _,rfl,rfl⟩,?_⟩
 rintro m σ H2 ⟨s2,n,at_,num,L,v5,hP,fr,fl,l1,l2,l3,rfl,rfl⟩
 have ha2:=s2.seq ha
 refine⟨_,.inl ha2,?_⟩
 refine ak (λz=>?_) (λz=>?_)
 ·have z:(at_:Int) < ((ts.map V.int).length:Int):=of_decide_eq_true z
  rw[List.length_map]at z
  refine⟨λσ' H'=>af H H'/\∃ (n at':Nat) (num:Int) (L:List (Addr × List Int)) (v5:Option V),at_ < at'/\gd H' p L/\(∀ x∈L,H x.1=none)/\flt L=ts.take at'/\L.length<=2*n/\n<=at'/\n<=ts.length/\σ'=[some (.ref a),some (.int c),some (.ref p),some (.int (at':Int)),some (.int num),v5],?_,?_⟩
  ·rintro σ' H' ⟨s',n',at',num',L',v5',lt',hP',fr',fl',a1,a2,a3,rfl⟩
   exact⟨ts.length - at',by omega,s',n',at',num',L',v5',hP',fr',fl',a1,a2,a3,rfl,rfl⟩
  refine⟨_,_,rfl,by omega,by omega,λnum' n0 n1=>?_⟩
  refine⟨_,.inl ha2,?_⟩
  refine⟨sz rfl,λp3 H3 g3=>?_⟩
  obtain⟨k',e,k1,k2⟩ : ∃ k':Nat,cR [V.int ((ts.map V.int).length:Int),.int 1,.int (1+num' / 7%3),.int (1+num' / 7%9)] (c%4)=some (.int (k':Int))/\1<=k'/\k'<=1000:=by
   rcases (show c%4=0\/c%4=1\/c%4=2\/c%4=3 by omega) with e | e | e | e <;> rw[e]
   ·exact⟨ts.length,by rw[List.length_map]; rfl,by omega,by omega⟩
   ·exact⟨1,rfl,by omega,by omega⟩
   ·refine⟨(1+num' / 7%3).toNat,?_,by omega,by omega⟩
    rw[Int.toNat_of_nonneg (by omega)]; rfl
   ·refine⟨(1+num' / 7%9).toNat,?_,by omega,by omega⟩
    rw[Int.toNat_of_nonneg (by omega)]; rfl
  refine⟨_,_,.inl g3.lst,e,?_⟩
  have hP3:=hP.mono g3.sm
  have s3:=s2.trans g3.sm
  dsimp only [cO]
  refine dh (λσ' H'=>af H H'/\∃ L':List (Addr × List Int),gd H' p L'/\(∀ x∈L',H x.1=none)/\flt L'=ts.take at_/\L'.length<=L.length+1/\σ'=[some (.ref a),some (.int c),some (.ref p),some (.int (at_:Int)),some (.int num'),some (.int (k':Int))]) (λnx hn=>?_) ?_
  ·refine ak (λ_=>?_) (λ_=>?_)
   ·refine⟨.inl ⟨rfl,_,.of hP3.1⟩,?_⟩
    refine⟨sz rfl,λp4 H4 g4=>?_⟩
    refine⟨_,g4.sm _ _ hP3.1,dP (by rw[List.length_map]; omega),?_⟩
    exact hn _ _ ⟨(s3.trans g4.sm).put g1.nw,L++[(p4,[])],hP3.more (xs:=[]) g4,CC fr (s3.free g4.nw),by rw[o6,List.append_nil]; exact fl,by rw[List.length_append]; exact Nat.le_refl _,rfl⟩
   ·exact hn _ _ ⟨s3,L,hP3,fr,fl,by omega,rfl⟩
  ·rintro σ' H5 ⟨s5,L',hP5,fr5,fl5,l5,rfl⟩
   refine⟨.inl ⟨rfl,_,.of hP5.1⟩,?_⟩
   refine⟨_,rfl,_,rfl,_,s5.seq ha,λq H6 g6=>?_⟩
   have e6:de (ts.map V.int) (some (at_:Int)) (some ((at_:Int)+(k':Int)))=((ts.drop at_).take k').map V.int:=by
    rw[eU]
    exact congrArg _ (CZ ts at_ k')
   rw[e6]at g6
   refine⟨_,g6.sm _ _ hP5.1,dP (by rw[List.length_map]; omega),?_⟩
   refine⟨(s5.trans g6.sm).put g1.nw,n+1,at_+k',num',L'++[(q,(ts.drop at_).take k')],some (.int (k':Int)),by omega,hP5.more g6,CC fr5 (s5.free g6.nw),by rw[o6,fl5,List.take_add],by rw[List.length_append]; show _+1<=_; omega,by omega,by omega,?_⟩
   rw[Int.natCast_add]
   rfl
 ·have z : ¬ (at_:Int) < ((ts.map V.int).length:Int):=λy=>z (decide_eq_true y)
  rw[List.length_map]at z
  exact k p L H2 s2 g1.nw hP fr (by rw[fl,List.take_of_length_le (by omega)]) (by omega)
def Fw(K:PySem.W.Frag):Sp:=λvs H Q _=>∃ (q:Addr) (r:List Int),vs=[.ref q]/\H q=some (.lst (r.map V.int))/\(∀ x∈r,(61184<=x/\x<=61439)\/Sg x)/\r.length<=2000/\∀ H',af H H'->Q (.bl true) H'
theorem MF (T:Txt w K mg t):bp P w K mg base "is_seen" 4 t.xT t.uh ["thing"] (Fw K):=by
 refine⟨T.NX,T.D8.kp,T.P9,T.D8.okQ GG (λvs H Q E h=>by obtain⟨q,r,rfl,_⟩:=h; rfl) λcdv A outer s H vs Q E hr h=>?_⟩
 obtain⟨q,r,rfl,hq,hb,hl,k⟩:=h
 have hu:=hr.units
 refine⟨_,(ah (al (ib (bi (i9 (K:=K) rfl) T.n_isinstance PyProof.Rows.boot_isinstance (ab (aa 0) (ab (iQ rfl T.n_list PyProof.Rows.boot_list) ad))) (gl (bi (C8 (K:=K) rfl rfl) T.n_all PyProof.Rows.boot_all (ab (fh rfl (cG.of (fns:=(ag iJ).names) (N:=["thing"]) (Nc:=["each"]) (nv:=1) (caps:=[]) rfl rfl (by decide +kernel)) (dz (K:=K) rfl (aa 0)) (λ_ _ _ _=>(ba (i:=0) (show List.Nodup (["each"]:List Str) by decide +kernel) rfl (Or.inl rfl) (Or.inr rfl))) (λ_ _ _ _=>d6) (λ_ _ _ _=>(lY (aN (ik T) hr (ab (aa 0) ad)) (gl (aN (sR T) hr (ab (aa 0) ad)))))) ad)))))),?_⟩
 refine⟨_,_,.lst hq,by with_unfolding_all rfl,?_⟩
 refine gU ?_
 refine⟨q,rfl,⟨_,.of hq⟩,i7 ((r.map λ_=>true).map V.bl) (by simp) (.of hq) (bB (by rw[List.length_map]; omega)) (λi x y H4 N hx hy s4 hN=>?_) λp3 H3 g3=>?_⟩
 ·obtain⟨o,ho,rfl⟩:=dn hx
  rw[List.getElem?_map,List.getElem?_map,ho]at hy
  cases hy
  have:=hb o (List.mem_of_getElem? ho)
  refine⟨_,rfl,.int _,?_⟩
  refine ak (λz=>?_) (λz=>?_)
  ·exact cc (hN _ (af.refl _)) rfl
  ·rcases this with y | y
   ·exact⟨_,rfl,.int _,cc (hN _ (af.refl _)) (by simp[cZ]; omega)⟩
   ·exact absurd ((gL o).mpr y) z
 refine⟨_,g3.lst,?_⟩
 exact cc (k H3 g3.sm) (by simp)
def Fy(K:PySem.W.Frag)(t:Adr):Sp:=λvs H Q _=>∃ (p c:Addr) (M:Md) (cs:List Int),vs=[.ref p,.ref c]/\Mod H p M/\aE K H c (cs.map V.int)/\cs.length<=61/\(∃ D,Mt M D/\dq D)/\∀ q (r:List Int) H',af H H'->H' q=some (.lst (r.map V.int))->bq r->r.length<=400->Q (.ref q) H'
theorem CL : ∀ b∈([0,65,127,128,143,144,159,160,187,188,191,192,193,194,216,219,220,223,224,237,238,239,240,244,245,253,254,255]:List Int),0<=b/\b<=255:=by decide
theorem Pk{xs ys:List Int}(h:bq xs)(g:bq ys):bq (xs++ys):=λx hx=>(List.mem_append.mp hx).elim (h x) (g x)
theorem E9{D:Kt}{g n:Int}(ok:dq D)(pg:bE D g)(hn:fQ D n):bq (dY D g n).1:=by
 cases D with
 | ld =>
  obtain⟨h0,h1,h2,h3⟩:=id hn
  intro b hb
  have hb:b∈row n:=hb
  unfold row at hb
  split at hb
  ·simp at hb; omega
  ·split at hb
   ·simp at hb; omega
   ·split at hb <;> simp at hb <;> omega
 | pr h=>exact IG h hn
 | sh f ns ms =>
  obtain⟨r,g',e,_,hr⟩:=zD pg hn
  rw[zB e]
  have two:cJ g:=pg
  have l1 : ∀ c:Int,0<=c->∀ xs:List Int,xs.length<=250->xs[c.toNat]? = some n->0<=c/\c<=255:=λc c0 xs lx e=>by
   have:=(List.getElem?_eq_some_iff.mp e).1
   omega
  have a1:=ok.1.2.2
  have a2:=ok.2.2.2
  have s1:(am g ns ms).length<=250/\(am g ms ns).length<=250:=by rcases two with rfl | rfl <;> exact⟨by assumption,by assumption⟩
  rcases hr with ⟨b,rfl,b0,eb,_⟩ | ⟨c,rfl,c0,ec,_⟩
  ·intro x hx
   rw[List.mem_singleton.mp hx]
   exact l1 b b0 _ s1.1 eb
  ·have:=l1 c c0 _ s1.2 ec
   intro x hx
   rcases List.mem_cons.mp hx with rfl | hx
   ·rcases two with rfl | rfl <;> decide
   ·rw[List.mem_singleton.mp hx]; exact this
 | tb f es =>
  obtain⟨e,he,_,ef⟩:=ly hn
  have es':dY (.tb f es) g n=(e.2,g):=by
   show (Option.map _ _).getD _=_
   rw[ef]; rfl
  rw[es']
  exact (Es.sg ok e he).2.2.2
 | br=>exact hn.elim
theorem Mg (T:Txt w K mg t):bp P w K mg base "_law_row" 4 t.xr t.tH ["_law_model_here", "_law_cells"] (Fy K t):=by
 refine⟨T.No,T.DH.kp,T.PB,T.DH.okQ eI (λvs H Q E h=>by obtain⟨p,c,M,cs,rfl,_⟩:=h; rfl) λcdv A outer s H vs Q E hr h=>?_⟩
 obtain⟨p,c,M,cs,rfl,mod,hc,lc,⟨D,mt,ok⟩,k⟩:=h
 have hu:=hr.units
 refine⟨_,(ai (aJ (i:=2) eI.nd rfl (by first | exact Or.inl rfl | exact Or.inr rfl) (aS (lX rfl)))
  (ai (aJ (i:=2) eI.nd rfl (by first | exact Or.inl rfl | exact Or.inr rfl) (au (aX (K:=K) rfl) (aa 2) (aS (lX rfl))))
  (ai (aJ (i:=3) eI.nd rfl (by first | exact Or.inl rfl | exact Or.inr rfl) (aN (Mc T) hr (ab (aa 0) (ab (aa 1) ad))))
  (ai (aJ (i:=4) eI.nd rfl (by first | exact Or.inl rfl | exact Or.inr rfl) (aS ad))
  (ai (aJ (i:=5) eI.nd rfl (by first | exact Or.inl rfl | exact Or.inr rfl) aj)
  (ai (dw PassesOwn.never rfl (kS (K:=K) rfl rfl T.n_enumerate (ab (aa 1) ad)) (eN (K:=K) rfl rfl (bR (ba (i:=6) eI.nd rfl (by first | exact Or.inl rfl | exact Or.inr rfl)) (bR (ba (i:=7) eI.nd rfl (by first | exact Or.inl rfl | exact Or.inr rfl)) eK))) (ai (aJ (i:=8) eI.nd rfl (by first | exact Or.inl rfl | exact Or.inr rfl) (bh (bH (aa 7))))
  (ah (aF (bZ (fF (av (gx (K:=K) rfl hu) (aa 3) (aS ad) (aD _)) (fX (av dA (aa 8) aj (aD _))))) (ai (iP (aN (Mf T) hr (ab (aa 0) (ab (aL (aM (K:=K) rfl) (aa 3) (aa 6) (λ_ _=>rfl)) (ab (aa 5) ad)))) (eN (K:=K) rfl rfl (bR (ba (i:=9) eI.nd rfl (by first | exact Or.inl rfl | exact Or.inr rfl)) (bR (ba (i:=10) eI.nd rfl (by first | exact Or.inl rfl | exact Or.inr rfl)) eK))))
  (ai (aF (av (bo (K:=K) rfl hu) (aa 8) aj (aD _)) (ah (aJ (i:=9) eI.nd rfl (by first | exact Or.inl rfl | exact Or.inr rfl) (cU (c9 (K:=K) rfl) (aa 9) dD (ci (au oR (bH (aa 7)) (bi (bA (K:=K) rfl) T.n_len PySem.boot_len (ab (aa 9) ad))))))) (ah (aJ (i:=5) eI.nd rfl (by first | exact Or.inl rfl | exact Or.inr rfl) (aa 10))))
  (ah (aJ (i:=4) eI.nd rfl (by first | exact Or.inl rfl | exact Or.inr rfl) (au (aX (K:=K) rfl) (aa 4) (aa 9)))))) (ah (aF (av (bo (K:=K) rfl hu) (aa 8) aj (aD _)) (ah (cT (dQ (K:=K) rfl PySem.F.plainAttrs_list PySem.F.slot_list_append PySem.F.type_list_append gq (aa 4) (ab (bh (bH (aa 7))) ad)))) (ah (cT (dQ (K:=K) rfl PySem.F.plainAttrs_list PySem.F.slot_list_append PySem.F.type_list_append gq (aa 4) (ab (aL (aM (K:=K) rfl) (aa 2) (bh (bH (aa 7))) (λ_ _=>rfl)) ad))))))))))
  (ah (al (aa 4))))))))),?_⟩
 refine⟨sz rfl,λp1 H1 g1=>?_⟩
 refine⟨sz rfl,λp2 H2 g2=>?_⟩
 refine⟨_,_,.of (g2.sm _ _ g1.at_),g2.lst,sz rfl,λpe H3 g3=>?_⟩
 have s3:=g1.sm.trans (g2.sm.trans g3.sm)
 refine⟨p,c,M,cs,rfl,mod.mono s3,s3.seq hc,by omega,λq ts H4 s4 hq lt le ht=>?_⟩
 refine⟨sz rfl,λp5 H5 g5=>?_⟩
 have s5:=s3.trans (s4.trans g5.sm)
 have he:=(s4.trans g5.sm) _ _ g3.at_
 have hq5:=g5.sm _ _ hq
 refine⟨c,_,rfl,s5.seq hc,ls (K:=K) (a:=c) (xs:=cs.map V.int) (λi σ H'=>af H4 H'/\∃ (r:Addr) (xs:List Int) (g:Int) (v6 v7 v8 v9 v10:Option V),H4 r=none/\H' r=some (.lst (xs.map V.int))/\bq xs/\xs.length<=6*i/\bE D g/\σ=[some (.ref p),some (.ref c),some (.ref pe),some (.ref q),some (.ref r),some (.int g),v6,v7,v8,v9,v10]) ⟨g5.sm,p5,[],0,_,_,_,_,_,g5.nw,g5.at_,(λx h=>nomatch h),Nat.le_refl _,fH D,rfl⟩ (λi σ H' _ z=>((s3.trans s4).trans z.1).seq hc) ?_ ?_⟩
 ·rintro i x p6 σ H6 H7 hx ⟨s6,r,xs,g,v6,v7,v8,v9,v10,nr,hr6,bx,lx,pg,rfl⟩ g7
  obtain⟨n,hn,rfl⟩:=dn hx
  have hi:i < cs.length:=(List.getElem?_eq_some_iff.mp hn).1
  refine⟨p6,_,rfl,g7.tup,rfl,_,_,rfl,_,_,rfl,rfl,?_⟩
  have s7:=s6.trans g7.sm
  have s07:=(s3.trans s4).trans s7
  have hr7:=g7.sm _ _ hr6
  have hq7:=s7 _ _ hq
  refine⟨sz rfl,λp8 H8 g8=>?_⟩
  refine im (ns:=ts) (ms:=[]) (.of (g8.sm _ _ hq7)) g8.lst ?_
  refine ak (λz=>?_) (λz=>?_)
  ·refine ak (λy=>?_) (λy=>?_)
   ·have z : ¬ ts=[]:=λe=>by have z:(!decide (ts=[]))=true:=z; rw[decide_eq_true e]at z; cases z
    have lts:=le.resolve_left z
    have s8:=s7.trans g8.sm
    obtain⟨m,hm⟩ : ∃ m,ts[i]? = some m:=⟨_,List.getElem?_eq_getElem (by omega)⟩
    have hI:=ht D mt m (List.mem_of_getElem? hm)
    refine⟨_,.int m,.inl (.of (s8 _ _ hq)),aV (j:=i) (by rw[List.getElem?_map,hm]; rfl),?_⟩
    refine⟨p,M,D,m,g,rfl,mod.mono ((s3.trans s4).trans s8),mt,hI,pg,λpr q1 H9 s9 nq1 hq1 hpr=>?_⟩
    refine⟨pr,_,rfl,.of hpr,rfl,_,_,rfl,_,_,rfl,rfl,?_⟩
    obtain⟨r1,g',eO,ef,pg',sl⟩:=rQ ok.kok pg hI
    have by1:=E9 ok pg hI
    have ps1:=zC ok.kok pg hI
    rw[ef]at hq1 hpr by1 ps1
    dsimp only at hq1 hpr by1 ps1
    rw[ef]
    dsimp only [cO]
    refine dh (λσ' H'=>∃ (q2:Addr) (x2:List Int) (g2:Int) (v10:Option V),af H9 H'/\H' q2=some (.lst (x2.map V.int))/\bq x2/\x2.length<=6/\bE D g2/\σ'=[some (.ref p),some (.ref c),some (.ref pe),some (.ref q),some (.ref r),some (.int g2),some (.int (i:Int)),some (.int n),some (.int (n / 8%5)),some (.ref q2),v10]) (λnx hn=>?_) ?_
    ·refine ak (λ_=>?_) (λ_=>?_)
     ·refine⟨_,.inl (.of hq1),?_⟩
      rw[List.length_map]
      refine⟨by omega,?_⟩
      refine⟨_,rfl,_,.of hq1,λq2 H10 g10=>?_⟩
      rw[eU]at g10
      exact hn _ _ ⟨q2,_,g,_,g10.sm,g10.at_,(λx hx=>by1 x (C0 hx)),Nat.le_trans (OO _ _ _) sl,pg,rfl⟩
     ·exact hn _ _ ⟨q1,r1,g',_,af.refl _,hq1,by1,sl,pg',rfl⟩
    ·rintro σ' H10 ⟨q2,x2,g2,v10',s10,hq2,by2,l2,pg2,rfl⟩
     have s810:=s9.trans s10
     refine⟨_,_,.of (s810 _ _ (g8.sm _ _ hr7)),.of hq2,bB (by rw[List.length_map,List.length_map]; omega),λq3 H11 g11=>?_⟩
     have hg:=g11.at_
     rw[<- List.map_append]at hg
     exact⟨(s8.trans s810).trans g11.sm,q3,xs++x2,g2,_,_,_,_,_,(s8.trans s810).free g11.nw,hg,Pk bx by2,by rw[List.length_append]; omega,pg2,rfl⟩
   ·have s8:=s7.trans g8.sm
    have hr8:=g8.sm _ _ hr7
    refine ak (λ_=>?_) (λ_=>?_)
    ·refine⟨.inl ⟨rfl,_,.of hr8⟩,?_⟩
     refine⟨_,hr8,dP (by rw[List.length_map]; omega),?_⟩
     exact⟨s8.put nr,r,xs++[n / 40%256],g,_,_,_,_,_,nr,by rw[aQ,List.map_append]; rfl,hJ bx (by omega) (by omega),by rw[List.length_append]; show _+1<=_; omega,pg,rfl⟩
    ·refine⟨.inl ⟨rfl,_,.of hr8⟩,?_⟩
     obtain⟨v,hv,e1,_⟩:=qP (xs:=(([0,65,127,128,143,144,159,160,187,188,191,192,193,194,216,219,220,223,224,237,238,239,240,244,245,253,254,255]:List Int).map V.int)) (i:=n / 40%28) (by omega) (by simp; omega)
     obtain⟨b,hb,rfl⟩:=List.mem_map.mp hv
     have hb:=CL b hb
     refine⟨_,_,.inl (.of ((s4.trans s8) _ _ g3.at_)),e1,?_⟩
     refine⟨_,hr8,dP (by rw[List.length_map]; omega),?_⟩
     exact⟨s8.put nr,r,xs++[b],g,_,_,_,_,_,nr,by rw[aQ,List.map_append]; rfl,hJ bx hb.1 hb.2,by rw[List.length_append]; show _+1<=_; omega,pg,rfl⟩
  ·refine mn ?_
   have s8:=s7.trans g8.sm
   have hr8:=g8.sm _ _ hr7
   refine ak (λ_=>?_) (λ_=>?_)
   ·refine⟨.inl ⟨rfl,_,.of hr8⟩,?_⟩
    refine⟨_,hr8,dP (by rw[List.length_map]; omega),?_⟩
    exact⟨s8.put nr,r,xs++[n / 40%256],g,_,_,_,_,_,nr,by rw[aQ,List.map_append]; rfl,hJ bx (by omega) (by omega),by rw[List.length_append]; show _+1<=_; omega,pg,rfl⟩
   ·refine⟨.inl ⟨rfl,_,.of hr8⟩,?_⟩
    obtain⟨v,hv,e1,_⟩:=qP (xs:=(([0,65,127,128,143,144,159,160,187,188,191,192,193,194,216,219,220,223,224,237,238,239,240,244,245,253,254,255]:List Int).map V.int)) (i:=n / 40%28) (by omega) (by simp; omega)
    obtain⟨b,hb,rfl⟩:=List.mem_map.mp hv
    have hb:=CL b hb
    refine⟨_,_,.inl (.of ((s4.trans s8) _ _ g3.at_)),e1,?_⟩
    refine⟨_,hr8,dP (by rw[List.length_map]; omega),?_⟩
    exact⟨s8.put nr,r,xs++[b],g,_,_,_,_,_,nr,by rw[aQ,List.map_append]; rfl,hJ bx hb.1 hb.2,by rw[List.length_append]; show _+1<=_; omega,pg,rfl⟩
 ·rintro σ H6 ⟨s6,r,xs,g,v6,v7,v8,v9,v10,nr,hr6,bx,lx,pg,rfl⟩
  exact k r xs H6 ((s3.trans s4).trans s6) hr6 bx (by rw[List.length_map]at lx; omega)
structure Rz (t:Adr) (H:Hp) (x dx o b mt y:Addr) (g:Int) (c:Nat) (r:List Int) (L:FL):Prop where
 nbm:b≠mt
 hx:H x=some (cD t dx o b mt y g c false)
 hb:H b=some (.lst (r.map V.int))
 ft:cz H mt L
theorem Rz.mono{H H':Hp}{x dx o b mt y:Addr}{g:Int}{c:Nat}{r:List Int}{L:FL}(R:Rz t H x dx o b mt y g c r L)(s:af H H'):Rz t H' x dx o b mt y g c r L:=⟨R.nbm,s _ _ R.hx,s _ _ R.hb,R.ft.mono s⟩
theorem Rz.lst{H H':Hp}{x dx o b mt y a:Addr}{g:Int}{c:Nat}{r:List Int}{L:FL}{xs:List V}(R:Rz t H x dx o b mt y g c r L)(n1:a≠b)(n2:a≠mt)(s:af (wo H [x,b,mt]) H')(h:H a=some (.lst xs)):H' a=some (.lst xs):=s _ _ (eB (bc h R.hx (by intro z; cases z)) n1 n2 h)
theorem Rz.tup{H H':Hp}{x dx o b mt y a:Addr}{g:Int}{c:Nat}{r:List Int}{L:FL}{xs:List V}(R:Rz t H x dx o b mt y g c r L)(s:af (wo H [x,b,mt]) H')(h:H a=some (.tup xs)):H' a=some (.tup xs):=s _ _ (eB (bc h R.hx (by intro z; cases z)) (bc h R.hb (by intro z; cases z)) (bc h R.ft.1 (by intro z; cases z)) h)
theorem Rz.ins{H H':Hp}{x dx o b mt y a:Addr}{g:Int}{c:Nat}{r:List Int}{L:FL}{C d:Addr}{fs:List (Str × V)}(R:Rz t H x dx o b mt y g c r L)(n:a≠x)(s:af (wo H [x,b,mt]) H')(h:H a=some (.ins C d fs)):H' a=some (.ins C d fs):=s _ _ (eB n (bc h R.hb (by intro z; cases z)) (bc h R.ft.1 (by intro z; cases z)) h)
theorem Rz.fts{H H':Hp}{x dx o b mt y m:Addr}{g:Int}{c:Nat}{r:List Int}{L L':FL}(R:Rz t H x dx o b mt y g c r L)(n1:m≠b)(n2:m≠mt)(s:af (wo H [x,b,mt]) H')(h:cz H m L'):cz H' m L':=⟨R.lst n1 n2 s h.1,λz hz=>R.tup s (h.2 z hz)⟩
theorem Rz.keep{H H':Hp}{x dx o b mt y x2 dx2 o2 b2 mt2 y2:Addr}{g g2:Int}{c c2:Nat}{r r2:List Int}{L L2:FL}(R:Rz t H x dx o b mt y g c r L)(R2:Rz t H x2 dx2 o2 b2 mt2 y2 g2 c2 r2 L2)(nx:x2≠x)(n1:b2≠b)(n2:b2≠mt)(n3:mt2≠b)(n4:mt2≠mt)(s:af (wo H [x,b,mt]) H'):Rz t H' x2 dx2 o2 b2 mt2 y2 g2 c2 r2 L2:=⟨R2.nbm,R.ins nx s R2.hx,R.lst n1 n2 s R2.hb,R.fts n3 n4 s R2.ft⟩
theorem cq{H:Hp}{p a:Addr}{u:HO}(n:H p=none)(h:H a=some u):p≠a:=(aH h n).symm
noncomputable def bz(D:Kt)(bs:List Int):List Ev:=(run D 0 [] 0 bs).2.2++eT (0+bs.length) (run D 0 [] 0 bs).2.1
structure R8 (t:Adr) (Hb H:Hp) (x1 dx1 b1 mt1 y1 x2 dx2 b2 mt2 y2 o f1 f2:Addr) (D:Kt) (W1 W2:Wy) (bs:List Int) (L1 L2:FL):Prop where
 sm:af Hb H
 r1:Rz t H x1 dx1 o b1 mt1 y1 (run D 0 [] 0 bs).1 (0+bs.length) (run D 0 [] 0 bs).2.1 L1
 r2:Rz t H x2 dx2 o b2 mt2 y2 (run D 0 [] 0 bs).1 (0+bs.length) (run D 0 [] 0 bs).2.1 L2
 e1:L1.map (λx=>x.2)=fts (run D 0 [] 0 bs).2.2
 e2:L2.map (λx=>x.2)=fts (run D 0 [] 0 bs).2.2
 q1:H f1=some (.lst ((aU W1 (run D 0 [] 0 bs).2.2).map V.int))
 q2:H f2=some (.lst ((aU W2 (run D 0 [] 0 bs).2.2).map V.int))
 fb1:Hb b1=none
 fb2:Hb b2=none
 d1:b1≠b2
 d2:b1≠mt2
 d3:mt1≠b2
 u1:f1≠b1/\f1≠mt1/\f1≠b2/\f1≠mt2
 u2:f2≠b1/\f2≠mt1/\f2≠b2/\f2≠mt2
theorem CG(L:List (Addr × List Int))(i:Nat) : ∃ z,flt L=flt (L.take i)++z:=⟨flt (L.drop i),by
 unfold flt
 rw[<- List.flatten_append,<- List.map_append,List.take_append_drop]⟩
def FC(t:Adr):Sp:=λvs H Q _=>∃ (Hb:Hp) (x1 dx1 b1 mt1 y1 x2 dx2 b2 mt2 y2 o a:Addr) (D:Kt) (W1 W2:Wy) (L:List (Addr × List Int)),vs=[.ref x1,.ref x2,.ref a]/\af Hb H/\TN t Hb o D/\hU t Hb y1 W1/\hU t Hb y2 W2/\gd Hb a L/\bq (flt L)/\(flt L).length<=1000 /\
 Hb x1=none/\Hb b1=none/\Hb mt1=none/\Hb x2=none/\Hb b2=none/\Hb mt2=none/\x2≠x1/\b1≠b2/\b1≠mt2/\mt1≠b2/\mt1≠mt2/\Rz t H x1 dx1 o b1 mt1 y1 0 0 [] []/\Rz t H x2 dx2 o b2 mt2 y2 0 0 [] [] /\
 ∀ (p q1 q2 c1 c2:Addr) (L1 L2:FL) (g:Int) (n:Nat) H',af Hb H'->H' p=some (.tup [.ref q1,.ref q2])->H' q1=some (.lst ((aU W1 (bz D (flt L))).map V.int))->H' q2=some (.lst ((aU W2 (bz D (flt L))).map V.int)) ->
  H' x1=some (cD t dx1 o c1 mt1 y1 g n true)->cz H' mt1 L1->L1.map (λx=>x.2)=fts (bz D (flt L))->H' x2=some (cD t dx2 o c2 mt2 y2 g n true)->cz H' mt2 L2->L2.map (λx=>x.2)=fts (bz D (flt L))->Q (.ref p) H'
theorem Mh (T:Txt w K mg t):bp P w K mg base "_law_read_both" 14 t.xt t.tI ["_law_reader", "_law_other", "_law_pieces_here"] (FC t):=by
 refine⟨T.Np,T.DI.kp,T.PC,T.DI.okQ jm (λvs H Q E h=>by obtain⟨Hb,x1,dx1,b1,mt1,y1,x2,dx2,b2,mt2,y2,o,a,D,W1,W2,L,rfl,_⟩:=h; rfl) λcdv A outer s H vs Q E hr h=>?_⟩
 obtain⟨Hb,x1,dx1,b1,mt1,y1,x2,dx2,b2,mt2,y2,o,a,D,W1,W2,L,rfl,sb,tn,wy1,wy2,pc,hby,lby,fx1,fb1,fm1,fx2,fb2,fm2,nx,d1,d2,d3,d4,R1,R2,k⟩:=h
 have hu:=hr.units
 have ok:=tn.koS
 refine⟨_,(ai (aJ (i:=3) jm.nd rfl (by first | exact Or.inl rfl | exact Or.inr rfl) (aS ad))
  (ai (aJ (i:=4) jm.nd rfl (by first | exact Or.inl rfl | exact Or.inr rfl) (aS ad))
  (ai (dw PassesOwn.never rfl (dz (K:=K) rfl (aa 2)) (ba (i:=5) jm.nd rfl (by first | exact Or.inl rfl | exact Or.inr rfl)) (ai (aJ (i:=3) jm.nd rfl (by first | exact Or.inl rfl | exact Or.inr rfl) (au (aX (K:=K) rfl) (aa 3) (bf (bJ (oI T) hr (aa 0) (ab (aa 5) ad)) (bJ (oM T) hr (aa 0) (ab (aa 5) ad)))))
  (ah (aJ (i:=4) jm.nd rfl (by first | exact Or.inl rfl | exact Or.inr rfl) (au (aX (K:=K) rfl) (aa 4) (bf (bJ (oI T) hr (aa 1) (ab (aa 5) ad)) (bJ (oM T) hr (aa 1) (ab (aa 5) ad))))))))
  (ah (al (bK (ab (au (aX (K:=K) rfl) (aa 3) (bG (sV T) hr (aa 0))) (ab (au (aX (K:=K) rfl) (aa 4) (bG (sV T) hr (aa 1))) ad)))))))),?_⟩
 refine⟨sz rfl,λf1 H1 g1=>?_⟩
 refine⟨sz rfl,λf2 H2 g2=>?_⟩
 have s2:=g1.sm.trans g2.sm
 have acc : ∀ i,bq (flt (L.take i))/\(flt (L.take i)).length<=1000:=λi=>by
  obtain⟨z,e⟩:=CG L i
  rw[e]at hby lby
  rw[List.length_append]at lby
  exact⟨λx hx=>hby x (List.mem_append_left _ hx),by omega⟩
 have lst3 : ∀ (W:Wy) i,((aU W (run D 0 [] 0 (flt (L.take i))).2.2).map V.int).length<=3000:=λW i=>by
  have:=sk ok W (r:=[]) 0 (fH D) (cS.nil _ _) (acc i).1
  have:=(acc i).2
  rw[List.length_map]
  have e:([]:List Int).length=0:=rfl
  omega
 have lFL : ∀ (L1:FL) i,L1.map (λx=>x.2)=fts (run D 0 [] 0 (flt (L.take i))).2.2->L1.length<=2000:=λL1 i e=>by
  have:=congrArg List.length e
  rw[List.length_map]at this
  have:=lj (run D 0 [] 0 (flt (L.take i))).2.2
  obtain⟨_,_,_,_,_,h6⟩:=gX ok (flt (L.take i)) 0 [] 0 (fH D) (cS.nil _ _) (acc i).1
  have:=(acc i).2
  omega
 have lcr : ∀ i,(run D 0 [] 0 (flt (L.take i))).2.1.length<=0+(flt (L.take i)).length:=λi=>by
  obtain⟨_,_,h3,_,_,_⟩:=gX ok (flt (L.take i)) 0 [] 0 (fH D) (cS.nil _ _) (acc i).1
  have:=congrArg List.length h3
  rw[List.length_append,List.length_append]at this
  have e:([]:List Int).length=0:=rfl
  omega
 have ha : ∀ H',af Hb H'->aE K H' a (L.map λx=>V.ref x.1):=λH' s=>.of (s _ _ pc.1)
 refine⟨a,rfl,⟨_,ha _ (sb.trans s2)⟩,iY (K:=K) (a:=a) (xs:=L.map λx=>V.ref x.1) (λi σ H'=>∃ (b1 b2 f1 f2:Addr) (L1 L2:FL) (v5:Option V),R8 t Hb H' x1 dx1 b1 mt1 y1 x2 dx2 b2 mt2 y2 o f1 f2 D W1 W2 (flt (L.take i)) L1 L2/\σ=[some (.ref x1),some (.ref x2),some (.ref a),some (.ref f1),some (.ref f2),v5])
  ⟨b1,b2,f1,f2,[],[],_,⟨sb.trans s2,R1.mono s2,R2.mono s2,rfl,rfl,g2.sm _ _ g1.at_,g2.at_,fb1,fb2,d1,d2,d3,⟨cq g1.nw R1.hb,cq g1.nw R1.ft.1,cq g1.nw R2.hb,cq g1.nw R2.ft.1⟩,⟨cq g2.nw (g1.sm _ _ R1.hb),cq g2.nw (g1.sm _ _ R1.ft.1),cq g2.nw (g1.sm _ _ R2.hb),cq g2.nw (g1.sm _ _ R2.ft.1)⟩⟩,rfl⟩ (λi σ H' _ z=>by obtain⟨_,_,_,_,_,_,_,B,_⟩:=z; exact ha _ B.sm) ?_ ?_⟩
 ·rintro i v σ H3 hv ⟨b1,b2,f1,f2,L1,L2,v5,B,rfl⟩
  rw[List.getElem?_map]at hv
  cases hL:L[i]? with
  | none=>rw[hL]at hv; cases hv
  | some e =>
  rw[hL]at hv
  cases hv
  obtain⟨_,he⟩:=pc.2 e (List.mem_of_getElem? hL)
  have ef:flt (L.take (i+1))=flt (L.take i)++e.2:=by rw[ff hL,o6]
  have a1:=acc (i+1)
  rw[ef,List.length_append]at a1
  have hws:bq e.2:=λx hx=>a1.1 x (List.mem_append_right _ hx)
  obtain⟨pg,bg,_,_,_,_⟩:=gX ok (flt (L.take i)) 0 [] 0 (fH D) (cS.nil _ _) (acc i).1
  have nxt:=Au D (flt (L.take i)) e.2 0 [] 0
  have lw3 : ∀ W:Wy,((aU W (run D (run D 0 [] 0 (flt (L.take i))).1 (run D 0 [] 0 (flt (L.take i))).2.1 (0+(flt (L.take i)).length) e.2).2.2).map V.int).length<=4000:=λW=>by
   have:=sk ok W (0+(flt (L.take i)).length) pg bg hws
   have:=(bg.byts pg).2
   rw[List.length_map]
   omega
  have sw1:af Hb (wo H3 [x1,b1,mt1]):=hZ B.sm fx1 B.fb1 fm1
  refine .inr ⟨x1,dx1,_,rfl,B.r1.hx,rfl,wo H3 [x1,b1,mt1],x1,dx1,o,b1,mt1,y1,e.1,D,W1,_,_,_,L1,e.2,rfl,⟨tn.mono sw1,wy1.mono sw1,gH,cC (by simp),cC (by simp),cC (by simp),B.r1.nbm,B.r1.hx,B.r1.hb,B.r1.ft,pg,bg,lcr i⟩,sw1.seq (.of he),hws,by omega,by have:=lFL L1 i B.e1; omega,λq4 c1 ps1 H4 s4 nq4 fc1 nbm1 nqb hx4 hb4 ft4 eps1 hq4=>?_⟩
  have hf1:=B.r1.lst B.u1.1 B.u1.2.1 s4 B.q1
  refine⟨_,_,.of hf1,.of hq4,bB (by have:=lst3 W1 i; have:=lw3 W1; omega),λp5 H5 g5=>?_⟩
  have R24:=B.r1.keep B.r2 nx B.d1.symm B.d3.symm B.d2.symm d4.symm s4
  have hf2:=B.r1.lst B.u2.1 B.u2.2.1 s4 B.q2
  have n41:c1≠b2:=λz=>by
   have:=eB (H:=H3) (bc B.r2.hb B.r1.hx (by intro z; cases z)) B.d1.symm B.d3.symm B.r2.hb
   rw[<- z,fc1]at this; cases this
  have n42:c1≠mt2:=λz=>by
   have:=eB (H:=H3) (bc B.r2.ft.1 B.r1.hx (by intro z; cases z)) B.d2.symm d4.symm B.r2.ft.1
   rw[<- z,fc1]at this; cases this
  have n43:c1≠f2:=λz=>by
   have:=eB (H:=H3) (bc B.q2 B.r1.hx (by intro z; cases z)) B.u2.1 B.u2.2.1 B.q2
   rw[<- z,fc1]at this; cases this
  have R15:Rz t H5 x1 dx1 o c1 mt1 y1 _ _ _ (L1++ps1):=(Rz.mk nbm1 hx4 hb4 ft4).mono g5.sm
  have R25:=R24.mono g5.sm
  have s5:af Hb H5:=sw1.trans (s4.trans g5.sm)
  have sw2:af Hb (wo H5 [x2,b2,mt2]):=hZ s5 fx2 B.fb2 fm2
  refine .inr ⟨x2,dx2,_,rfl,R25.hx,rfl,wo H5 [x2,b2,mt2],x2,dx2,o,b2,mt2,y2,e.1,D,W2,_,_,_,L2,e.2,rfl,⟨tn.mono sw2,wy2.mono sw2,gH,cC (by simp),cC (by simp),cC (by simp),R25.nbm,R25.hx,R25.hb,R25.ft,pg,bg,lcr i⟩,sw2.seq (.of he),hws,by omega,by have:=lFL L2 i B.e2; omega,λq6 c2 ps2 H6 s6 nq6 fc2 nbm2 nqb2 hx6 hb6 ft6 eps2 hq6=>?_⟩
  have hf25:=g5.sm _ _ hf2
  have hf26:=R25.lst B.u2.2.2.1 B.u2.2.2.2 s6 hf25
  refine⟨_,_,.of hf26,.of hq6,bB (by have:=lst3 W2 i; have:=lw3 W2; omega),λp7 H7 g7=>?_⟩
  have R16:=R25.keep R15 nx.symm n41 n42 B.d3 d4 s6
  have n5b:p5≠b2:=cq g5.nw R24.hb
  have n5m:p5≠mt2:=cq g5.nw R24.ft.1
  have hp56:=R25.lst n5b n5m s6 g5.at_
  have o1:c2≠c1:=λz=>by
   have:=eB (H:=H5) (bc R15.hb R25.hx (by intro z; cases z)) n41 n42 R15.hb
   rw[<- z,fc2]at this; cases this
  have o2:c2≠mt1:=λz=>by
   have:=eB (H:=H5) (bc R15.ft.1 R25.hx (by intro z; cases z)) B.d3 d4 R15.ft.1
   rw[<- z,fc2]at this; cases this
  have o3:c2≠p5:=λz=>by
   have:=eB (H:=H5) (bc g5.at_ R25.hx (by intro z; cases z)) n5b n5m g5.at_
   rw[<- z,fc2]at this; cases this
  have el:0+(flt (L.take i)++e.2).length=0+(flt (L.take i)).length+e.2.length:=by rw[List.length_append]; omega
  refine⟨c1,c2,p5,p7,L1++ps1,L2++ps2,_,?_,rfl⟩
  rw[ef]
  refine⟨sw2.trans (s6.trans g7.sm),?_,?_,?_,?_,?_,?_,sw1.free fc1,sw2.free fc2,o1.symm,n42,o2.symm,⟨cq g5.nw hb4,cq g5.nw ft4.1,o3.symm,n5m⟩,⟨cq g7.nw R16.hb,cq g7.nw R16.ft.1,cq g7.nw hb6,cq g7.nw ft6.1⟩⟩
  ·rw[nxt,el]; exact R16.mono g7.sm
  ·rw[nxt,el]; exact (Rz.mk nbm2 hx6 hb6 ft6).mono g7.sm
  ·rw[nxt,List.map_append,B.e1,eps1,gY]
  ·rw[nxt,List.map_append,B.e2,eps2,gY]
  ·rw[nxt,gJ,List.map_append]; exact g7.sm _ _ hp56
  ·rw[nxt,gJ,List.map_append]; exact g7.at_
 ·rintro σ H3 ⟨b1,b2,f1,f2,L1,L2,v5,B,rfl⟩
  rw[List.length_map,List.take_length]at B
  have lst3:=λW=>lst3 W L.length
  have lFL:=λL1=>lFL L1 L.length
  have lcr:=lcr L.length
  rw[List.take_length]at lst3 lFL lcr
  obtain⟨pg,bg,_,_,_,_⟩:=gX ok (flt L) 0 [] 0 (fH D) (cS.nil _ _) hby
  have l6:=(bg.byts pg).2
  have len6 : ∀ W:Wy,((aU W (eT (0+(flt L).length) (run D 0 [] 0 (flt L)).2.1)).map V.int).length<=20:=λW=>by
   rw[List.length_map]
   unfold eT
   split
   ·exact Nat.zero_le _
   ·have:=nG W [.ft (0+(flt L).length - (run D 0 [] 0 (flt L)).2.1.length) (run D 0 [] 0 (flt L)).2.1.length "short" (run D 0 [] 0 (flt L)).2.1]
    have e:(aU .se [.ft (0+(flt L).length - (run D 0 [] 0 (flt L)).2.1.length) (run D 0 [] 0 (flt L)).2.1.length "short" (run D 0 [] 0 (flt L)).2.1]).length=(run D 0 [] 0 (flt L)).2.1.length:=by simp[aU,gK,eG]
    simp at this e ⊢
    omega
  have sw1:af Hb (wo H3 [x1,b1,mt1]):=hZ B.sm fx1 B.fb1 fm1
  refine⟨x1,dx1,_,rfl,B.r1.hx,rfl,wo H3 [x1,b1,mt1],x1,dx1,o,b1,mt1,y1,D,W1,_,_,_,L1,rfl,⟨tn.mono sw1,wy1.mono sw1,gH,cC (by simp),cC (by simp),cC (by simp),B.r1.nbm,B.r1.hx,B.r1.hb,B.r1.ft,pg,bg,lcr⟩,by have:=lFL L1 B.e1; omega,λq4 c1 ps1 H4 s4 nq4 hx4 ft4 eps1 hq4=>?_⟩
  have hf1:=B.r1.lst B.u1.1 B.u1.2.1 s4 B.q1
  refine⟨_,_,.of hf1,.of hq4,bB (by have:=lst3 W1; have:=len6 W1; omega),λp5 H5 g5=>?_⟩
  have R24:=B.r1.keep B.r2 nx B.d1.symm B.d3.symm B.d2.symm d4.symm s4
  have hf2:=B.r1.lst B.u2.1 B.u2.2.1 s4 B.q2
  have R25:=R24.mono g5.sm
  have s5:af Hb H5:=sw1.trans (s4.trans g5.sm)
  have sw2:af Hb (wo H5 [x2,b2,mt2]):=hZ s5 fx2 B.fb2 fm2
  refine⟨x2,dx2,_,rfl,R25.hx,rfl,wo H5 [x2,b2,mt2],x2,dx2,o,b2,mt2,y2,D,W2,_,_,_,L2,rfl,⟨tn.mono sw2,wy2.mono sw2,gH,cC (by simp),cC (by simp),cC (by simp),R25.nbm,R25.hx,R25.hb,R25.ft,pg,bg,lcr⟩,by have:=lFL L2 B.e2; omega,λq6 c2 ps2 H6 s6 nq6 hx6 ft6 eps2 hq6=>?_⟩
  have hf26:=R25.lst B.u2.2.2.1 B.u2.2.2.2 s6 (g5.sm _ _ hf2)
  refine⟨_,_,.of hf26,.of hq6,bB (by have:=lst3 W2; have:=len6 W2; omega),λp7 H7 g7=>?_⟩
  have hp56:=R25.lst (cq g5.nw R24.hb) (cq g5.nw R24.ft.1) s6 g5.at_
  have hx16:=R25.ins nx.symm s6 (g5.sm _ _ hx4)
  have ft16:=R25.fts B.d3 d4 s6 (ft4.mono g5.sm)
  refine⟨sz rfl,λp8 H8 g8=>?_⟩
  have s8:=g7.sm.trans g8.sm
  refine k p8 p5 p7 c1 c2 (L1++ps1) (L2++ps2) _ _ H8 (sw2.trans (s6.trans s8)) g8.at_ ?_ ?_ (s8 _ _ hx16) (ft16.mono s8) ?_ (s8 _ _ hx6) (ft6.mono s8) ?_
  ·unfold bz; rw[gJ,List.map_append]; exact s8 _ _ hp56
  ·unfold bz; rw[gJ,List.map_append]; exact g8.sm _ _ g7.at_
  ·unfold bz; rw[List.map_append,B.e1,eps1,gY]
  ·unfold bz; rw[List.map_append,B.e2,eps2,gY]
theorem Kp.same{x:Addr}{H0 H H':Hp}(s:af H0 H)(k:Kp x H H')(n:H0 x=none):af H0 H':=λa u e=>k a u (aH e n) (s a u e)
def Ff(K:PySem.W.Frag)(t:Adr):Sp:=λvs H Q _=>∃ (o a:Addr) (c:Int) (D:Kt) (xs:List Int),vs=[.ref o,.ref a,.int c]/\TN t H o D/\aE K H a (xs.map V.int)/\xs.length<=1000/\(∀ x∈xs,fz D x)/\∀ p H',af H H'->H' p=some (.lst ((aY D 0 xs).1.map V.int))->Q (.ref p) H'
theorem BL (T:Txt w K mg t):bp P w K mg base "_law_written" 14 t.xm t.tB ["_law_tongue_here", "_law_text_here", "_law_cell"] (Ff K t):=by
 refine⟨T.Nj,T.DC.kp,T.Pu,T.DC.okQ lT (λvs H Q E h=>by obtain⟨o,a,c,D,xs,rfl,_⟩:=h; rfl) λcdv A outer s H vs Q E hr h=>?_⟩
 obtain⟨o,a,c,D,xs,rfl,tn,ha,lx,hth,k⟩:=h
 have hu:=hr.units
 have ok:=tn.koS
 refine⟨_,(ai (aJ (i:=3) lT.nd rfl (by first | exact Or.inl rfl | exact Or.inr rfl) (gp (LY T) hr (ab (aa 0) ad)))
  (ai (aJ (i:=4) lT.nd rfl (by first | exact Or.inl rfl | exact Or.inr rfl) (aS ad))
  (ai (dw PassesOwn.never rfl (dz (K:=K) rfl (aN (BM T) hr (ab (aa 1) (ab (aa 2) ad)))) (ba (i:=5) lT.nd rfl (by first | exact Or.inl rfl | exact Or.inr rfl)) (ah (aJ (i:=4) lT.nd rfl (by first | exact Or.inl rfl | exact Or.inr rfl) (au (aX (K:=K) rfl) (aa 4) (bf (bJ (oI T) hr (aa 3) (ab (aa 5) ad)) (bJ (oM T) hr (aa 3) (ab (aa 5) ad)))))))
  (ah (al (aa 4)))))),?_⟩
 refine λx dx hx hdx hne=>?_
 refine⟨x,dx,o,rfl,aQ,λsp H1 k1 wr1 ss1 nsp=>⟨rfl,?_⟩⟩
 have s1:af H H1:=Kp.same (fg hx hdx) k1 hx
 have nsx:sp≠x:=cq nsp aQ
 refine⟨sz rfl,λf H2 g2=>?_⟩
 have s2:=s1.trans g2.sm
 obtain⟨dx',hx1⟩:=wr1
 refine⟨a,c,xs,rfl,s2.seq ha,lx,λpp L H3 s3 npp pc fr fl ll=>?_⟩
 have hx3:=s3 _ _ (g2.sm _ _ hx1)
 have ss3:=(ss1.mono g2.sm).mono s3
 have all : ∀ i,(∀ y∈flt (L.take i),fz D y)/\(flt (L.take i)).length<=1000:=λi=>by
  obtain⟨z,e⟩:=CG L i
  rw[fl]at e
  rw[e]at hth lx
  rw[List.length_append]at lx
  exact⟨λy hy=>hth y (List.mem_append_left _ hy),by omega⟩
 have len6 : ∀ (ys:List Int) (g:Int),bE D g->(∀ y∈ys,fz D y)->bE D (aY D g ys).2/\(aY D g ys).1.length<=6*ys.length:=λys g pg h=>by
  have:=rD ok ys.length ys g pg h
  rw[List.take_length]at this
  exact this
 have pcx : ∀ e∈L,e.1≠x:=λe he=>bc (pc.2 e he).2 hx3 (by intro z; cases z)
 have npx:pp≠x:=bc pc.1 hx3 (by intro z; cases z)
 refine⟨pp,rfl,⟨_,.of pc.1⟩,iY (K:=K) (a:=pp) (xs:=L.map λx=>V.ref x.1) (λi σ H'=>Kp x H3 H'/\∃ (f:Addr) (v5:Option V),Wr t H' x sp (aY D 0 (flt (L.take i))).2/\H' f=some (.lst ((aY D 0 (flt (L.take i))).1.map V.int))/\σ=[some (.ref o),some (.ref a),some (.int c),some (.ref x),some (.ref f),v5])
  ⟨Kp.of (af.refl _),f,_,⟨dx',hx3⟩,s3 _ _ g2.at_,rfl⟩ (λi σ H' _ z=>.of (z.1 _ _ npx pc.1)) ?_ ?_⟩
 ·rintro i v σ H4 hv ⟨k4,f,v5,⟨d4,hx4⟩,hf4,rfl⟩
  rw[List.getElem?_map]at hv
  cases hL:L[i]? with
  | none=>rw[hL]at hv; cases hv
  | some e =>
  rw[hL]at hv
  cases hv
  have he:=List.mem_of_getElem? hL
  have ef:flt (L.take (i+1))=flt (L.take i)++e.2:=by rw[ff hL,o6]
  have a1:=all (i+1)
  rw[ef,List.length_append]at a1
  have h5 : ∀ y∈e.2,fz D y:=λy hy=>a1.1 y (List.mem_append_right _ hy)
  obtain⟨pg4,l4⟩:=len6 _ 0 (fH D) (all i).1
  obtain⟨_,l5⟩:=len6 e.2 _ pg4 h5
  have hss:Ss t H4 sp o:=let ⟨d,z⟩:=ss3; ⟨d,k4 _ _ nsx z⟩
  have nfx:f≠x:=bc hf4 hx4 (by intro z; cases z)
  have s4:af H H4:=Kp.same (s2.trans s3) k4 hx
  refine .inl ⟨x,d4,_,rfl,hx4,rfl,x,sp,o,e.1,D,e.2,_,rfl,⟨d4,hx4⟩,hss,tn.mono s4,pg4,.of (k4 _ _ (pcx e he) (pc.2 e he).2),by omega,h5,λq H5 k5 nq wr5 hq=>?_⟩
  refine⟨_,_,.of (k5 _ _ nfx hf4),.of hq,bB (by rw[List.length_map,List.length_map]; omega),λp6 H6 g6=>?_⟩
  obtain⟨d5,hx5⟩:=wr5
  refine⟨k4.trans (k5.trans (Kp.of g6.sm)),p6,_,?_,?_,rfl⟩
  ·rw[ef,gG]; exact⟨d5,g6.sm _ _ hx5⟩
  ·rw[ef,gG,List.map_append]; exact g6.at_
 ·rintro σ H4 ⟨k4,f,v5,wr4,hf4,rfl⟩
  rw[List.length_map,List.take_length,fl]at hf4
  exact k f H4 (Kp.same (s2.trans s3) k4 hx) hf4
theorem Ow{D:Kt}{g:Int}(c:Nat){r:List Int}(h:bq r):(∀ e∈eT c r,ja D e)/\aY D g (aU .se (eT c r))=(r,g):=by
 unfold eT
 by_cases z:r=[]
 ·rw[if_pos z,z]; exact⟨(λ_ h=>nomatch h),rfl⟩
 ·rw[if_neg z]
  refine⟨λe he=>by rw[List.mem_singleton.mp he]; exact⟨h,rfl⟩,?_⟩
  show aY D g ((r.map λb=>61184+b)++[])=_
  rw[List.append_nil,nA D g r h]
theorem Ot{D:Kt}(ok:dq D){bs:List Int}(h:bq bs):(∀ e∈bz D bs,ja D e)/\(aY D 0 (aU .se (bz D bs))).1=bs:=by
 obtain⟨pg,bg,h3,h4,h5,_⟩:=gX ok bs 0 [] 0 (fH D) (cS.nil _ _) h
 obtain⟨e1,e2⟩:=Ow (D:=D) (g:=(run D 0 [] 0 bs).1) (0+bs.length) (bg.byts pg).1
 refine⟨λe he=>(List.mem_append.mp he).elim (h5 e) (e1 e),?_⟩
 unfold bz
 rw[gJ,gG,h4,e2]
 exact h3
theorem y8{D:Kt}(ok:dq D) : ∀ es:List Ev,(∀ e∈es,ja D e)->(aU .se es).filter (λx=>decide (x < 61184) || decide (x > 61439))=aU .lv es
 | [],_=>rfl
 | e :: es,h=>by
  have ih:=y8 ok es λx hx=>h x (List.mem_cons_of_mem _ hx)
  have o:=h e (List.mem_cons_self ..)
  show List.filter _ (gK .se e++aU .se es)=gK .lv e++aU .lv es
  rw[List.filter_append,ih]
  congr 1
  cases e with
  | sg n =>
   have:=sL ok o
   unfold Sg at this
   show List.filter _ [n]=[n]
   rw[List.filter_cons_of_pos (by simp; omega)]
   rfl
  | ft p l k bs =>
   show List.filter _ (bs.map λb=>61184+b)=[]
   refine List.filter_eq_nil_iff.mpr λx hx=>?_
   obtain⟨b,hb,rfl⟩:=List.mem_map.mp hx
   have:=o.1 b hb
   simp
   omega
theorem rL(n:Int) : ∀ es:List Ev,(aU (.pt n) es).length=(aU .lv es).length+(fts es).length
 | []=>rfl
 | .sg m :: es=>by
  have ih:=rL n es
  show ([m]++aU (.pt n) es).length=([m]++aU .lv es).length+(fts es).length
  rw[List.length_append,List.length_append,ih]
  omega
 | .ft p l k bs :: es=>by
  have ih:=rL n es
  show ([n]++aU (.pt n) es).length=([]++aU .lv es).length+((fts es).length+1)
  rw[List.length_append,List.length_append,ih]
  show 1+_=0+_+_
  omega
theorem nE{D:Kt} : ∀ es:List Ev,(∀ e∈es,ja D e)->((fts es).map λx=>x.2.1).sum+(aU .lv es).length=(aU .se es).length
 | [],_=>rfl
 | .sg m :: es,h=>by
  have ih:=nE es λx hx=>h x (List.mem_cons_of_mem _ hx)
  show ((fts es).map λx=>x.2.1).sum+([m]++aU .lv es).length=([m]++aU .se es).length
  rw[List.length_append,List.length_append]
  omega
 | .ft p l k bs :: es,h=>by
  have ih:=nE es λx hx=>h x (List.mem_cons_of_mem _ hx)
  have o:=(h _ (List.mem_cons_self ..)).2
  show (l+((fts es).map λx=>x.2.1).sum)+([]++aU .lv es).length=((bs.map λb=>61184+b)++aU .se es).length
  rw[List.length_append,List.length_append,List.length_map,o]
  show l+_+(0+_)=_
  omega
def Kd(k:Str):Prop:=k = "short"\/k = "broken"\/k = "strange"
theorem LC{k:Str}(h:Kd k):PyData.strOk k=true:=by rcases h with rfl | rfl | rfl <;> decide +kernel
def hV(es:List Ev):Prop:=∀ f∈fts es,Kd f.2.2
theorem hV.app{xs ys:List Ev}(h:hV xs)(g:hV ys):hV (xs++ys):=λf hf=>by
 rw[gY]at hf
 exact (List.mem_append.mp hf).elim (h f) (g f)
theorem Bt(D:Kt)(g:Int)(c:Nat)(r:List Int):hV (cN D g c r).2.2:=by
 unfold cN
 cases bV D g r with
 | sg n g'=>exact λf hf=>nomatch hf
 | mo=>exact λf hf=>nomatch hf
 | no=>exact λf hf=>by rw[List.mem_singleton.mp hf]; exact .inr (.inr rfl)
theorem LD(D:Kt)(g:Int)(c:Nat)(r:List Int):hV (gu D g c r).2.2:=by
 unfold gu
 cases bV D g r with
 | sg n g'=>exact λf hf=>nomatch hf
 | mo=>exact λf hf=>nomatch hf
 | no =>
  intro f hf
  rcases List.mem_cons.mp hf with rfl | hf
  ·exact .inr (.inl rfl)
  ·exact Bt D g c _ f hf
theorem LB(D:Kt)(g:Int)(r:List Int)(c:Nat)(b:Int):hV (bU D g r c b).2.2:=by
 unfold bU
 split
 ·split
  ·exact Bt D g c _
  ·exact LD D g c _
 ·exact λf hf=>nomatch hf
theorem Bs(D:Kt) : ∀ (bs:List Int) (g:Int) (r:List Int) (c:Nat),hV (run D g r c bs).2.2
 | [],_,_,_=>λf hf=>nomatch hf
 | b :: bs,g,r,c=>(LB D g r (c+1) b).app (Bs D bs _ _ _)
theorem LE(D:Kt)(bs:List Int):hV (bz D bs):=(Bs D bs 0 [] 0).app (by
 unfold eT
 split
 ·exact λf hf=>nomatch hf
 ·exact λf hf=>by rw[List.mem_singleton.mp hf]; exact .inl rfl)
def dF(L:List (Nat × Nat × Str)):List PyData:=L.map λx=>PyData.tuple [.int (x.1:Int),.int (x.2.1:Int),.str x.2.2]
theorem CV : ∀ L:List (Nat × Nat × Str),(∀ x∈L,Kd x.2.2)->PyData.canLayAll0 (dF L)=true
 | [],_=>rfl
 | q :: r,h=>by
  have ih:=CV r λx hx=>h x (List.mem_cons_of_mem _ hx)
  have k:=LC (h q (List.mem_cons_self ..))
  simp only [dF]at ih
  simp[dF,PyData.canLayAll0,PyData.canLay0,ih,k]
theorem CU : ∀ L:List (Nat × Nat × Str),PyData.depthAll (dF L)<=1
 | []=>by decide
 | q :: r=>by
  have ih:=CU r
  simp only [dF]at ih
  simp[dF,PyData.depthAll,PyData.depth]
  omega
theorem pK{L:List (Nat × Nat × Str)}(h : ∀ x∈L,Kd x.2.2):SeqAt.shaped (.list (dF L))=true:=by
 have:=CU L
 simp[SeqAt.shaped,PyData.canLay0,PyData.depth,CV L h]
 omega
theorem CT(L:List (Nat × Nat × Str)):PyData.eqv (.list (dF L)) (.list (dF L))=true:=by
 show PyData.eqvAll _ _=true
 induction L with
 | nil=>rfl
 | cons q r ih =>
  simp only [dF]at ih
  simp[dF,PyData.eqvAll,PyData.eqv,ih]
theorem mQ{H:Hp} : ∀ L:FL,(∀ q∈L,H q.1=some (.tup (CB q.2)))->dN K H (dF (L.map λx=>x.2)) (L.map λq=>V.ref q.1)
 | [],_=>.nil
 | q :: r,h=>.cons (ap.tup (.of (h q (.head _))) (.cons (.int _) (.cons (.int _) (.cons (.str _) .nil)))) (mQ r λx hx=>h x (.tail _ hx))
set_option maxHeartbeats 8000000
theorem kW{σ:St}{i:Nat}{v:V}{H:Hp}{Q:VK}(h:σ[i]? = some (some v))(q:Q v H):mV i σ H Q:=by
 unfold mV
 rw[h]
 exact q
theorem J2{σ:St}{i j:Nat}{a b:Addr}{ns:List Int}{H:Hp}{Q:Bool->Hp->Prop}(hx:σ[i]? = some (some (.ref a)))(hy:σ[j]? = some (some (.ref b)))(h1:aE K H a (ns.map V.int))(h2:aE K H b (ns.map V.int))(k:Q false H):mB (fW (lh K true) (mV i) (mV j)) σ H Q:=by
 unfold mB fW
 refine kW hx (kW hy (im h1 h2 ?_))
 rw[decide_eq_true (rfl:ns=ns)]
 exact k
theorem zx : ∀ L:List Nat,(L.map λx:Nat=>(x:Int)).sum=((L.sum:Nat):Int)
 | []=>rfl
 | x :: L=>by
  have ih:=zx L
  rw[List.map_cons,List.sum_cons,List.sum_cons,ih]
  rfl
theorem KG{H:Hp}{p:Addr}{M:Md}(h:Mod H p M) : ∃ D,Mt M D/\dq D:=by
 obtain⟨a,b,_,c⟩:=h
 cases M with
 | ld=>exact⟨.ld,rfl,trivial⟩
 | pr b=>exact⟨.pr b,rfl,trivial⟩
 | sh ns ms=>exact⟨.sh ⟨p,p,p,p,p,p,p,p,p,p⟩ ns ms,⟨_,rfl⟩,c.2.2.1,c.2.2.2⟩
 | tb es=>exact⟨.tb ⟨p,p,p,p⟩ es,⟨_,rfl⟩,c.2.2⟩
 | br=>exact⟨.br,rfl,trivial⟩
def rS(K:PySem.W.Frag):Sp:=λvs H Q _=>∃ a,vs=[.ref a]/\∃ ns:List Int,aE K H a (ns.map V.int)/\ns.length<=63/\∀ H',Q (.bl true) H'
theorem ME (T:Txt w K mg t):bp P w K mg base "law" 15 t.xP t.o9 ["_law_script"] (rS K):=by
 refine⟨T.Cq,T.yQ.kp,T.P5,T.yQ.okQ dZ (λvs H Q E h=>by obtain⟨a,rfl,_⟩:=h; rfl) λcdv A outer s H vs Q E hr h=>?_⟩
 obtain⟨a,rfl,sc,h1,hc,kq⟩:=h
 have hu:=hr.units
 refine⟨_,(ai (aJ (i:=1) dZ.nd rfl (by first | exact Or.inl rfl | exact Or.inr rfl) (aN (Mj T) hr (ab (aN (mr T) hr (ab (aa 0) (ab aj ad))) ad)))
  (ai (aJ (i:=2) dZ.nd rfl (by first | exact Or.inl rfl | exact Or.inr rfl) (aN (Mg T) hr (ab (aa 1) (ab (cU (c9 (K:=K) rfl) (aa 0) (ci aj) (ci aj)) ad))))
  (ai (aF (av (bo (K:=K) rfl hu) (bh (aN (mr T) hr (ab (aa 0) (ab aj ad)))) aj (aD _)) (ah (nU (i:=2) dZ.nd rfl (by first | exact Or.inl rfl | exact Or.inr rfl) rfl (cG.of (fns:=(ag gN).names) (N:=["_law_script", "_law_model_here", "_law_row_here", "_law_tongue_here", "_law_pieces_here", "_law_seer", "_law_putter", "_law_seen", "_law_put", "_law_text_here", "_law_leaver", "_law_signs", "_law_passed"]) (Nc:=["_law_cell"]) (nv:=1) (caps:=[]) rfl rfl (by decide +kernel)) (dz (K:=K) rfl (cU (c9 (K:=K) rfl) (aa 0) (ci aj) (ci aj))) (λ_ _ _ _=>(ba (i:=0) (show List.Nodup (["_law_cell"]:List Str) by decide +kernel) rfl (Or.inl rfl) (Or.inr rfl))) (λ_ _ _ _=>d6) (λ_ _ _ _=>(bh (aa 0))))) aG)
  (ai (aF (av (bo (K:=K) rfl hu) (bh (bH (aN (mr T) hr (ab (aa 0) (ab aj ad))))) aj (aD _)) (ah (aJ (i:=2) dZ.nd rfl (by first | exact Or.inl rfl | exact Or.inr rfl) (cU (c9 (K:=K) rfl) (au em (aa 2) aj) dD (ci aj)))) aG)
  (ai (aJ (i:=3) dZ.nd rfl (by first | exact Or.inl rfl | exact Or.inr rfl) (aN (Mb T) hr (ab (aa 1) ad)))
  (ai (aJ (i:=4) dZ.nd rfl (by first | exact Or.inl rfl | exact Or.inr rfl) (aN (BM T) hr (ab (aa 2) (ab (bH (aN (mr T) hr (ab (aa 0) (ab aj ad)))) ad))))
  (ai (aJ (i:=5) dZ.nd rfl (by first | exact Or.inl rfl | exact Or.inr rfl) (gp (BG T) hr (ab (aa 3) (ab (nV T.KO T.Nb) ad))))
  (ai (aJ (i:=6) dZ.nd rfl (by first | exact Or.inl rfl | exact Or.inr rfl) (gp (L3 T) hr (ab (aa 3) (ab (gp (LZ T) hr (ab aj ad)) (ab aj ad)))))
  (ai (iP (aN (Mh T) hr (ab (aa 5) (ab (aa 6) (ab (aa 4) ad)))) (eN (K:=K) rfl rfl (bR (ba (i:=7) dZ.nd rfl (by first | exact Or.inl rfl | exact Or.inr rfl)) (bR (ba (i:=8) dZ.nd rfl (by first | exact Or.inl rfl | exact Or.inr rfl)) eK))))
  (ai (aF (bZ (dv (eJ (dE (bi (i9 (K:=K) rfl) T.n_isinstance PyProof.Rows.boot_isinstance (ab (aa 7) (ab (iQ rfl T.n_list PyProof.Rows.boot_list) ad))))) (du (av oS (aN (MF T) hr (ab (aa 7) ad)) fY (aD _))))) (ah (al fY)) aG)
  (ai (aJ (i:=9) dZ.nd rfl (by first | exact Or.inl rfl | exact Or.inr rfl) (dR (fw (K:=K) rfl) T.n_list PyProof.Rows.boot_list (ab (aa 7) ad)))
  (ai (aF (bZ (dv (av (gx (K:=K) rfl hu) (aN (Mo T) hr (ab (aa 3) (ab (aa 7) ad))) (aa 2) (aD _)) (du (av (gx (K:=K) rfl hu) (aa 7) (aa 9) (aD _))))) (ah (al fY)) aG)
  (ai (aF (bZ (dv (av (gx (K:=K) rfl hu) (aN (BL T) hr (ab (aa 3) (ab (aa 7) (ab (bH (aN (mr T) hr (ab (aa 0) (ab aj ad)))) ad)))) (aa 2) (aD _)) (du (av (gx (K:=K) rfl hu) (aN (BL T) hr (ab (aa 3) (ab (aa 7) (ab aj ad)))) (aa 2) (aD _))))) (ah (al fY)) aG)
  (ai (aJ (i:=10) dZ.nd rfl (by first | exact Or.inl rfl | exact Or.inr rfl) (gp (BG T) hr (ab (aa 3) (ab (nV T.KP T.Nh) ad))))
  (ai (nU (i:=11) dZ.nd rfl (by first | exact Or.inl rfl | exact Or.inr rfl) rfl (cG.of (fns:=(ag gN).names) (N:=["_law_script", "_law_model_here", "_law_row_here", "_law_tongue_here", "_law_pieces_here", "_law_seer", "_law_putter", "_law_seen", "_law_put", "_law_text_here", "_law_leaver", "_law_signs", "_law_passed"]) (Nc:=["_law_thing"]) (nv:=1) (caps:=[]) rfl rfl (by decide +kernel)) (dz (K:=K) rfl (aa 7)) (λ_ _ _ _=>(ba (i:=0) (show List.Nodup (["_law_thing"]:List Str) by decide +kernel) rfl (Or.inl rfl) (Or.inr rfl))) (λ_ _ _ _=>(AC (bZ (dv (av dA (aa 0) aj (aD _)) (du (av gy (aa 0) aj (aD _))))))) (λ_ _ _ _=>(aa 0)))
  (ai (aF (bZ (dv (av (gx (K:=K) rfl hu) (au (aX (K:=K) rfl) (bf (bJ (oI T) hr (aa 10) (ab (aa 2) ad)) (bJ (oM T) hr (aa 10) (ab (aa 2) ad))) (bG (sV T) hr (aa 10))) (aa 11) (aD _)) (du (av (gx (K:=K) rfl hu) (bi (bA (K:=K) rfl) T.n_len PySem.boot_len (ab (aa 8) ad)) (au (aX (K:=K) rfl) (bi (bA (K:=K) rfl) T.n_len PySem.boot_len (ab (aa 11) ad)) (bi (bA (K:=K) rfl) T.n_len PySem.boot_len (ab (bG (mv T) hr (aa 5)) ad))) (aD _))))) (ah (al fY)) aG)
  (ai (aJ (i:=12) dZ.nd rfl (by first | exact Or.inl rfl | exact Or.inr rfl) (bi (C7 (K:=K) rfl rfl) T.n_sum PyProof.Rows.boot_sum (ab (fh rfl (cG.of (fns:=(ag gN).names) (N:=["_law_script", "_law_model_here", "_law_row_here", "_law_tongue_here", "_law_pieces_here", "_law_seer", "_law_putter", "_law_seen", "_law_put", "_law_text_here", "_law_leaver", "_law_signs", "_law_passed"]) (Nc:=["_law_fault"]) (nv:=1) (caps:=[]) rfl rfl (by decide +kernel)) (dz (K:=K) rfl (bG (mv T) hr (aa 5))) (λ_ _ _ _=>(ba (i:=0) (show List.Nodup (["_law_fault"]:List Str) by decide +kernel) rfl (Or.inl rfl) (Or.inr rfl))) (λ_ _ _ _=>d6) (λ_ _ _ _=>(aL (aM (K:=K) rfl) (aa 0) aj (λ_ _=>rfl)))) ad)))
  (ah (al (ib (sn (bo (K:=K) rfl hu) (aa 12) (au cv (bi (bA (K:=K) rfl) T.n_len PySem.boot_len (ab (aa 7) ad)) (bi (bA (K:=K) rfl) T.n_len PySem.boot_len (ab (aa 11) ad))) (aD _)) (gl (kT (bo (K:=K) rfl hu) (bo (K:=K) rfl hu) (bG (mv T) hr (aa 10)) (bG (mv T) hr (aa 5)) (bG (mv T) hr (aa 6)))))))))))))))))))))))),?_⟩
 refine⟨a,sc,0,rfl,h1,λc0 H1 s1=>?_⟩
 refine⟨c0,rfl,λp M H2 s2 mod2=>?_⟩
 have s02:=s1.trans s2
 refine⟨_,rfl,_,rfl,_,s02.seq h1,λpc H3 g3=>?_⟩
 have ecut:de (sc.map V.int) (some 2) (some 63)=((sc.drop 2).take 61).map V.int:=by rw[eU]; exact congrArg _ (CZ sc 2 61)
 rw[ecut]at g3
 refine⟨p,pc,M,_,rfl,mod2.mono g3.sm,g3.lst,by rw[List.length_take]; omega,KG mod2,λpr r0 H4 s4 hr0 by0 l0=>?_⟩
 have s04:=s02.trans (g3.sm.trans s4)
 have mod4:=mod2.mono (g3.sm.trans s4)
 unfold nH
 dsimp only
 refine dh (λσ' H'=>af H4 H'/\∃ (pr:Addr) (r:List Int),H' pr=some (.lst (r.map V.int))/\bq r/\r.length<=400/\σ'=[some (.ref a),some (.ref p),some (.ref pr),none,none,none,none,none,none,none,none,none,none]) (λnx hn=>?_) ?_
 ·refine⟨a,sc,1,rfl,s04.seq h1,λc1 H5 s5=>?_⟩
  refine ak (λ_=>?_) (λ_=>?_)
  ·refine⟨_,rfl,_,rfl,_,(s04.trans s5).seq h1,λp6 H6 g6=>?_⟩
   rw[ecut]at g6
   have l61:((sc.drop 2).take 61).length<=61:=by rw[List.length_take]; omega
   refine⟨p6,rfl,⟨_,g6.lst⟩,i7 ((((sc.drop 2).take 61).map λc=>c%256).map V.int) (by simp) g6.lst (bB (by rw[List.length_map]; omega)) (λi x y H7 N hx hy s7 hN=>?_) λp8 H8 g8=>?_⟩
   ·obtain⟨n,hn,rfl⟩:=dn hx
    rw[List.getElem?_map,List.getElem?_map,hn]at hy
    cases hy
    exact hN _ (af.refl _)
   ·refine hn _ _ ⟨s5.trans (g6.sm.trans g8.sm),p8,_,g8.at_,λb hb=>?_,by rw[List.length_map]; omega,rfl⟩
    obtain⟨c,_,rfl⟩:=List.mem_map.mp hb
    omega
  ·exact hn _ _ ⟨s5,pr,r0,s5 _ _ hr0,by0,l0,rfl⟩
 rintro σ' H5 ⟨s5,pr1,r1,hr1,by1,l1,rfl⟩
 have s05:=s04.trans s5
 refine dh (λσ' H'=>af H5 H'/\∃ (pr:Addr) (r:List Int),H' pr=some (.lst (r.map V.int))/\bq r/\r.length<=400/\σ'=[some (.ref a),some (.ref p),some (.ref pr),none,none,none,none,none,none,none,none,none,none]) (λnx hn=>?_) ?_
 ·refine⟨a,sc,1,rfl,s05.seq h1,λc1 H6 s6=>?_⟩
  refine ak (λ_=>?_) (λ_=>?_)
  ·refine⟨_,s6 _ _ hr1,by decide,by decide,?_,λp7 H7 g7=>?_⟩
   ·exact bB (by rw[List.length_map,show (7:Int).toNat=7 from rfl]; omega)
   have e7:(List.replicate (7:Int).toNat (r1.map V.int)).flatten=((List.replicate 7 r1).flatten).map V.int:=by rw[List.map_flatten,List.map_replicate]; rfl
   rw[e7]at g7
   refine⟨_,rfl,_,g7.lst,λp8 H8 g8=>?_⟩
   rw[eU]at g8
   refine hn _ _ ⟨s6.trans (g7.sm.trans g8.sm),p8,_,g8.at_,λb hb=>?_,?_,rfl⟩
   ·obtain⟨l,hl,hb⟩:=List.mem_flatten.mp (C0 hb)
    rw[List.eq_of_mem_replicate hl]at hb
    exact by1 b hb
   ·rw[show (400:Int)=((400:Nat):Int) from rfl,mR,List.length_take]
    omega
  ·exact hn _ _ ⟨s6,pr1,r1,s6 _ _ hr1,by1,l1,rfl⟩
 rintro σ' H6 ⟨s6,pr,r,hr6,byr,lr,rfl⟩
 have s06:=s05.trans s6
 refine⟨p,M,rfl,mod4.mono (s5.trans s6),λo D H7 s7 mt tn=>?_⟩
 have ok:=tn.koS
 refine⟨a,sc,1,rfl,(s06.trans s7).seq h1,λc1 H8 s8=>?_⟩
 refine⟨pr,c1 / 3,r,rfl,.of (s8 _ _ (s7 _ _ hr6)),by omega,λpp L H9 s9 npp pcs fr fl ll=>?_⟩
 have s69:=s7.trans (s8.trans s9)
 refine λy1 dy1 hy1 hdy1 hny1=>?_
 have sy1:=fg (C:=t.fM) hy1 hdy1
 have hY1:upd (upd H9 dy1 (.own y1)) y1 (.ins t.fM dy1 []) y1=some (.ins t.fM dy1 []):=aQ
 generalize upd (upd H9 dy1 (.own y1)) y1 (.ins t.fM dy1 [])=H10 at sy1 hY1 ⊢
 refine λx1 dx1 hx1 hdx1 hnx1=>?_
 have sm1:=fg (C:=t.bu) hx1 hdx1
 refine⟨x1,dx1,o,y1,rfl,aQ,λb1 mt1 H11 nb1 nm1 nbm1 k11 hX1 hB1 hM1=>⟨rfl,?_⟩⟩
 have s11:af H10 H11:=Kp.same sm1 k11 hx1
 have fb1:H10 b1=none:=sm1.free nb1
 have fm1:H10 mt1=none:=sm1.free nm1
 refine λy2 dy2 hy2 hdy2 hny2=>?_
 refine⟨y2,dy2,65533,rfl,aQ,rfl,?_⟩
 have sy2:=sj (C:=t.df) (o:=.ins t.df dy2 [("sign",.int 65533)]) hy2 hdy2
 have hY2:upd (upd (upd H11 dy2 (.own y2)) y2 (.ins t.df dy2 [])) y2 (.ins t.df dy2 [("sign",.int 65533)]) y2=some (.ins t.df dy2 [("sign",.int 65533)]):=aQ
 generalize upd (upd (upd H11 dy2 (.own y2)) y2 (.ins t.df dy2 [])) y2 (.ins t.df dy2 [("sign",.int 65533)])=H12 at sy2 hY2 ⊢
 refine λx2 dx2 hx2 hdx2 hnx2=>?_
 have sm2:=fg (C:=t.bu) hx2 hdx2
 refine⟨x2,dx2,o,y2,rfl,aQ,λb2 mt2 H13 nb2 nm2 nbm2 k13 hX2 hB2 hM2=>⟨rfl,?_⟩⟩
 have s13:af H12 H13:=Kp.same sm2 k13 hx2
 have fb2:H12 b2=none:=sm2.free nb2
 have fm2:H12 mt2=none:=sm2.free nm2
 have s1113:=sy2.trans s13
 have s1013:af H10 H13:=s11.trans s1113
 have s1012:=s11.trans sy2
 obtain⟨X,eX⟩ : ∃ X,X=[x1,b1,mt1,x2,b2,mt2]:=⟨_,rfl⟩
 obtain⟨Hb,eHb⟩ : ∃ Hb,Hb=wo H13 X:=⟨_,rfl⟩
 have fr6 : ∀ c∈[x1,b1,mt1,x2,b2,mt2],Hb c=none:=λc hc=>by rw[eHb]; exact cC (by rw[eX]; exact hc)
 have n10 : ∀ c∈X,H10 c=none:=λc hc=>by
  rw[eX]at hc
  simp only [List.mem_cons,List.not_mem_nil,or_false]at hc
  have a1:=s1012.free hx2
  have a2:=s1012.free fb2
  have a3:=s1012.free fm2
  rcases hc with rfl | rfl | rfl | rfl | rfl | rfl <;> assumption
 have sb:af H10 Hb:=by rw[eHb]; exact af.wo s1013 n10
 have hY2b:Hb y2=some (.ins t.df dy2 [("sign",.int 65533)]):=by
  rw[eHb]
  refine rF (λhc=>?_) (s13 _ _ hY2)
  rw[eX]at hc
  simp only [List.mem_cons,List.not_mem_nil,or_false]at hc
  have a1:=cq hy2 hX1
  have a2:=cq hy2 hB1
  have a3:=cq hy2 hM1
  have a4:=aH hY2 hx2
  have a5:=aH hY2 fb2
  have a6:=aH hY2 fm2
  rcases hc with z | z | z | z | z | z <;> exact absurd z (by assumption)
 have s9b:af H9 Hb:=sy1.trans sb
 have s7b:af H7 Hb:=s8.trans (s9.trans s9b)
 refine⟨Hb,x1,dx1,b1,mt1,y1,x2,dx2,b2,mt2,y2,o,pp,D,.se,.pt 65533,L,rfl,by rw[eHb]; exact gH,tn.mono s7b,⟨dy1,sb _ _ hY1⟩,⟨dy2,hY2b⟩,pcs.mono s9b,by rw[fl]; exact byr,by rw[fl]; omega,fr6 _ (by simp),fr6 _ (by simp),fr6 _ (by simp),fr6 _ (by simp),fr6 _ (by simp),fr6 _ (by simp),cq hx2 (sy2 _ _ hX1),aH (sy2 _ _ hB1) fb2,aH (sy2 _ _ hB1) fm2,aH (sy2 _ _ hM1) fb2,aH (sy2 _ _ hM1) fm2,⟨nbm1,s1113 _ _ hX1,s1113 _ _ hB1,s1113 _ _ hM1,λ_ h=>nomatch h⟩,⟨nbm2,hX2,hB2,hM2,λ_ h=>nomatch h⟩,λpq q1 q2 z1 z2 L1 L2 gg nn H14 s14 hpq hq1 hq2 hx1' ft1 el1 hx2' ft2 el2=>?_⟩
 rw[fl]at hq1 hq2 el1 el2
 obtain⟨okE,wrE⟩:=Ot ok byr
 have hth:=rK okE
 have lse:(aU .se (bz D r)).length<=400:=by
  have:=(nz ok _ 0 (fH D) hth).2
  rw[wrE]at this
  omega
 refine⟨pq,_,rfl,.of hpq,rfl,_,_,rfl,_,_,rfl,rfl,?_⟩
 refine⟨_,_,.lst hq1,by with_unfolding_all rfl,?_⟩
 refine mn ?_
 refine⟨q1,_,rfl,hq1,λx hx=>(hth x hx).imp_right (sL ok),by omega,λH15 s15=>?_⟩
 refine⟨(λf h=>nomatch h),?_⟩
 refine mn ?_
 refine⟨_,.inl (.of (s15 _ _ hq1)),λp16 H16 g16=>?_⟩
 have s16:af H14 H16:=s15.trans g16.sm
 have s716:=s7b.trans (s14.trans s16)
 refine⟨o,q1,D,_,rfl,tn.mono s716,.of (s16 _ _ hq1),by omega,hth,λp17 H17 s17 h17=>?_⟩
 rw[wrE]at h17
 have s717:=s716.trans s17
 have hr17:=s717 _ _ (s7 _ _ hr6)
 refine kW (v:=.ref pr) (by rfl) ?_
 refine im (ns:=r) (ms:=r) (.of h17) (.of hr17) ?_
 refine ak (λz=>absurd z (by simp)) (λ_=>?_)
 refine J2 (ns:=aU .se (bz D r)) (by rfl) (by rfl) (.of (s17 _ _ (s16 _ _ hq1))) (.of (s17 _ _ g16.at_)) ?_
 refine mn ?_
 refine⟨a,sc,1,rfl,((s06.trans s7).trans s717).seq h1,λc18 H18 s18=>?_⟩
 have s718:=s717.trans s18
 have s1418:=s16.trans (s17.trans s18)
 refine⟨o,q1,c18 / 12,D,_,rfl,tn.mono s718,.of (s1418 _ _ hq1),by omega,hth,λp19 H19 s19 h19=>?_⟩
 rw[wrE]at h19
 refine kW (v:=.ref pr) (by rfl) ?_
 refine im (ns:=r) (ms:=r) (.of h19) (.of (s19 _ _ (s18 _ _ hr17))) ?_
 refine ak (λz=>absurd z (by simp)) (λ_=>?_)
 have s719:=s718.trans s19
 have s1419:=s1418.trans s19
 refine⟨o,q1,0,D,_,rfl,tn.mono s719,.of (s1419 _ _ hq1),by omega,hth,λp20 H20 s20 h20=>?_⟩
 rw[wrE]at h20
 have s720:=s719.trans s20
 have s1420:=s1419.trans s20
 have hr20:=s720 _ _ (s7 _ _ hr6)
 refine kW (v:=.ref pr) (by rfl) ?_
 refine im (ns:=r) (ms:=r) (.of h20) (.of hr20) ?_
 refine ak (λz=>absurd z (by simp)) (λ_=>?_)
 refine λy3 dy3 hy3 hdy3 hny3=>?_
 have sy3:=fg (C:=t.fN) hy3 hdy3
 have hY3:upd (upd H20 dy3 (.own y3)) y3 (.ins t.fN dy3 []) y3=some (.ins t.fN dy3 []):=aQ
 generalize upd (upd H20 dy3 (.own y3)) y3 (.ins t.fN dy3 [])=H21 at sy3 hY3 ⊢
 refine λx3 dx3 hx3 hdx3 hnx3=>?_
 have sm3:=fg (C:=t.bu) hx3 hdx3
 refine⟨x3,dx3,o,y3,rfl,aQ,λb3 mt3 H22 nb3 nm3 nbm3 k22 hX3 hB3 hM3=>⟨rfl,?_⟩⟩
 have s22:af H21 H22:=Kp.same sm3 k22 hx3
 have fb3:H21 b3=none:=sm3.free nb3
 have fm3:H21 mt3=none:=sm3.free nm3
 have s1421:=s1420.trans sy3
 have s721:=s720.trans sy3
 have hq22:=s22 _ _ (s1421 _ _ hq1)
 refine⟨q1,rfl,⟨_,.of hq22⟩,mT (K:=K) (a:=q1) (xs:=(aU .se (bz D r)).map V.int) (λi ys H'=>af H22 H'/\ys=(((aU .se (bz D r)).take i).filter (λx=>decide (x < 61184) || decide (x > 61439))).map V.int) ⟨af.refl _,rfl⟩ (λi ys H' hi z=>⟨.of (z.1 _ _ hq22),by rw[z.2,List.length_map]; exact Nat.le_trans (List.length_filter_le _ _) (by rw[List.length_take]; exact Nat.min_le_left _ _)⟩) (bB (by rw[List.length_map]; omega)) (λi x ys H' N hx y hN=>?_) λys H' sg H23 y g23=>?_⟩
 ·obtain⟨s',rfl⟩:=y
  obtain⟨m,hm,rfl⟩:=dn hx
  have e1:(((aU .se (bz D r)).take (i+1)).filter (λx=>decide (x < 61184) || decide (x > 61439)))=(((aU .se (bz D r)).take i).filter (λx=>decide (x < 61184) || decide (x > 61439)))++(if (decide (m < 61184) || decide (m > 61439))=true then [m] else []):=by
   rw[ff hm,List.filter_append,List.filter_cons]
   rfl
  refine ak (λz=>?_) (λz=>?_)
  ·have z:m < 61184:=of_decide_eq_true z
   refine gU ?_
   exact hN _ _ ⟨s',by rw[e1,if_pos (by simp; omega),List.map_append]; rfl⟩
  ·have z : ¬ m < 61184:=λy=>z (decide_eq_true y)
   refine ak (λy=>?_) (λy=>?_)
   ·have y:61439 < m:=of_decide_eq_true y
    exact hN _ _ ⟨s',by rw[e1,if_pos (by simp; omega),List.map_append]; rfl⟩
   ·have y : ¬ 61439 < m:=λx=>y (decide_eq_true x)
    exact hN _ _ ⟨s',by rw[e1,if_neg (by simp; omega),List.append_nil]⟩
 obtain⟨s23,rfl⟩:=y
 rw[List.length_map,List.take_length,y8 ok _ okE]at g23
 have s2223:=s23.trans g23.sm
 have s2123:af H21 H23:=s22.trans s2223
 have sw:af H21 (wo H23 [x3,b3,mt3]):=hZ s2123 hx3 fb3 fm3
 have tn21:=tn.mono s721
 have R3:Rz t H23 x3 dx3 o b3 mt3 y3 0 0 [] []:=⟨nbm3,s2223 _ _ hX3,s2223 _ _ hB3,s2223 _ _ hM3,λ_ h=>nomatch h⟩
 have nsb:sg≠b3:=cq g23.nw (s23 _ _ hB3)
 have nsm:sg≠mt3:=cq g23.nw (s23 _ _ hM3)
 obtain⟨pg,bg,acc,_,_,le6⟩:=gX ok r 0 [] 0 (fH D) (cS.nil _ _) byr
 have l6:=(bg.byts pg).2
 have lcr:(run D 0 [] 0 r).2.1.length<=0+r.length:=by
  have:=congrArg List.length acc
  rw[List.length_append,List.length_append]at this
  have e:([]:List Int).length=0:=rfl
  omega
 refine .inr ⟨x3,dx3,_,rfl,R3.hx,rfl,wo H23 [x3,b3,mt3],x3,dx3,o,b3,mt3,y3,pr,D,.lv,0,0,[],[],r,rfl,⟨tn21.mono sw,⟨dy3,sw _ _ hY3⟩,gH,cC (by simp),cC (by simp),cC (by simp),nbm3,R3.hx,R3.hb,R3.ft,fH D,cS.nil _ _,Nat.le_refl _⟩,.of (sw _ _ (sy3 _ _ hr20)),byr,by omega,by decide,λq4 c4 ps4 H24 s24 nq4 fc4 nbm4 nqb4 hx4 hb4 ft4 eps4 hq4=>?_⟩
 have R4:Rz t H24 x3 dx3 o c4 mt3 y3 (run D 0 [] 0 r).1 (0+r.length) (run D 0 [] 0 r).2.1 ([]++ps4):=⟨nbm4,hx4,hb4,ft4⟩
 have sw4:af H21 (wo H24 [x3,c4,mt3]):=hZ (sw.trans s24) hx3 (sw.free fc4) fm3
 have lps4:([]++ps4).length<=800:=by
  have:=congrArg List.length eps4
  rw[List.length_map]at this
  have:=lj (run D 0 [] 0 r).2.2
  rw[List.nil_append]
  omega
 refine⟨x3,dx3,_,rfl,hx4,rfl,wo H24 [x3,c4,mt3],x3,dx3,o,c4,mt3,y3,D,.lv,_,_,_,[]++ps4,rfl,⟨tn21.mono sw4,⟨dy3,sw4 _ _ hY3⟩,gH,cC (by simp),cC (by simp),cC (by simp),nbm4,hx4,hb4,ft4,pg,bg,lcr⟩,by omega,λq5 c5 ps5 H25 s25 nq5 hx5 ft5 eps5 hq5=>?_⟩
 have hq45:=R4.lst nqb4 (cq nq4 R3.ft.1) s25 hq4
 have eE:(aU .lv (run D 0 [] 0 r).2.2).map V.int++(aU .lv (eT (0+r.length) (run D 0 [] 0 r).2.1)).map V.int=(aU .lv (bz D r)).map V.int:=by unfold bz; rw[gJ,List.map_append]
 have llv:(aU .lv (bz D r)).length<=400:=by
  have:=nE _ okE
  omega
 have llv2:=congrArg List.length eE
 rw[List.length_append,List.length_map (as:=aU .lv (bz D r))]at llv2
 refine⟨_,_,.of hq45,.of hq5,bB (by omega),λp6 H26 g26=>?_⟩
 rw[eE]at g26
 have nsc:sg≠c4:=λz=>by
  have:=eB (H:=H23) (bc g23.at_ R3.hx (by intro z; cases z)) nsb nsm g23.at_
  rw[z,fc4]at this; cases this
 have hsg26:=g26.sm _ _ (R4.lst nsc nsm s25 (R3.lst nsb nsm s24 g23.at_))
 have s2126:af H21 H26:=sw4.trans (s25.trans g26.sm)
 have s1426:=s1421.trans s2126
 have levs:(bz D r).length<=900:=by
  unfold bz eT
  rw[List.length_append]
  split
  ·show _+0<=_; omega
  ·show _+1<=_; omega
 have eL1:L1.length=(fts (bz D r)).length:=by rw[<- el1,List.length_map]
 refine kW (v:=.ref sg) (by rfl) ?_
 refine im (ns:=aU .lv (bz D r)) (ms:=aU .lv (bz D r)) (.of g26.at_) (.of hsg26) ?_
 refine ak (λz=>absurd z (by simp)) (λ_=>?_)
 refine⟨_,.inl (.of (s1426 _ _ hq2)),_,.inl (.of hsg26),?_⟩
 refine⟨x1,dx1,_,rfl,s1426 _ _ hx1',rfl,x1,dx1,o,z1,mt1,y1,gg,nn,true,L1,rfl,s1426 _ _ hx1',ft1.mono s1426,λp7 H27 g27=>?_⟩
 refine⟨_,.inl g27.lst,?_⟩
 refine ak (λz=>absurd z ?_) (λ_=>?_)
 ·have:=rL 65533 (bz D r)
  simp[List.length_map]
  omega
 have s1427:=s1426.trans g27.sm
 refine⟨x1,dx1,_,rfl,s1427 _ _ hx1',rfl,x1,dx1,o,z1,mt1,y1,gg,nn,true,L1,rfl,s1427 _ _ hx1',ft1.mono s1427,λp8 H28 g28=>?_⟩
 have ft8:=(ft1.mono s1427).mono g28.sm
 refine⟨p8,rfl,⟨_,g28.lst⟩,i7 ((L1.map λx=>(x.2.2.1:Int)).map V.int) (by simp) g28.lst (bB (by rw[List.length_map,eL1]; have:=lj (bz D r); omega)) (λi x y H9 N hx hy s9 hN=>?_) λp9 H29 g29=>?_⟩
 ·rw[List.getElem?_map]at hx
  rw[List.getElem?_map,List.getElem?_map]at hy
  cases hL:L1[i]? with
  | none=>rw[hL]at hx; cases hx
  | some e =>
  rw[hL]at hx hy
  cases hx
  cases hy
  exact⟨_,.int _,.inr (.of (s9 _ _ (ft8.2 e (List.mem_of_getElem? hL)))),aV (j:=1) rfl,hN _ (af.refl _)⟩
 refine⟨_,g29.lst,?_⟩
 have s1429:=s1427.trans (g28.sm.trans g29.sm)
 have hsg29:=g29.sm _ _ (g28.sm _ _ (g27.sm _ _ hsg26))
 refine⟨_,.inl (.of (s1429 _ _ hq1)),_,.inl (.of hsg29),?_⟩
 refine ak (λ_=>?_) (λz=>absurd (decide_eq_true ?_) z)
 ·have s2529:=g26.sm.trans (g27.sm.trans (g28.sm.trans g29.sm))
  have el3:(([]++ps4)++ps5:FL).map (λx=>x.2)=fts (bz D r):=by
   rw[List.nil_append,List.map_append,eps4,eps5]
   unfold bz
   rw[gY]
  have kd:=LE D r
  refine⟨x3,dx3,_,rfl,s2529 _ _ hx5,rfl,x3,dx3,o,c5,mt3,y3,_,_,true,([]++ps4)++ps5,rfl,s2529 _ _ hx5,ft5.mono s2529,λp10 H30 g30=>?_⟩
  have s1430:=s1429.trans g30.sm
  refine⟨x1,dx1,_,rfl,s1430 _ _ hx1',rfl,x1,dx1,o,z1,mt1,y1,gg,nn,true,L1,rfl,s1430 _ _ hx1',ft1.mono s1430,λp11 H31 g31=>?_⟩
  have d1:dN K H31 (dF (fts (bz D r))) (L1.map λx=>V.ref x.1):=by rw[<- el1]; exact mQ L1 ((ft1.mono s1430).mono g31.sm).2
  have d3:dN K H31 (dF (fts (bz D r))) ((([]++ps4)++ps5:FL).map λx=>V.ref x.1):=by rw[<- el3]; exact mQ _ (((ft5.mono s2529).mono g30.sm).mono g31.sm).2
  refine⟨_,_,ap.lst (.of (g31.sm _ _ g30.at_)) d3,ap.lst g31.lst d1,pK kd,pK kd,?_⟩
  refine ak (λ_=>?_) (λz=>absurd (CT _) z)
  have s1431:=s1430.trans g31.sm
  refine⟨x2,dx2,_,rfl,s1431 _ _ hx2',rfl,x2,dx2,o,z2,mt2,y2,gg,nn,true,L2,rfl,s1431 _ _ hx2',ft2.mono s1431,λp12 H32 g32=>?_⟩
  have d2:dN K H32 (dF (fts (bz D r))) (L2.map λx=>V.ref x.1):=by rw[<- el2]; exact mQ L2 ((ft2.mono s1431).mono g32.sm).2
  have d1':dN K H32 (dF (fts (bz D r))) (L1.map λx=>V.ref x.1):=by rw[<- el1]; exact mQ L1 (((ft1.mono s1430).mono g31.sm).mono g32.sm).2
  refine⟨_,_,ap.lst (.of (g32.sm _ _ g31.at_)) d1',ap.lst g32.lst d2,pK kd,pK kd,?_⟩
  exact cc (kq _) (CT _).symm
 ·have e2:(L1.map λx=>(x.2.2.1:Int)).sum=((((fts (bz D r)).map λx=>x.2.1).sum:Nat):Int):=by
   rw[<- el1,<- zx,List.map_map,List.map_map]
   rfl
  have:=nE _ okE
  rw[e2,List.length_map,List.length_map]
  omega
end
end My
namespace My
open PySem L2
theorem bI{Pm:List Value->Prop}(h : ∀ x0,Pm [x0]) : ∀ us:List Value,us.length=1->Pm us
 | [x0],_=>h x0
theorem bn{Pm:List Value->Prop}(h : ∀ x0 x1,Pm [x0,x1]) : ∀ us:List Value,us.length=2->Pm us
 | [x0,x1],_=>h x0 x1
theorem ca{Pm:List Value->Prop}(h : ∀ x0 x1 x2,Pm [x0,x1,x2]) : ∀ us:List Value,us.length=3->Pm us
 | [x0,x1,x2],_=>h x0 x1 x2
theorem Lg{Pm:List Value->Prop}(h : ∀ x0 x1 x2 x3,Pm [x0,x1,x2,x3]) : ∀ us:List Value,us.length=4->Pm us
 | [x0,x1,x2,x3],_=>h x0 x1 x2 x3
theorem txt_mk{w:World}{K:W.Frag}{h:Heap}{mg:Str->Option Value}(X:K.In h)(G:h.Ns mainGlobals mg)
 {eeNoSign:Addr}
 {a0:Addr} {od0 an0:Option Addr} {sl0:Array (Option Value)} {oc0 kV0 dc0 pm0 cd0 ct0:Value}
 {a1:Addr} {od1 an1:Option Addr} {sl1:Array (Option Value)} {oc1 kV1 dc1 pm1 cd1 ct1:Value}
 {a2:Addr} {od2 an2:Option Addr} {sl2:Array (Option Value)} {oc2 kV2 dc2 pm2 cd2 ct2:Value}
 {a3:Addr} {od3 an3:Option Addr} {sl3:Array (Option Value)} {oc3 kV3 dc3 pm3 cd3 ct3:Value}
 {a4:Addr} {od4 an4:Option Addr} {sl4:Array (Option Value)} {oc4 kV4 dc4 pm4 cd4 ct4:Value}
 {a5:Addr} {od5 an5:Option Addr} {sl5:Array (Option Value)} {oc5 kV5 dc5 pm5 cd5 ct5:Value}
 {a6:Addr} {od6 an6:Option Addr} {sl6:Array (Option Value)} {oc6 kV6 dc6 pm6 cd6 ct6:Value}
 {a7:Addr} {od7 an7:Option Addr} {sl7:Array (Option Value)} {oc7 kV7 dc7 pm7 cd7 ct7:Value}
 {a8:Addr} {od8 an8:Option Addr} {sl8:Array (Option Value)} {oc8 kV8 dc8 pm8 cd8 ct8:Value}
 {a9:Addr} {od9 an9:Option Addr} {sl9:Array (Option Value)} {oc9 kV9 dc9 pm9 cd9 ct9:Value}
 {a10:Addr} {od10 an10:Option Addr} {sl10:Array (Option Value)} {oc10 kV10 dc10 pm10 cd10 ct10:Value}
 {ccSeenSpeller:Addr}
 {a11:Addr} {od11 an11:Option Addr} {sl11:Array (Option Value)} {oc11 kV11 dc11 pm11 cd11 ct11:Value}
 {a12:Addr} {od12 an12:Option Addr} {sl12:Array (Option Value)} {oc12 kV12 dc12 pm12 cd12 ct12:Value}
 {a13:Addr} {od13 an13:Option Addr} {sl13:Array (Option Value)} {oc13 kV13 dc13 pm13 cd13 ct13:Value}
 {ccSeenWriter:Addr}
 {a14:Addr} {od14 an14:Option Addr} {sl14:Array (Option Value)} {oc14 kV14 dc14 pm14 cd14 ct14:Value}
 {a15:Addr} {od15 an15:Option Addr} {sl15:Array (Option Value)} {oc15 kV15 dc15 pm15 cd15 ct15:Value}
 {a16:Addr} {od16 an16:Option Addr} {sl16:Array (Option Value)} {oc16 kV16 dc16 pm16 cd16 ct16:Value}
 {ccLeave:Addr}
 {a17:Addr} {od17 an17:Option Addr} {sl17:Array (Option Value)} {oc17 kV17 dc17 pm17 cd17 ct17:Value}
 {ccPut:Addr}
 {dV17:Addr} {ddc17:Value} {ddd17:Option Addr} {ddn17:Nat} {dsl17:Array (Option Value)} {ud17_0:Tok}
 {a18:Addr} {od18 an18:Option Addr} {sl18:Array (Option Value)} {oc18 kV18 dc18 pm18 cd18 ct18:Value}
 {a19:Addr} {od19 an19:Option Addr} {sl19:Array (Option Value)} {oc19 kV19 dc19 pm19 cd19 ct19:Value}
 {ccSee:Addr}
 {a20:Addr} {od20 an20:Option Addr} {sl20:Array (Option Value)} {oc20 kV20 dc20 pm20 cd20 ct20:Value}
 {dV20:Addr} {ddc20:Value} {ddd20:Option Addr} {ddn20:Nat} {dsl20:Array (Option Value)} {ud20_0:Tok}
 {a21:Addr} {od21 an21:Option Addr} {sl21:Array (Option Value)} {oc21 kV21 dc21 pm21 cd21 ct21:Value}
 {ccGoingReader:Addr}
 {dV21:Addr} {ddc21:Value} {ddd21:Option Addr} {ddn21:Nat} {dsl21:Array (Option Value)} {ud21_0:Tok}
 {a22:Addr} {od22 an22:Option Addr} {sl22:Array (Option Value)} {oc22 kV22 dc22 pm22 cd22 ct22:Value}
 {a23:Addr} {od23 an23:Option Addr} {sl23:Array (Option Value)} {oc23 kV23 dc23 pm23 cd23 ct23:Value}
 {a24:Addr} {od24 an24:Option Addr} {sl24:Array (Option Value)} {oc24 kV24 dc24 pm24 cd24 ct24:Value}
 {a25:Addr} {od25 an25:Option Addr} {sl25:Array (Option Value)} {oc25 kV25 dc25 pm25 cd25 ct25:Value}
 {a26:Addr} {od26 an26:Option Addr} {sl26:Array (Option Value)} {oc26 kV26 dc26 pm26 cd26 ct26:Value}
 {a27:Addr} {od27 an27:Option Addr} {sl27:Array (Option Value)} {oc27 kV27 dc27 pm27 cd27 ct27:Value}
 {a28:Addr} {od28 an28:Option Addr} {sl28:Array (Option Value)} {oc28 kV28 dc28 pm28 cd28 ct28:Value}
 {a29:Addr} {od29 an29:Option Addr} {sl29:Array (Option Value)} {oc29 kV29 dc29 pm29 cd29 ct29:Value}
 {a30:Addr} {od30 an30:Option Addr} {sl30:Array (Option Value)} {oc30 kV30 dc30 pm30 cd30 ct30:Value}
 {a31:Addr} {od31 an31:Option Addr} {sl31:Array (Option Value)} {oc31 kV31 dc31 pm31 cd31 ct31:Value}
 {a32:Addr} {od32 an32:Option Addr} {sl32:Array (Option Value)} {oc32 kV32 dc32 pm32 cd32 ct32:Value}
 {a33:Addr} {od33 an33:Option Addr} {sl33:Array (Option Value)} {oc33 kV33 dc33 pm33 cd33 ct33:Value}
 {ccTongue:Addr}
 {a34:Addr} {od34 an34:Option Addr} {sl34:Array (Option Value)} {oc34 kV34 dc34 pm34 cd34 ct34:Value}
 {dV34:Addr} {ddc34:Value} {ddd34:Option Addr} {ddn34:Nat} {dsl34:Array (Option Value)} {ud34_0:Tok}
 {a35:Addr} {od35 an35:Option Addr} {sl35:Array (Option Value)} {oc35 kV35 dc35 pm35 cd35 ct35:Value}
 {dV35:Addr} {ddc35:Value} {ddd35:Option Addr} {ddn35:Nat} {dsl35:Array (Option Value)} {ud35_0:Tok}
 {a36:Addr} {od36 an36:Option Addr} {sl36:Array (Option Value)} {oc36 kV36 dc36 pm36 cd36 ct36:Value}
 {dV36:Addr} {ddc36:Value} {ddd36:Option Addr} {ddn36:Nat} {dsl36:Array (Option Value)} {ud36_0:Tok}
 {a37:Addr} {od37 an37:Option Addr} {sl37:Array (Option Value)} {oc37 kV37 dc37 pm37 cd37 ct37:Value}
 {dV37:Addr} {ddc37:Value} {ddd37:Option Addr} {ddn37:Nat} {dsl37:Array (Option Value)} {ud37_0:Tok}
 {a38:Addr} {od38 an38:Option Addr} {sl38:Array (Option Value)} {oc38 kV38 dc38 pm38 cd38 ct38:Value}
 {a39:Addr} {od39 an39:Option Addr} {sl39:Array (Option Value)} {oc39 kV39 dc39 pm39 cd39 ct39:Value}
 {a40:Addr} {od40 an40:Option Addr} {sl40:Array (Option Value)} {oc40 kV40 dc40 pm40 cd40 ct40:Value}
 {a41:Addr} {od41 an41:Option Addr} {sl41:Array (Option Value)} {oc41 kV41 dc41 pm41 cd41 ct41:Value}
 {a42:Addr} {od42 an42:Option Addr} {sl42:Array (Option Value)} {oc42 kV42 dc42 pm42 cd42 ct42:Value}
 {a43:Addr} {od43 an43:Option Addr} {sl43:Array (Option Value)} {oc43 kV43 dc43 pm43 cd43 ct43:Value}
 {a44:Addr} {od44 an44:Option Addr} {sl44:Array (Option Value)} {oc44 kV44 dc44 pm44 cd44 ct44:Value}
 {a45:Addr} {od45 an45:Option Addr} {sl45:Array (Option Value)} {oc45 kV45 dc45 pm45 cd45 ct45:Value}
 {ccLeadTongue:Addr}
 {dV45:Addr} {ddc45:Value} {ddd45:Option Addr} {ddn45:Nat} {dsl45:Array (Option Value)} {ud45_0:Tok}
 {a46:Addr} {od46 an46:Option Addr} {sl46:Array (Option Value)} {oc46 kV46 dc46 pm46 cd46 ct46:Value}
 {dV46:Addr} {ddc46:Value} {ddd46:Option Addr} {ddn46:Nat} {dsl46:Array (Option Value)} {ud46_0:Tok}
 {a47:Addr} {od47 an47:Option Addr} {sl47:Array (Option Value)} {oc47 kV47 dc47 pm47 cd47 ct47:Value}
 {dV47:Addr} {ddc47:Value} {ddd47:Option Addr} {ddn47:Nat} {dsl47:Array (Option Value)} {ud47_0:Tok}
 {a48:Addr} {od48 an48:Option Addr} {sl48:Array (Option Value)} {oc48 kV48 dc48 pm48 cd48 ct48:Value}
 {a49:Addr} {od49 an49:Option Addr} {sl49:Array (Option Value)} {oc49 kV49 dc49 pm49 cd49 ct49:Value}
 {a50:Addr} {od50 an50:Option Addr} {sl50:Array (Option Value)} {oc50 kV50 dc50 pm50 cd50 ct50:Value}
 {ccPairTongue:Addr}
 {dV50:Addr} {ddc50:Value} {ddd50:Option Addr} {ddn50:Nat} {dsl50:Array (Option Value)} {ud50_0:Tok}
 {a51:Addr} {od51 an51:Option Addr} {sl51:Array (Option Value)} {oc51 kV51 dc51 pm51 cd51 ct51:Value}
 {a52:Addr} {od52 an52:Option Addr} {sl52:Array (Option Value)} {oc52 kV52 dc52 pm52 cd52 ct52:Value}
 {a53:Addr} {od53 an53:Option Addr} {sl53:Array (Option Value)} {oc53 kV53 dc53 pm53 cd53 ct53:Value}
 {a54:Addr} {od54 an54:Option Addr} {sl54:Array (Option Value)} {oc54 kV54 dc54 pm54 cd54 ct54:Value}
 {a55:Addr} {od55 an55:Option Addr} {sl55:Array (Option Value)} {oc55 kV55 dc55 pm55 cd55 ct55:Value}
 {dV55:Addr} {ddc55:Value} {ddd55:Option Addr} {ddn55:Nat} {dsl55:Array (Option Value)} {ud55_0:Tok}
 {a56:Addr} {od56 an56:Option Addr} {sl56:Array (Option Value)} {oc56 kV56 dc56 pm56 cd56 ct56:Value}
 {dV56:Addr} {ddc56:Value} {ddd56:Option Addr} {ddn56:Nat} {dsl56:Array (Option Value)} {ud56_0:Tok}
 {a57:Addr} {od57 an57:Option Addr} {sl57:Array (Option Value)} {oc57 kV57 dc57 pm57 cd57 ct57:Value}
 {dV57:Addr} {ddc57:Value} {ddd57:Option Addr} {ddn57:Nat} {dsl57:Array (Option Value)} {ud57_0:Tok}
 {a58:Addr} {od58 an58:Option Addr} {sl58:Array (Option Value)} {oc58 kV58 dc58 pm58 cd58 ct58:Value}
 {a59:Addr} {od59 an59:Option Addr} {sl59:Array (Option Value)} {oc59 kV59 dc59 pm59 cd59 ct59:Value}
 {a60:Addr} {od60 an60:Option Addr} {sl60:Array (Option Value)} {oc60 kV60 dc60 pm60 cd60 ct60:Value}
 {ccShiftTongue:Addr}
 {a61:Addr} {od61 an61:Option Addr} {sl61:Array (Option Value)} {oc61 kV61 dc61 pm61 cd61 ct61:Value}
 {a62:Addr} {od62 an62:Option Addr} {sl62:Array (Option Value)} {oc62 kV62 dc62 pm62 cd62 ct62:Value}
 {dV62:Addr} {ddc62:Value} {ddd62:Option Addr} {ddn62:Nat} {dsl62:Array (Option Value)} {ud62_0:Tok}
 {a63:Addr} {od63 an63:Option Addr} {sl63:Array (Option Value)} {oc63 kV63 dc63 pm63 cd63 ct63:Value}
 {a64:Addr} {od64 an64:Option Addr} {sl64:Array (Option Value)} {oc64 kV64 dc64 pm64 cd64 ct64:Value}
 {dV64:Addr} {ddc64:Value} {ddd64:Option Addr} {ddn64:Nat} {dsl64:Array (Option Value)} {ud64_0:Tok}
 {a65:Addr} {od65 an65:Option Addr} {sl65:Array (Option Value)} {oc65 kV65 dc65 pm65 cd65 ct65:Value}
 {dV65:Addr} {ddc65:Value} {ddd65:Option Addr} {ddn65:Nat} {dsl65:Array (Option Value)} {ud65_0:Tok}
 {a66:Addr} {od66 an66:Option Addr} {sl66:Array (Option Value)} {oc66 kV66 dc66 pm66 cd66 ct66:Value}
 {a67:Addr} {od67 an67:Option Addr} {sl67:Array (Option Value)} {oc67 kV67 dc67 pm67 cd67 ct67:Value}
 {a68:Addr} {od68 an68:Option Addr} {sl68:Array (Option Value)} {oc68 kV68 dc68 pm68 cd68 ct68:Value}
 {a69:Addr} {od69 an69:Option Addr} {sl69:Array (Option Value)} {oc69 kV69 dc69 pm69 cd69 ct69:Value}
 {ccTableTongue:Addr}
 {a70:Addr} {od70 an70:Option Addr} {sl70:Array (Option Value)} {oc70 kV70 dc70 pm70 cd70 ct70:Value}
 {a71:Addr} {od71 an71:Option Addr} {sl71:Array (Option Value)} {oc71 kV71 dc71 pm71 cd71 ct71:Value}
 {dV71:Addr} {ddc71:Value} {ddd71:Option Addr} {ddn71:Nat} {dsl71:Array (Option Value)} {ud71_0:Tok}
 {a72:Addr} {od72 an72:Option Addr} {sl72:Array (Option Value)} {oc72 kV72 dc72 pm72 cd72 ct72:Value}
 {dV72:Addr} {ddc72:Value} {ddd72:Option Addr} {ddn72:Nat} {dsl72:Array (Option Value)} {ud72_0:Tok}
 {a73:Addr} {od73 an73:Option Addr} {sl73:Array (Option Value)} {oc73 kV73 dc73 pm73 cd73 ct73:Value}
 {dV73:Addr} {ddc73:Value} {ddd73:Option Addr} {ddn73:Nat} {dsl73:Array (Option Value)} {ud73_0:Tok}
 {a74:Addr} {od74 an74:Option Addr} {sl74:Array (Option Value)} {oc74 kV74 dc74 pm74 cd74 ct74:Value}
 {a75:Addr} {od75 an75:Option Addr} {sl75:Array (Option Value)} {oc75 kV75 dc75 pm75 cd75 ct75:Value}
 {a76:Addr} {od76 an76:Option Addr} {sl76:Array (Option Value)} {oc76 kV76 dc76 pm76 cd76 ct76:Value}
 {a77:Addr} {od77 an77:Option Addr} {sl77:Array (Option Value)} {oc77 kV77 dc77 pm77 cd77 ct77:Value}
 {a78:Addr} {od78 an78:Option Addr} {sl78:Array (Option Value)} {oc78 kV78 dc78 pm78 cd78 ct78:Value}
 {a79:Addr} {od79 an79:Option Addr} {sl79:Array (Option Value)} {oc79 kV79 dc79 pm79 cd79 ct79:Value}
 {a80:Addr} {od80 an80:Option Addr} {sl80:Array (Option Value)} {oc80 kV80 dc80 pm80 cd80 ct80:Value}
 {a81:Addr} {od81 an81:Option Addr} {sl81:Array (Option Value)} {oc81 kV81 dc81 pm81 cd81 ct81:Value}
 {a82:Addr} {od82 an82:Option Addr} {sl82:Array (Option Value)} {oc82 kV82 dc82 pm82 cd82 ct82:Value}
 {a83:Addr} {od83 an83:Option Addr} {sl83:Array (Option Value)} {oc83 kV83 dc83 pm83 cd83 ct83:Value}
 {a84:Addr} {od84 an84:Option Addr} {sl84:Array (Option Value)} {oc84 kV84 dc84 pm84 cd84 ct84:Value}
 {a85:Addr} {od85 an85:Option Addr} {sl85:Array (Option Value)} {oc85 kV85 dc85 pm85 cd85 ct85:Value}
 {a86:Addr} {od86 an86:Option Addr} {sl86:Array (Option Value)} {oc86 kV86 dc86 pm86 cd86 ct86:Value}
 {a87:Addr} {od87 an87:Option Addr} {sl87:Array (Option Value)} {oc87 kV87 dc87 pm87 cd87 ct87:Value}
 {a88:Addr} {od88 an88:Option Addr} {sl88:Array (Option Value)} {oc88 kV88 dc88 pm88 cd88 ct88:Value}
 {a89:Addr} {od89 an89:Option Addr} {sl89:Array (Option Value)} {oc89 kV89 dc89 pm89 cd89 ct89:Value}
 {a90:Addr} {od90 an90:Option Addr} {sl90:Array (Option Value)} {oc90 kV90 dc90 pm90 cd90 ct90:Value}
 {ccWriter:Addr}
 {ccReader:Addr}
 {u0:Tok}
 {u1:Tok}
 {ta2:Addr} {es2:Array DictEntry} {ep2:Nat} {th2_0:Int} {ta2_0:Addr} {ti2_0:Array Value} {tn2_0:Nat} {ts2_0:Array (Option Value)} {th2_1:Int} {ta2_1:Addr} {ti2_1:Array Value} {tn2_1:Nat} {ts2_1:Array (Option Value)}
 {ta2_0_0:Addr} {ti2_0_0:Array Value} {tn2_0_0:Nat} {ts2_0_0:Array (Option Value)} {ta2_0_1:Addr} {ti2_0_1:Array Value} {tn2_0_1:Nat} {ts2_0_1:Array (Option Value)} {ta2_0_2:Addr} {ti2_0_2:Array Value} {tn2_0_2:Nat} {ts2_0_2:Array (Option Value)} {ta2_0_3:Addr} {ti2_0_3:Array Value} {tn2_0_3:Nat} {ts2_0_3:Array (Option Value)} {ta2_0_4:Addr} {ti2_0_4:Array Value} {tn2_0_4:Nat} {ts2_0_4:Array (Option Value)}
 {ta2_1_0:Addr} {ti2_1_0:Array Value} {tn2_1_0:Nat} {ts2_1_0:Array (Option Value)} {ta2_1_1:Addr} {ti2_1_1:Array Value} {tn2_1_1:Nat} {ts2_1_1:Array (Option Value)} {ta2_1_2:Addr} {ti2_1_2:Array Value} {tn2_1_2:Nat} {ts2_1_2:Array (Option Value)} {ta2_1_3:Addr} {ti2_1_3:Array Value} {tn2_1_3:Nat} {ts2_1_3:Array (Option Value)} {ta2_1_4:Addr} {ti2_1_4:Array Value} {tn2_1_4:Nat} {ts2_1_4:Array (Option Value)}
 {u3:Tok}
 {u4:Tok}
 {u5:Tok}
 {u6:Tok}
 {u7:Tok}
 {u8:Tok}
 {u9:Tok}
 {u10:Tok}
 {u11:Tok}
 {u12:Tok}
 {u13:Tok}
 {ta14:Addr} {ti14:Array Value} {tn14:Nat} {ts14:Array (Option Value)}
 {u15:Tok}
 {u16:Tok}
 {u17:Tok}
 {ta18:Addr} {es18:Array DictEntry} {ep18:Nat} {ta18_0:Addr} {ti18_0:Array Value} {tn18_0:Nat} {ts18_0:Array (Option Value)} {ta18_1:Addr} {ti18_1:Array Value} {tn18_1:Nat} {ts18_1:Array (Option Value)} {ta18_2:Addr} {ti18_2:Array Value} {tn18_2:Nat} {ts18_2:Array (Option Value)} {ta18_3:Addr} {ti18_3:Array Value} {tn18_3:Nat} {ts18_3:Array (Option Value)} {ta18_4:Addr} {ti18_4:Array Value} {tn18_4:Nat} {ts18_4:Array (Option Value)}
 {ta19:Addr} {ti19:Array Value} {tn19:Nat} {ts19:Array (Option Value)}
 (mx:W.nsIn K mainGlobals "NoSign" = some (some (.ref eeNoSign)))
 (h0a:W.nsIn K mainGlobals "is_number" = some (some (.ref a0)))
 (h0l:K.lookup a0=some ⟨oc0,od0,.func (W.fnOf "is_number" "is_number" (az jQ) (ay jQ) (ag jQ) .none kV0 dc0 pm0 an0 cd0 ct0),sl0⟩)
 (h0c:W.codeIn K cd0 "is_number" = true)
 (h0k:W.keepIn K (.ref a0)=true)
 (h1a:W.nsIn K mainGlobals "is_byte" = some (some (.ref a1)))
 (h1l:K.lookup a1=some ⟨oc1,od1,.func (W.fnOf "is_byte" "is_byte" (az jT) (ay jT) (ag jT) .none kV1 dc1 pm1 an1 cd1 ct1),sl1⟩)
 (h1c:W.codeIn K cd1 "is_byte" = true)
 (h1k:W.keepIn K (.ref a1)=true)
 (h2a:W.nsIn K mainGlobals "is_head" = some (some (.ref a2)))
 (h2l:K.lookup a2=some ⟨oc2,od2,.func (W.fnOf "is_head" "is_head" (az jR) (ay jR) (ag jR) .none kV2 dc2 pm2 an2 cd2 ct2),sl2⟩)
 (h2c:W.codeIn K cd2 "is_head" = true)
 (h2k:W.keepIn K (.ref a2)=true)
 (h3a:W.nsIn K mainGlobals "is_tail" = some (some (.ref a3)))
 (h3l:K.lookup a3=some ⟨oc3,od3,.func (W.fnOf "is_tail" "is_tail" (az jN) (ay jN) (ag jN) .none kV3 dc3 pm3 an3 cd3 ct3),sl3⟩)
 (h3c:W.codeIn K cd3 "is_tail" = true)
 (h3k:W.keepIn K (.ref a3)=true)
 (h4a:W.nsIn K mainGlobals "is_seen_byte" = some (some (.ref a4)))
 (h4l:K.lookup a4=some ⟨oc4,od4,.func (W.fnOf "is_seen_byte" "is_seen_byte" (az jP) (ay jP) (ag jP) .none kV4 dc4 pm4 an4 cd4 ct4),sl4⟩)
 (h4c:W.codeIn K cd4 "is_seen_byte" = true)
 (h4k:W.keepIn K (.ref a4)=true)
 (h5a:W.nsIn K mainGlobals "is_sign" = some (some (.ref a5)))
 (h5l:K.lookup a5=some ⟨oc5,od5,.func (W.fnOf "is_sign" "is_sign" (az jO) (ay jO) (ag jO) .none kV5 dc5 pm5 an5 cd5 ct5),sl5⟩)
 (h5c:W.codeIn K cd5 "is_sign" = true)
 (h5k:W.keepIn K (.ref a5)=true)
 (h6a:W.nsIn K mainGlobals "is_row" = some (some (.ref a6)))
 (h6l:K.lookup a6=some ⟨oc6,od6,.func (W.fnOf "is_row" "is_row" (az iK) (ay iK) (ag iK) .none kV6 dc6 pm6 an6 cd6 ct6),sl6⟩)
 (h6c:W.codeIn K cd6 "is_row" = true)
 (h6k:W.keepIn K (.ref a6)=true)
 (h7a:W.nsIn K mainGlobals "is_seen" = some (some (.ref a7)))
 (h7l:K.lookup a7=some ⟨oc7,od7,.func (W.fnOf "is_seen" "is_seen" (az iJ) (ay iJ) (ag iJ) .none kV7 dc7 pm7 an7 cd7 ct7),sl7⟩)
 (h7c:W.codeIn K cd7 "is_seen" = true)
 (h7k:W.keepIn K (.ref a7)=true)
 (h8a:W.nsIn K mainGlobals "write_from" = some (some (.ref a8)))
 (h8l:K.lookup a8=some ⟨oc8,od8,.func (W.fnOf "write_from" "write_from" (az jD) (ay jD) (ag jD) .none kV8 dc8 pm8 an8 cd8 ct8),sl8⟩)
 (h8c:W.codeIn K cd8 "write_from" = true)
 (h8k:W.keepIn K (.ref a8)=true)
 (h9a:W.nsIn K mainGlobals "write" = some (some (.ref a9)))
 (h9l:K.lookup a9=some ⟨oc9,od9,.func (W.fnOf "write" "write" (az jE) (ay jE) (ag jE) .none kV9 dc9 pm9 an9 cd9 ct9),sl9⟩)
 (h9c:W.codeIn K cd9 "write" = true)
 (h9k:W.keepIn K (.ref a9)=true)
 (wS:W.nsIn K mainGlobals "SeenSpeller" = some (some (.ref ccSeenSpeller)))
 (qa:W.plainGet K ccSeenSpeller Str.empty=true)
 (qE:W.hasDictIn K ccSeenSpeller=true)
 (qt:W.plainOver K ccSeenSpeller=true)
 (pP:W.findIn K (.ref ccSeenSpeller) "__setattr__" = some (some (.builtin "object.__setattr__")))
 (wk:W.makesIn K ccSeenSpeller=true)
 (wC:W.keepIn K (.ref ccSeenSpeller)=true)
 (vE:W.findIn K (.ref ccSeenSpeller) "__class__" = some (some (.builtin "object.__class__")))
 (vo:W.specialIn K (.builtin "object.__class__") "__get__" = some (some (.builtin "getset_descriptor.__get__")))
 (uZ:W.takesIn K (.builtin "object.__class__")=some true)
 (cw_SeenSpeller:W.mroIn K ccSeenSpeller (.type "object")=some true)
 (vT:W.findIn K (.ref ccSeenSpeller) "tongue" = some none)
 (h10a:W.findIn K (.ref ccSeenSpeller) "__init__" = some (some (.ref a10)))
 (h10f:W.isFn K (.ref a10)=true)
 (h10l:K.lookup a10=some ⟨oc10,od10,.func (W.fnOf "__init__" "SeenSpeller.__init__" (az kr) (ay kr) (ag kr) .none kV10 dc10 pm10 an10 cd10 ct10),sl10⟩)
 (h10c:W.codeIn K cd10 "SeenSpeller.__init__" = true)
 (h10k:W.keepIn K (.ref a10)=true)
 (h11a:W.findIn K (.ref ccSeenSpeller) "spell" = some (some (.ref a11)))
 (h11f:W.isFn K (.ref a11)=true)
 (h11l:K.lookup a11=some ⟨oc11,od11,.func (W.fnOf "spell" "SeenSpeller.spell" (az ko) (ay ko) (ag ko) .none kV11 dc11 pm11 an11 cd11 ct11),sl11⟩)
 (h11c:W.codeIn K cd11 "SeenSpeller.spell" = true)
 (h11k:W.keepIn K (.ref a11)=true)
 (h12l:K.lookup a12=some ⟨oc12,od12,.func (W.fnOf "__init__" "Writer.__init__" (az j0) (ay j0) (ag j0) .none kV12 dc12 pm12 an12 cd12 ct12),sl12⟩)
 (h12c:W.codeIn K cd12 "Writer.__init__" = true)
 (h12k:W.keepIn K (.ref a12)=true)
 (wR:W.nsIn K mainGlobals "SeenWriter" = some (some (.ref ccSeenWriter)))
 (pZ:W.plainGet K ccSeenWriter Str.empty=true)
 (qD:W.hasDictIn K ccSeenWriter=true)
 (qr:W.plainOver K ccSeenWriter=true)
 (pO:W.findIn K (.ref ccSeenWriter) "__setattr__" = some (some (.builtin "object.__setattr__")))
 (wj:W.makesIn K ccSeenWriter=true)
 (wB:W.keepIn K (.ref ccSeenWriter)=true)
 (vD:W.findIn K (.ref ccSeenWriter) "__class__" = some (some (.builtin "object.__class__")))
 (vm:W.specialIn K (.builtin "object.__class__") "__get__" = some (some (.builtin "getset_descriptor.__get__")))
 (uY:W.takesIn K (.builtin "object.__class__")=some true)
 (cw_SeenWriter:W.mroIn K ccSeenWriter (.type "object")=some true)
 (vS:W.findIn K (.ref ccSeenWriter) "at_page" = some none)
 (vR:W.findIn K (.ref ccSeenWriter) "tongue" = some none)
 (h13a:W.findIn K (.ref ccSeenWriter) "__init__" = some (some (.ref a13)))
 (h13f:W.isFn K (.ref a13)=true)
 (h13l:K.lookup a13=some ⟨oc13,od13,.func (W.fnOf "__init__" "SeenWriter.__init__" (az km) (ay km) (ag km) .none kV13 dc13 pm13 an13 cd13 ct13),sl13⟩)
 (h13c:W.codeIn K cd13 "SeenWriter.__init__" = true)
 (h13k:W.keepIn K (.ref a13)=true)
 (h14a:W.findIn K (.ref ccSeenWriter) "feed" = some (some (.ref a14)))
 (h14f:W.isFn K (.ref a14)=true)
 (h14l:K.lookup a14=some ⟨oc14,od14,.func (W.fnOf "feed" "Writer.feed" (az j1) (ay j1) (ag j1) .none kV14 dc14 pm14 an14 cd14 ct14),sl14⟩)
 (h14c:W.codeIn K cd14 "Writer.feed" = true)
 (h14k:W.keepIn K (.ref a14)=true)
 (h15a:W.nsIn K mainGlobals "write_seen" = some (some (.ref a15)))
 (h15l:K.lookup a15=some ⟨oc15,od15,.func (W.fnOf "write_seen" "write_seen" (az jC) (ay jC) (ag jC) .none kV15 dc15 pm15 an15 cd15 ct15),sl15⟩)
 (h15c:W.codeIn K cd15 "write_seen" = true)
 (h15k:W.keepIn K (.ref a15)=true)
 (wX:W.nsIn K mainGlobals "Leave" = some (some (.ref ccLeave)))
 (qf:W.plainGet K ccLeave Str.empty=true)
 (qJ:W.hasDictIn K ccLeave=true)
 (qx:W.plainOver K ccLeave=true)
 (pT:W.findIn K (.ref ccLeave) "__setattr__" = some (some (.builtin "object.__setattr__")))
 (wp:W.makesIn K ccLeave=true)
 (wG:W.keepIn K (.ref ccLeave)=true)
 (wL:W.findIn K (.ref ccLeave) "__init__" = some (some (.builtin "object.__init__")))
 (vI:W.findIn K (.ref ccLeave) "__class__" = some (some (.builtin "object.__class__")))
 (vx:W.specialIn K (.builtin "object.__class__") "__get__" = some (some (.builtin "getset_descriptor.__get__")))
 (vf:W.takesIn K (.builtin "object.__class__")=some true)
 (cw_Leave:W.mroIn K ccLeave (.type "object")=some true)
 (h16a:W.findIn K (.ref ccLeave) "told" = some (some (.ref a16)))
 (h16f:W.isFn K (.ref a16)=true)
 (h16l:K.lookup a16=some ⟨oc16,od16,.func (W.fnOf "told" "Way.told" (az j2) (ay j2) (ag j2) .none kV16 dc16 pm16 an16 cd16 ct16),sl16⟩)
 (h16c:W.codeIn K cd16 "Way.told" = true)
 (h16k:W.keepIn K (.ref a16)=true)
 (wV:W.nsIn K mainGlobals "Put" = some (some (.ref ccPut)))
 (qd:W.plainGet K ccPut Str.empty=true)
 (qH:W.hasDictIn K ccPut=true)
 (qv:W.plainOver K ccPut=true)
 (pR:W.findIn K (.ref ccPut) "__setattr__" = some (some (.builtin "object.__setattr__")))
 (wm:W.makesIn K ccPut=true)
 (wE:W.keepIn K (.ref ccPut)=true)
 (vG:W.findIn K (.ref ccPut) "__class__" = some (some (.builtin "object.__class__")))
 (vt:W.specialIn K (.builtin "object.__class__") "__get__" = some (some (.builtin "getset_descriptor.__get__")))
 (vd:W.takesIn K (.builtin "object.__class__")=some true)
 (cw_Put:W.mroIn K ccPut (.type "object")=some true)
 (vU:W.findIn K (.ref ccPut) "sign" = some none)
 (h17a:W.findIn K (.ref ccPut) "__init__" = some (some (.ref a17)))
 (h17f:W.isFn K (.ref a17)=true)
 (h17l:K.lookup a17=some ⟨oc17,od17,.func (W.fnOf "__init__" "Put.__init__" (az kF) (ay kF) (ag kF) (.ref dV17) kV17 dc17 pm17 an17 cd17 ct17),sl17⟩)
 (h17c:W.codeIn K cd17 "Put.__init__" = true)
 (h17k:W.keepIn K (.ref a17)=true)
 (h17d:K.lookup dV17=some ⟨ddc17,ddd17,.seq ([.int 65533 ud17_0]:List Value).toArray ddn17,dsl17⟩)
 (h18a:W.findIn K (.ref ccPut) "told" = some (some (.ref a18)))
 (h18f:W.isFn K (.ref a18)=true)
 (h18l:K.lookup a18=some ⟨oc18,od18,.func (W.fnOf "told" "Put.told" (az kE) (ay kE) (ag kE) .none kV18 dc18 pm18 an18 cd18 ct18),sl18⟩)
 (h18c:W.codeIn K cd18 "Put.told" = true)
 (h18k:W.keepIn K (.ref a18)=true)
 (wT:W.nsIn K mainGlobals "See" = some (some (.ref ccSee)))
 (qc:W.plainGet K ccSee Str.empty=true)
 (qG:W.hasDictIn K ccSee=true)
 (qu:W.plainOver K ccSee=true)
 (pQ:W.findIn K (.ref ccSee) "__setattr__" = some (some (.builtin "object.__setattr__")))
 (wl:W.makesIn K ccSee=true)
 (wD:W.keepIn K (.ref ccSee)=true)
 (wK:W.findIn K (.ref ccSee) "__init__" = some (some (.builtin "object.__init__")))
 (vF:W.findIn K (.ref ccSee) "__class__" = some (some (.builtin "object.__class__")))
 (vp:W.specialIn K (.builtin "object.__class__") "__get__" = some (some (.builtin "getset_descriptor.__get__")))
 (va:W.takesIn K (.builtin "object.__class__")=some true)
 (cw_See:W.mroIn K ccSee (.type "object")=some true)
 (h19a:W.findIn K (.ref ccSee) "told" = some (some (.ref a19)))
 (h19f:W.isFn K (.ref a19)=true)
 (h19l:K.lookup a19=some ⟨oc19,od19,.func (W.fnOf "told" "See.told" (az iM) (ay iM) (ag iM) .none kV19 dc19 pm19 an19 cd19 ct19),sl19⟩)
 (h19c:W.codeIn K cd19 "See.told" = true)
 (h19k:W.keepIn K (.ref a19)=true)
 (h20l:K.lookup a20=some ⟨oc20,od20,.func (W.fnOf "__init__" "Reader.__init__" (az kz) (ay kz) (ag kz) (.ref dV20) kV20 dc20 pm20 an20 cd20 ct20),sl20⟩)
 (h20c:W.codeIn K cd20 "Reader.__init__" = true)
 (h20k:W.keepIn K (.ref a20)=true)
 (h20d:K.lookup dV20=some ⟨ddc20,ddd20,.seq ([.int 0 ud20_0]:List Value).toArray ddn20,dsl20⟩)
 (wZ:W.nsIn K mainGlobals "GoingReader" = some (some (.ref ccGoingReader)))
 (qh:W.plainGet K ccGoingReader Str.empty=true)
 (qL:W.hasDictIn K ccGoingReader=true)
 (qz:W.plainOver K ccGoingReader=true)
 (pV:W.findIn K (.ref ccGoingReader) "__setattr__" = some (some (.builtin "object.__setattr__")))
 (wt:W.makesIn K ccGoingReader=true)
 (wI:W.keepIn K (.ref ccGoingReader)=true)
 (vK:W.findIn K (.ref ccGoingReader) "__class__" = some (some (.builtin "object.__class__")))
 (vz:W.specialIn K (.builtin "object.__class__") "__get__" = some (some (.builtin "getset_descriptor.__get__")))
 (vh:W.takesIn K (.builtin "object.__class__")=some true)
 (cw_GoingReader:W.mroIn K ccGoingReader (.type "object")=some true)
 (wd:W.findIn K (.ref ccGoingReader) "at_page" = some none)
 (wc:W.findIn K (.ref ccGoingReader) "begun" = some none)
 (wb:W.findIn K (.ref ccGoingReader) "ended" = some none)
 (wa:W.findIn K (.ref ccGoingReader) "many" = some none)
 (vZ:W.findIn K (.ref ccGoingReader) "met" = some none)
 (vY:W.findIn K (.ref ccGoingReader) "place" = some none)
 (vX:W.findIn K (.ref ccGoingReader) "tongue" = some none)
 (vW:W.findIn K (.ref ccGoingReader) "way" = some none)
 (h21a:W.findIn K (.ref ccGoingReader) "__init__" = some (some (.ref a21)))
 (h21f:W.isFn K (.ref a21)=true)
 (h21l:K.lookup a21=some ⟨oc21,od21,.func (W.fnOf "__init__" "GoingReader.__init__" (az kQ) (ay kQ) (ag kQ) (.ref dV21) kV21 dc21 pm21 an21 cd21 ct21),sl21⟩)
 (h21c:W.codeIn K cd21 "GoingReader.__init__" = true)
 (h21k:W.keepIn K (.ref a21)=true)
 (h21d:K.lookup dV21=some ⟨ddc21,ddd21,.seq ([.int 0 ud21_0]:List Value).toArray ddn21,dsl21⟩)
 (h22a:W.findIn K (.ref ccGoingReader) "meet" = some (some (.ref a22)))
 (h22f:W.isFn K (.ref a22)=true)
 (h22l:K.lookup a22=some ⟨oc22,od22,.func (W.fnOf "meet" "GoingReader.meet" (az kP) (ay kP) (ag kP) .none kV22 dc22 pm22 an22 cd22 ct22),sl22⟩)
 (h22c:W.codeIn K cd22 "GoingReader.meet" = true)
 (h22k:W.keepIn K (.ref a22)=true)
 (h23a:W.findIn K (.ref ccGoingReader) "faults" = some (some (.ref a23)))
 (h23f:W.isFn K (.ref a23)=true)
 (h23l:K.lookup a23=some ⟨oc23,od23,.func (W.fnOf "faults" "Reader.faults" (az kB) (ay kB) (ag kB) .none kV23 dc23 pm23 an23 cd23 ct23),sl23⟩)
 (h23c:W.codeIn K cd23 "Reader.faults" = true)
 (h23k:W.keepIn K (.ref a23)=true)
 (h24a:W.findIn K (.ref ccGoingReader) "feed" = some (some (.ref a24)))
 (h24f:W.isFn K (.ref a24)=true)
 (h24l:K.lookup a24=some ⟨oc24,od24,.func (W.fnOf "feed" "Reader.feed" (az kA) (ay kA) (ag kA) .none kV24 dc24 pm24 an24 cd24 ct24),sl24⟩)
 (h24c:W.codeIn K cd24 "Reader.feed" = true)
 (h24k:W.keepIn K (.ref a24)=true)
 (h25a:W.findIn K (.ref ccGoingReader) "end" = some (some (.ref a25)))
 (h25f:W.isFn K (.ref a25)=true)
 (h25l:K.lookup a25=some ⟨oc25,od25,.func (W.fnOf "end" "Reader.end" (az kD) (ay kD) (ag kD) .none kV25 dc25 pm25 an25 cd25 ct25),sl25⟩)
 (h25c:W.codeIn K cd25 "Reader.end" = true)
 (h25k:W.keepIn K (.ref a25)=true)
 (h26a:W.findIn K (.ref ccGoingReader) "take" = some (some (.ref a26)))
 (h26f:W.isFn K (.ref a26)=true)
 (h26l:K.lookup a26=some ⟨oc26,od26,.func (W.fnOf "take" "Reader.take" (az kt) (ay kt) (ag kt) .none kV26 dc26 pm26 an26 cd26 ct26),sl26⟩)
 (h26c:W.codeIn K cd26 "Reader.take" = true)
 (h26k:W.keepIn K (.ref a26)=true)
 (h27a:W.findIn K (.ref ccGoingReader) "look_at_begun" = some (some (.ref a27)))
 (h27f:W.isFn K (.ref a27)=true)
 (h27l:K.lookup a27=some ⟨oc27,od27,.func (W.fnOf "look_at_begun" "Reader.look_at_begun" (az ky) (ay ky) (ag ky) .none kV27 dc27 pm27 an27 cd27 ct27),sl27⟩)
 (h27c:W.codeIn K cd27 "Reader.look_at_begun" = true)
 (h27k:W.keepIn K (.ref a27)=true)
 (h28a:W.findIn K (.ref ccGoingReader) "meet_none" = some (some (.ref a28)))
 (h28f:W.isFn K (.ref a28)=true)
 (h28l:K.lookup a28=some ⟨oc28,od28,.func (W.fnOf "meet_none" "Reader.meet_none" (az kx) (ay kx) (ag kx) .none kV28 dc28 pm28 an28 cd28 ct28),sl28⟩)
 (h28c:W.codeIn K cd28 "Reader.meet_none" = true)
 (h28k:W.keepIn K (.ref a28)=true)
 (h29a:W.findIn K (.ref ccGoingReader) "note" = some (some (.ref a29)))
 (h29f:W.isFn K (.ref a29)=true)
 (h29l:K.lookup a29=some ⟨oc29,od29,.func (W.fnOf "note" "Reader.note" (az ku) (ay ku) (ag ku) .none kV29 dc29 pm29 an29 cd29 ct29),sl29⟩)
 (h29c:W.codeIn K cd29 "Reader.note" = true)
 (h29k:W.keepIn K (.ref a29)=true)
 (h30a:W.nsIn K mainGlobals "check_room" = some (some (.ref a30)))
 (h30l:K.lookup a30=some ⟨oc30,od30,.func (W.fnOf "check_room" "check_room" (az jX) (ay jX) (ag jX) .none kV30 dc30 pm30 an30 cd30 ct30),sl30⟩)
 (h30c:W.codeIn K cd30 "check_room" = true)
 (h30k:W.keepIn K (.ref a30)=true)
 (h31a:W.nsIn K mainGlobals "parted" = some (some (.ref a31)))
 (h31l:K.lookup a31=some ⟨oc31,od31,.func (W.fnOf "parted" "parted" (az jJ) (ay jJ) (ag jJ) .none kV31 dc31 pm31 an31 cd31 ct31),sl31⟩)
 (h31c:W.codeIn K cd31 "parted" = true)
 (h31k:W.keepIn K (.ref a31)=true)
 (h32a:W.nsIn K mainGlobals "together" = some (some (.ref a32)))
 (h32l:K.lookup a32=some ⟨oc32,od32,.func (W.fnOf "together" "together" (az jG) (ay jG) (ag jG) .none kV32 dc32 pm32 an32 cd32 ct32),sl32⟩)
 (h32c:W.codeIn K cd32 "together" = true)
 (h32k:W.keepIn K (.ref a32)=true)
 (wO:W.nsIn K mainGlobals "Tongue" = some (some (.ref ccTongue)))
 (pW:W.plainGet K ccTongue Str.empty=true)
 (qA:W.hasDictIn K ccTongue=true)
 (qm:W.plainOver K ccTongue=true)
 (pL:W.findIn K (.ref ccTongue) "__setattr__" = some (some (.builtin "object.__setattr__")))
 (we:W.makesIn K ccTongue=true)
 (wx:W.keepIn K (.ref ccTongue)=true)
 (wJ:W.findIn K (.ref ccTongue) "__init__" = some (some (.builtin "object.__init__")))
 (vA:W.findIn K (.ref ccTongue) "__class__" = some (some (.builtin "object.__class__")))
 (vi:W.specialIn K (.builtin "object.__class__") "__get__" = some (some (.builtin "getset_descriptor.__get__")))
 (uV:W.takesIn K (.builtin "object.__class__")=some true)
 (cw_Tongue:W.mroIn K ccTongue (.type "object")=some true)
 (h33a:W.findIn K (.ref ccTongue) "unit" = some (some (.ref a33)))
 (h33f:W.isFn K (.ref a33)=true)
 (h33l:K.lookup a33=some ⟨oc33,od33,.func (W.fnOf "unit" "Tongue.unit" (az j4) (ay j4) (ag j4) .none kV33 dc33 pm33 an33 cd33 ct33),sl33⟩)
 (h33c:W.codeIn K cd33 "Tongue.unit" = true)
 (h33k:W.keepIn K (.ref a33)=true)
 (h34a:W.findIn K (.ref ccTongue) "spell" = some (some (.ref a34)))
 (h34f:W.isFn K (.ref a34)=true)
 (h34l:K.lookup a34=some ⟨oc34,od34,.func (W.fnOf "spell" "Tongue.spell" (az j5) (ay j5) (ag j5) (.ref dV34) kV34 dc34 pm34 an34 cd34 ct34),sl34⟩)
 (h34c:W.codeIn K cd34 "Tongue.spell" = true)
 (h34k:W.keepIn K (.ref a34)=true)
 (h34d:K.lookup dV34=some ⟨ddc34,ddd34,.seq ([.int 0 ud34_0]:List Value).toArray ddn34,dsl34⟩)
 (h35a:W.findIn K (.ref ccTongue) "whole" = some (some (.ref a35)))
 (h35f:W.isFn K (.ref a35)=true)
 (h35l:K.lookup a35=some ⟨oc35,od35,.func (W.fnOf "whole" "Tongue.whole" (az j3) (ay j3) (ag j3) (.ref dV35) kV35 dc35 pm35 an35 cd35 ct35),sl35⟩)
 (h35c:W.codeIn K cd35 "Tongue.whole" = true)
 (h35k:W.keepIn K (.ref a35)=true)
 (h35d:K.lookup dV35=some ⟨ddc35,ddd35,.seq ([.int 0 ud35_0]:List Value).toArray ddn35,dsl35⟩)
 (h36a:W.findIn K (.ref ccTongue) "fill" = some (some (.ref a36)))
 (h36f:W.isFn K (.ref a36)=true)
 (h36l:K.lookup a36=some ⟨oc36,od36,.func (W.fnOf "fill" "Tongue.fill" (az j7) (ay j7) (ag j7) (.ref dV36) kV36 dc36 pm36 an36 cd36 ct36),sl36⟩)
 (h36c:W.codeIn K cd36 "Tongue.fill" = true)
 (h36k:W.keepIn K (.ref a36)=true)
 (h36d:K.lookup dV36=some ⟨ddc36,ddd36,.seq ([.int 0 ud36_0]:List Value).toArray ddn36,dsl36⟩)
 (h37a:W.findIn K (.ref ccTongue) "look" = some (some (.ref a37)))
 (h37f:W.isFn K (.ref a37)=true)
 (h37l:K.lookup a37=some ⟨oc37,od37,.func (W.fnOf "look" "Tongue.look" (az j6) (ay j6) (ag j6) (.ref dV37) kV37 dc37 pm37 an37 cd37 ct37),sl37⟩)
 (h37c:W.codeIn K cd37 "Tongue.look" = true)
 (h37k:W.keepIn K (.ref a37)=true)
 (h37d:K.lookup dV37=some ⟨ddc37,ddd37,.seq ([.int 0 ud37_0]:List Value).toArray ddn37,dsl37⟩)
 (h38a:W.nsIn K mainGlobals "length_of" = some (some (.ref a38)))
 (h38l:K.lookup a38=some ⟨oc38,od38,.func (W.fnOf "length_of" "length_of" (az jL) (ay jL) (ag jL) .none kV38 dc38 pm38 an38 cd38 ct38),sl38⟩)
 (h38c:W.codeIn K cd38 "length_of" = true)
 (h38k:W.keepIn K (.ref a38)=true)
 (h39a:W.nsIn K mainGlobals "lead_row" = some (some (.ref a39)))
 (h39l:K.lookup a39=some ⟨oc39,od39,.func (W.fnOf "lead_row" "lead_row" (az iI) (ay iI) (ag iI) .none kV39 dc39 pm39 an39 cd39 ct39),sl39⟩)
 (h39c:W.codeIn K cd39 "lead_row" = true)
 (h39k:W.keepIn K (.ref a39)=true)
 (h40a:W.nsIn K mainGlobals "length_behind" = some (some (.ref a40)))
 (h40l:K.lookup a40=some ⟨oc40,od40,.func (W.fnOf "length_behind" "length_behind" (az jM) (ay jM) (ag jM) .none kV40 dc40 pm40 an40 cd40 ct40),sl40⟩)
 (h40c:W.codeIn K cd40 "length_behind" = true)
 (h40k:W.keepIn K (.ref a40)=true)
 (h41a:W.nsIn K mainGlobals "bounds_behind" = some (some (.ref a41)))
 (h41l:K.lookup a41=some ⟨oc41,od41,.func (W.fnOf "bounds_behind" "bounds_behind" (az jY) (ay jY) (ag jY) .none kV41 dc41 pm41 an41 cd41 ct41),sl41⟩)
 (h41c:W.codeIn K cd41 "bounds_behind" = true)
 (h41k:W.keepIn K (.ref a41)=true)
 (h42a:W.nsIn K mainGlobals "fits_behind" = some (some (.ref a42)))
 (h42l:K.lookup a42=some ⟨oc42,od42,.func (W.fnOf "fits_behind" "fits_behind" (az jU) (ay jU) (ag jU) .none kV42 dc42 pm42 an42 cd42 ct42),sl42⟩)
 (h42c:W.codeIn K cd42 "fits_behind" = true)
 (h42k:W.keepIn K (.ref a42)=true)
 (h43a:W.nsIn K mainGlobals "missing" = some (some (.ref a43)))
 (h43l:K.lookup a43=some ⟨oc43,od43,.func (W.fnOf "missing" "missing" (az jK) (ay jK) (ag jK) .none kV43 dc43 pm43 an43 cd43 ct43),sl43⟩)
 (h43c:W.codeIn K cd43 "missing" = true)
 (h43k:W.keepIn K (.ref a43)=true)
 (h44a:W.nsIn K mainGlobals "carried" = some (some (.ref a44)))
 (h44l:K.lookup a44=some ⟨oc44,od44,.func (W.fnOf "carried" "carried" (az iL) (ay iL) (ag iL) .none kV44 dc44 pm44 an44 cd44 ct44),sl44⟩)
 (h44c:W.codeIn K cd44 "carried" = true)
 (h44k:W.keepIn K (.ref a44)=true)
 (wY:W.nsIn K mainGlobals "LeadTongue" = some (some (.ref ccLeadTongue)))
 (qg:W.plainGet K ccLeadTongue Str.empty=true)
 (qK:W.hasDictIn K ccLeadTongue=true)
 (qy:W.plainOver K ccLeadTongue=true)
 (pU:W.findIn K (.ref ccLeadTongue) "__setattr__" = some (some (.builtin "object.__setattr__")))
 (wr:W.makesIn K ccLeadTongue=true)
 (wH:W.keepIn K (.ref ccLeadTongue)=true)
 (wM:W.findIn K (.ref ccLeadTongue) "__init__" = some (some (.builtin "object.__init__")))
 (vJ:W.findIn K (.ref ccLeadTongue) "__class__" = some (some (.builtin "object.__class__")))
 (vy:W.specialIn K (.builtin "object.__class__") "__get__" = some (some (.builtin "getset_descriptor.__get__")))
 (vg:W.takesIn K (.builtin "object.__class__")=some true)
 (cw_LeadTongue:W.mroIn K ccLeadTongue (.type "object")=some true)
 (h45a:W.findIn K (.ref ccLeadTongue) "spell" = some (some (.ref a45)))
 (h45f:W.isFn K (.ref a45)=true)
 (h45l:K.lookup a45=some ⟨oc45,od45,.func (W.fnOf "spell" "LeadTongue.spell" (az kO) (ay kO) (ag kO) (.ref dV45) kV45 dc45 pm45 an45 cd45 ct45),sl45⟩)
 (h45c:W.codeIn K cd45 "LeadTongue.spell" = true)
 (h45k:W.keepIn K (.ref a45)=true)
 (h45d:K.lookup dV45=some ⟨ddc45,ddd45,.seq ([.int 0 ud45_0]:List Value).toArray ddn45,dsl45⟩)
 (h46a:W.findIn K (.ref ccLeadTongue) "whole" = some (some (.ref a46)))
 (h46f:W.isFn K (.ref a46)=true)
 (h46l:K.lookup a46=some ⟨oc46,od46,.func (W.fnOf "whole" "LeadTongue.whole" (az kN) (ay kN) (ag kN) (.ref dV46) kV46 dc46 pm46 an46 cd46 ct46),sl46⟩)
 (h46c:W.codeIn K cd46 "LeadTongue.whole" = true)
 (h46k:W.keepIn K (.ref a46)=true)
 (h46d:K.lookup dV46=some ⟨ddc46,ddd46,.seq ([.int 0 ud46_0]:List Value).toArray ddn46,dsl46⟩)
 (h47a:W.findIn K (.ref ccLeadTongue) "fill" = some (some (.ref a47)))
 (h47f:W.isFn K (.ref a47)=true)
 (h47l:K.lookup a47=some ⟨oc47,od47,.func (W.fnOf "fill" "LeadTongue.fill" (az iO) (ay iO) (ag iO) (.ref dV47) kV47 dc47 pm47 an47 cd47 ct47),sl47⟩)
 (h47c:W.codeIn K cd47 "LeadTongue.fill" = true)
 (h47k:W.keepIn K (.ref a47)=true)
 (h47d:K.lookup dV47=some ⟨ddc47,ddd47,.seq ([.int 0 ud47_0]:List Value).toArray ddn47,dsl47⟩)
 (h48a:W.nsIn K mainGlobals "units_of" = some (some (.ref a48)))
 (h48l:K.lookup a48=some ⟨oc48,od48,.func (W.fnOf "units_of" "units_of" (az jF) (ay jF) (ag jF) .none kV48 dc48 pm48 an48 cd48 ct48),sl48⟩)
 (h48c:W.codeIn K cd48 "units_of" = true)
 (h48k:W.keepIn K (.ref a48)=true)
 (h49a:W.nsIn K mainGlobals "sign_of" = some (some (.ref a49)))
 (h49l:K.lookup a49=some ⟨oc49,od49,.func (W.fnOf "sign_of" "sign_of" (az jH) (ay jH) (ag jH) .none kV49 dc49 pm49 an49 cd49 ct49),sl49⟩)
 (h49c:W.codeIn K cd49 "sign_of" = true)
 (h49k:W.keepIn K (.ref a49)=true)
 (wW:W.nsIn K mainGlobals "PairTongue" = some (some (.ref ccPairTongue)))
 (qe:W.plainGet K ccPairTongue Str.empty=true)
 (qI:W.hasDictIn K ccPairTongue=true)
 (qw:W.plainOver K ccPairTongue=true)
 (pS:W.findIn K (.ref ccPairTongue) "__setattr__" = some (some (.builtin "object.__setattr__")))
 (wn:W.makesIn K ccPairTongue=true)
 (wF:W.keepIn K (.ref ccPairTongue)=true)
 (vH:W.findIn K (.ref ccPairTongue) "__class__" = some (some (.builtin "object.__class__")))
 (vw:W.specialIn K (.builtin "object.__class__") "__get__" = some (some (.builtin "getset_descriptor.__get__")))
 (ve:W.takesIn K (.builtin "object.__class__")=some true)
 (cw_PairTongue:W.mroIn K ccPairTongue (.type "object")=some true)
 (vV:W.findIn K (.ref ccPairTongue) "order" = some none)
 (h50a:W.findIn K (.ref ccPairTongue) "__init__" = some (some (.ref a50)))
 (h50f:W.isFn K (.ref a50)=true)
 (h50l:K.lookup a50=some ⟨oc50,od50,.func (W.fnOf "__init__" "PairTongue.__init__" (az kL) (ay kL) (ag kL) (.ref dV50) kV50 dc50 pm50 an50 cd50 ct50),sl50⟩)
 (h50c:W.codeIn K cd50 "PairTongue.__init__" = true)
 (h50k:W.keepIn K (.ref a50)=true)
 (h50d:K.lookup dV50=some ⟨ddc50,ddd50,.seq ([.str "high" ud50_0]:List Value).toArray ddn50,dsl50⟩)
 (h51a:W.findIn K (.ref ccPairTongue) "unit" = some (some (.ref a51)))
 (h51f:W.isFn K (.ref a51)=true)
 (h51l:K.lookup a51=some ⟨oc51,od51,.func (W.fnOf "unit" "PairTongue.unit" (az kH) (ay kH) (ag kH) .none kV51 dc51 pm51 an51 cd51 ct51),sl51⟩)
 (h51c:W.codeIn K cd51 "PairTongue.unit" = true)
 (h51k:W.keepIn K (.ref a51)=true)
 (h52a:W.findIn K (.ref ccPairTongue) "turned" = some (some (.ref a52)))
 (h52f:W.isFn K (.ref a52)=true)
 (h52l:K.lookup a52=some ⟨oc52,od52,.func (W.fnOf "turned" "PairTongue.turned" (az kI) (ay kI) (ag kI) .none kV52 dc52 pm52 an52 cd52 ct52),sl52⟩)
 (h52c:W.codeIn K cd52 "PairTongue.turned" = true)
 (h52k:W.keepIn K (.ref a52)=true)
 (h53a:W.findIn K (.ref ccPairTongue) "row_of" = some (some (.ref a53)))
 (h53f:W.isFn K (.ref a53)=true)
 (h53l:K.lookup a53=some ⟨oc53,od53,.func (W.fnOf "row_of" "PairTongue.row_of" (az kK) (ay kK) (ag kK) .none kV53 dc53 pm53 an53 cd53 ct53),sl53⟩)
 (h53c:W.codeIn K cd53 "PairTongue.row_of" = true)
 (h53k:W.keepIn K (.ref a53)=true)
 (h54a:W.findIn K (.ref ccPairTongue) "units_in" = some (some (.ref a54)))
 (h54f:W.isFn K (.ref a54)=true)
 (h54l:K.lookup a54=some ⟨oc54,od54,.func (W.fnOf "units_in" "PairTongue.units_in" (az iN) (ay iN) (ag iN) .none kV54 dc54 pm54 an54 cd54 ct54),sl54⟩)
 (h54c:W.codeIn K cd54 "PairTongue.units_in" = true)
 (h54k:W.keepIn K (.ref a54)=true)
 (h55a:W.findIn K (.ref ccPairTongue) "spell" = some (some (.ref a55)))
 (h55f:W.isFn K (.ref a55)=true)
 (h55l:K.lookup a55=some ⟨oc55,od55,.func (W.fnOf "spell" "PairTongue.spell" (az kJ) (ay kJ) (ag kJ) (.ref dV55) kV55 dc55 pm55 an55 cd55 ct55),sl55⟩)
 (h55c:W.codeIn K cd55 "PairTongue.spell" = true)
 (h55k:W.keepIn K (.ref a55)=true)
 (h55d:K.lookup dV55=some ⟨ddc55,ddd55,.seq ([.int 0 ud55_0]:List Value).toArray ddn55,dsl55⟩)
 (h56a:W.findIn K (.ref ccPairTongue) "whole" = some (some (.ref a56)))
 (h56f:W.isFn K (.ref a56)=true)
 (h56l:K.lookup a56=some ⟨oc56,od56,.func (W.fnOf "whole" "PairTongue.whole" (az kG) (ay kG) (ag kG) (.ref dV56) kV56 dc56 pm56 an56 cd56 ct56),sl56⟩)
 (h56c:W.codeIn K cd56 "PairTongue.whole" = true)
 (h56k:W.keepIn K (.ref a56)=true)
 (h56d:K.lookup dV56=some ⟨ddc56,ddd56,.seq ([.int 0 ud56_0]:List Value).toArray ddn56,dsl56⟩)
 (h57a:W.findIn K (.ref ccPairTongue) "fill" = some (some (.ref a57)))
 (h57f:W.isFn K (.ref a57)=true)
 (h57l:K.lookup a57=some ⟨oc57,od57,.func (W.fnOf "fill" "PairTongue.fill" (az kM) (ay kM) (ag kM) (.ref dV57) kV57 dc57 pm57 an57 cd57 ct57),sl57⟩)
 (h57c:W.codeIn K cd57 "PairTongue.fill" = true)
 (h57k:W.keepIn K (.ref a57)=true)
 (h57d:K.lookup dV57=some ⟨ddc57,ddd57,.seq ([.int 0 ud57_0]:List Value).toArray ddn57,dsl57⟩)
 (h58a:W.nsIn K mainGlobals "begins" = some (some (.ref a58)))
 (h58l:K.lookup a58=some ⟨oc58,od58,.func (W.fnOf "begins" "begins" (az jZ) (ay jZ) (ag jZ) .none kV58 dc58 pm58 an58 cd58 ct58),sl58⟩)
 (h58c:W.codeIn K cd58 "begins" = true)
 (h58k:W.keepIn K (.ref a58)=true)
 (h59a:W.nsIn K mainGlobals "places_in" = some (some (.ref a59)))
 (h59l:K.lookup a59=some ⟨oc59,od59,.func (W.fnOf "places_in" "places_in" (az jI) (ay jI) (ag jI) .none kV59 dc59 pm59 an59 cd59 ct59),sl59⟩)
 (h59c:W.codeIn K cd59 "places_in" = true)
 (h59k:W.keepIn K (.ref a59)=true)
 (wQ:W.nsIn K mainGlobals "ShiftTongue" = some (some (.ref ccShiftTongue)))
 (pY:W.plainGet K ccShiftTongue Str.empty=true)
 (qC:W.hasDictIn K ccShiftTongue=true)
 (qp:W.plainOver K ccShiftTongue=true)
 (pN:W.findIn K (.ref ccShiftTongue) "__setattr__" = some (some (.builtin "object.__setattr__")))
 (wg:W.makesIn K ccShiftTongue=true)
 (wA:W.keepIn K (.ref ccShiftTongue)=true)
 (vC:W.findIn K (.ref ccShiftTongue) "__class__" = some (some (.builtin "object.__class__")))
 (vk:W.specialIn K (.builtin "object.__class__") "__get__" = some (some (.builtin "getset_descriptor.__get__")))
 (uX:W.takesIn K (.builtin "object.__class__")=some true)
 (cw_ShiftTongue:W.mroIn K ccShiftTongue (.type "object")=some true)
 (vQ:W.findIn K (.ref ccShiftTongue) "lists" = some none)
 (vP:W.findIn K (.ref ccShiftTongue) "places" = some none)
 (vO:W.findIn K (.ref ccShiftTongue) "shifted" = some none)
 (h60a:W.findIn K (.ref ccShiftTongue) "__init__" = some (some (.ref a60)))
 (h60f:W.isFn K (.ref a60)=true)
 (h60l:K.lookup a60=some ⟨oc60,od60,.func (W.fnOf "__init__" "ShiftTongue.__init__" (az kj) (ay kj) (ag kj) .none kV60 dc60 pm60 an60 cd60 ct60),sl60⟩)
 (h60c:W.codeIn K cd60 "ShiftTongue.__init__" = true)
 (h60k:W.keepIn K (.ref a60)=true)
 (h61a:W.findIn K (.ref ccShiftTongue) "row_beyond" = some (some (.ref a61)))
 (h61f:W.isFn K (.ref a61)=true)
 (h61l:K.lookup a61=some ⟨oc61,od61,.func (W.fnOf "row_beyond" "ShiftTongue.row_beyond" (az ki) (ay ki) (ag ki) .none kV61 dc61 pm61 an61 cd61 ct61),sl61⟩)
 (h61c:W.codeIn K cd61 "ShiftTongue.row_beyond" = true)
 (h61k:W.keepIn K (.ref a61)=true)
 (h62a:W.findIn K (.ref ccShiftTongue) "spell" = some (some (.ref a62)))
 (h62f:W.isFn K (.ref a62)=true)
 (h62l:K.lookup a62=some ⟨oc62,od62,.func (W.fnOf "spell" "ShiftTongue.spell" (az kg) (ay kg) (ag kg) (.ref dV62) kV62 dc62 pm62 an62 cd62 ct62),sl62⟩)
 (h62c:W.codeIn K cd62 "ShiftTongue.spell" = true)
 (h62k:W.keepIn K (.ref a62)=true)
 (h62d:K.lookup dV62=some ⟨ddc62,ddd62,.seq ([.int 0 ud62_0]:List Value).toArray ddn62,dsl62⟩)
 (h63a:W.findIn K (.ref ccShiftTongue) "sign_of" = some (some (.ref a63)))
 (h63f:W.isFn K (.ref a63)=true)
 (h63l:K.lookup a63=some ⟨oc63,od63,.func (W.fnOf "sign_of" "ShiftTongue.sign_of" (az kh) (ay kh) (ag kh) .none kV63 dc63 pm63 an63 cd63 ct63),sl63⟩)
 (h63c:W.codeIn K cd63 "ShiftTongue.sign_of" = true)
 (h63k:W.keepIn K (.ref a63)=true)
 (h64a:W.findIn K (.ref ccShiftTongue) "whole" = some (some (.ref a64)))
 (h64f:W.isFn K (.ref a64)=true)
 (h64l:K.lookup a64=some ⟨oc64,od64,.func (W.fnOf "whole" "ShiftTongue.whole" (az kf) (ay kf) (ag kf) (.ref dV64) kV64 dc64 pm64 an64 cd64 ct64),sl64⟩)
 (h64c:W.codeIn K cd64 "ShiftTongue.whole" = true)
 (h64k:W.keepIn K (.ref a64)=true)
 (h64d:K.lookup dV64=some ⟨ddc64,ddd64,.seq ([.int 0 ud64_0]:List Value).toArray ddn64,dsl64⟩)
 (h65a:W.findIn K (.ref ccShiftTongue) "fill" = some (some (.ref a65)))
 (h65f:W.isFn K (.ref a65)=true)
 (h65l:K.lookup a65=some ⟨oc65,od65,.func (W.fnOf "fill" "ShiftTongue.fill" (az kl) (ay kl) (ag kl) (.ref dV65) kV65 dc65 pm65 an65 cd65 ct65),sl65⟩)
 (h65c:W.codeIn K cd65 "ShiftTongue.fill" = true)
 (h65k:W.keepIn K (.ref a65)=true)
 (h65d:K.lookup dV65=some ⟨ddc65,ddd65,.seq ([.int 0 ud65_0]:List Value).toArray ddn65,dsl65⟩)
 (h66a:W.nsIn K mainGlobals "is_entry" = some (some (.ref a66)))
 (h66l:K.lookup a66=some ⟨oc66,od66,.func (W.fnOf "is_entry" "is_entry" (az jS) (ay jS) (ag jS) .none kV66 dc66 pm66 an66 cd66 ct66),sl66⟩)
 (h66c:W.codeIn K cd66 "is_entry" = true)
 (h66k:W.keepIn K (.ref a66)=true)
 (h67a:W.nsIn K mainGlobals "collide" = some (some (.ref a67)))
 (h67l:K.lookup a67=some ⟨oc67,od67,.func (W.fnOf "collide" "collide" (az jV) (ay jV) (ag jV) .none kV67 dc67 pm67 an67 cd67 ct67),sl67⟩)
 (h67c:W.codeIn K cd67 "collide" = true)
 (h67k:W.keepIn K (.ref a67)=true)
 (h68a:W.nsIn K mainGlobals "check_table" = some (some (.ref a68)))
 (h68l:K.lookup a68=some ⟨oc68,od68,.func (W.fnOf "check_table" "check_table" (az jW) (ay jW) (ag jW) .none kV68 dc68 pm68 an68 cd68 ct68),sl68⟩)
 (h68c:W.codeIn K cd68 "check_table" = true)
 (h68k:W.keepIn K (.ref a68)=true)
 (wP:W.nsIn K mainGlobals "TableTongue" = some (some (.ref ccTableTongue)))
 (pX:W.plainGet K ccTableTongue Str.empty=true)
 (qB:W.hasDictIn K ccTableTongue=true)
 (qo:W.plainOver K ccTableTongue=true)
 (pM:W.findIn K (.ref ccTableTongue) "__setattr__" = some (some (.builtin "object.__setattr__")))
 (wf:W.makesIn K ccTableTongue=true)
 (wz:W.keepIn K (.ref ccTableTongue)=true)
 (vB:W.findIn K (.ref ccTableTongue) "__class__" = some (some (.builtin "object.__class__")))
 (vj:W.specialIn K (.builtin "object.__class__") "__get__" = some (some (.builtin "getset_descriptor.__get__")))
 (uW:W.takesIn K (.builtin "object.__class__")=some true)
 (cw_TableTongue:W.mroIn K ccTableTongue (.type "object")=some true)
 (vN:W.findIn K (.ref ccTableTongue) "rest_by_row" = some none)
 (vM:W.findIn K (.ref ccTableTongue) "row_by_sign" = some none)
 (vL:W.findIn K (.ref ccTableTongue) "sign_by_row" = some none)
 (h69a:W.findIn K (.ref ccTableTongue) "__init__" = some (some (.ref a69)))
 (h69f:W.isFn K (.ref a69)=true)
 (h69l:K.lookup a69=some ⟨oc69,od69,.func (W.fnOf "__init__" "TableTongue.__init__" (az ka) (ay ka) (ag ka) .none kV69 dc69 pm69 an69 cd69 ct69),sl69⟩)
 (h69c:W.codeIn K cd69 "TableTongue.__init__" = true)
 (h69k:W.keepIn K (.ref a69)=true)
 (h70a:W.findIn K (.ref ccTableTongue) "enter" = some (some (.ref a70)))
 (h70f:W.isFn K (.ref a70)=true)
 (h70l:K.lookup a70=some ⟨oc70,od70,.func (W.fnOf "enter" "TableTongue.enter" (az ke) (ay ke) (ag ke) .none kV70 dc70 pm70 an70 cd70 ct70),sl70⟩)
 (h70c:W.codeIn K cd70 "TableTongue.enter" = true)
 (h70k:W.keepIn K (.ref a70)=true)
 (h71a:W.findIn K (.ref ccTableTongue) "spell" = some (some (.ref a71)))
 (h71f:W.isFn K (.ref a71)=true)
 (h71l:K.lookup a71=some ⟨oc71,od71,.func (W.fnOf "spell" "TableTongue.spell" (az j9) (ay j9) (ag j9) (.ref dV71) kV71 dc71 pm71 an71 cd71 ct71),sl71⟩)
 (h71c:W.codeIn K cd71 "TableTongue.spell" = true)
 (h71k:W.keepIn K (.ref a71)=true)
 (h71d:K.lookup dV71=some ⟨ddc71,ddd71,.seq ([.int 0 ud71_0]:List Value).toArray ddn71,dsl71⟩)
 (h72a:W.findIn K (.ref ccTableTongue) "whole" = some (some (.ref a72)))
 (h72f:W.isFn K (.ref a72)=true)
 (h72l:K.lookup a72=some ⟨oc72,od72,.func (W.fnOf "whole" "TableTongue.whole" (az j8) (ay j8) (ag j8) (.ref dV72) kV72 dc72 pm72 an72 cd72 ct72),sl72⟩)
 (h72c:W.codeIn K cd72 "TableTongue.whole" = true)
 (h72k:W.keepIn K (.ref a72)=true)
 (h72d:K.lookup dV72=some ⟨ddc72,ddd72,.seq ([.int 0 ud72_0]:List Value).toArray ddn72,dsl72⟩)
 (h73a:W.findIn K (.ref ccTableTongue) "fill" = some (some (.ref a73)))
 (h73f:W.isFn K (.ref a73)=true)
 (h73l:K.lookup a73=some ⟨oc73,od73,.func (W.fnOf "fill" "TableTongue.fill" (az kc) (ay kc) (ag kc) (.ref dV73) kV73 dc73 pm73 an73 cd73 ct73),sl73⟩)
 (h73c:W.codeIn K cd73 "TableTongue.fill" = true)
 (h73k:W.keepIn K (.ref a73)=true)
 (h73d:K.lookup dV73=some ⟨ddc73,ddd73,.seq ([.int 0 ud73_0]:List Value).toArray ddn73,dsl73⟩)
 (h74a:W.nsIn K mainGlobals "_law_drawn" = some (some (.ref a74)))
 (h74l:K.lookup a74=some ⟨oc74,od74,.func (W.fnOf "_law_drawn" "_law_drawn" (az jA) (ay jA) (ag jA) .none kV74 dc74 pm74 an74 cd74 ct74),sl74⟩)
 (h74c:W.codeIn K cd74 "_law_drawn" = true)
 (h74k:W.keepIn K (.ref a74)=true)
 (h75a:W.nsIn K mainGlobals "_law_mixed" = some (some (.ref a75)))
 (h75l:K.lookup a75=some ⟨oc75,od75,.func (W.fnOf "_law_mixed" "_law_mixed" (az jx) (ay jx) (ag jx) .none kV75 dc75 pm75 an75 cd75 ct75),sl75⟩)
 (h75c:W.codeIn K cd75 "_law_mixed" = true)
 (h75k:W.keepIn K (.ref a75)=true)
 (h76a:W.nsIn K mainGlobals "_law_gapped" = some (some (.ref a76)))
 (h76l:K.lookup a76=some ⟨oc76,od76,.func (W.fnOf "_law_gapped" "_law_gapped" (az jz) (ay jz) (ag jz) .none kV76 dc76 pm76 an76 cd76 ct76),sl76⟩)
 (h76c:W.codeIn K cd76 "_law_gapped" = true)
 (h76k:W.keepIn K (.ref a76)=true)
 (h77a:W.nsIn K mainGlobals "_law_as_sign" = some (some (.ref a77)))
 (h77l:K.lookup a77=some ⟨oc77,od77,.func (W.fnOf "_law_as_sign" "_law_as_sign" (az jB) (ay jB) (ag jB) .none kV77 dc77 pm77 an77 cd77 ct77),sl77⟩)
 (h77c:W.codeIn K cd77 "_law_as_sign" = true)
 (h77k:W.keepIn K (.ref a77)=true)
 (h78a:W.nsIn K mainGlobals "_law_lists" = some (some (.ref a78)))
 (h78l:K.lookup a78=some ⟨oc78,od78,.func (W.fnOf "_law_lists" "_law_lists" (az ia) (ay ia) (ag ia) .none kV78 dc78 pm78 an78 cd78 ct78),sl78⟩)
 (h78c:W.codeIn K cd78 "_law_lists" = true)
 (h78k:W.keepIn K (.ref a78)=true)
 (h79a:W.nsIn K mainGlobals "_law_table" = some (some (.ref a79)))
 (h79l:K.lookup a79=some ⟨oc79,od79,.func (W.fnOf "_law_table" "_law_table" (az iH) (ay iH) (ag iH) .none kV79 dc79 pm79 an79 cd79 ct79),sl79⟩)
 (h79c:W.codeIn K cd79 "_law_table" = true)
 (h79k:W.keepIn K (.ref a79)=true)
 (h80a:W.nsIn K mainGlobals "_law_model" = some (some (.ref a80)))
 (h80l:K.lookup a80=some ⟨oc80,od80,.func (W.fnOf "_law_model" "_law_model" (az jw) (ay jw) (ag jw) .none kV80 dc80 pm80 an80 cd80 ct80),sl80⟩)
 (h80c:W.codeIn K cd80 "_law_model" = true)
 (h80k:W.keepIn K (.ref a80)=true)
 (h81a:W.nsIn K mainGlobals "_law_tongue" = some (some (.ref a81)))
 (h81l:K.lookup a81=some ⟨oc81,od81,.func (W.fnOf "_law_tongue" "_law_tongue" (az iG) (ay iG) (ag iG) .none kV81 dc81 pm81 an81 cd81 ct81),sl81⟩)
 (h81c:W.codeIn K cd81 "_law_tongue" = true)
 (h81k:W.keepIn K (.ref a81)=true)
 (h82a:W.nsIn K mainGlobals "_law_lead_row" = some (some (.ref a82)))
 (h82l:K.lookup a82=some ⟨oc82,od82,.func (W.fnOf "_law_lead_row" "_law_lead_row" (az jy) (ay jy) (ag jy) .none kV82 dc82 pm82 an82 cd82 ct82),sl82⟩)
 (h82c:W.codeIn K cd82 "_law_lead_row" = true)
 (h82k:W.keepIn K (.ref a82)=true)
 (h83a:W.nsIn K mainGlobals "_law_pair_row" = some (some (.ref a83)))
 (h83l:K.lookup a83=some ⟨oc83,od83,.func (W.fnOf "_law_pair_row" "_law_pair_row" (az jv) (ay jv) (ag jv) .none kV83 dc83 pm83 an83 cd83 ct83),sl83⟩)
 (h83c:W.codeIn K cd83 "_law_pair_row" = true)
 (h83k:W.keepIn K (.ref a83)=true)
 (h84a:W.nsIn K mainGlobals "_law_spell" = some (some (.ref a84)))
 (h84l:K.lookup a84=some ⟨oc84,od84,.func (W.fnOf "_law_spell" "_law_spell" (az jr) (ay jr) (ag jr) .none kV84 dc84 pm84 an84 cd84 ct84),sl84⟩)
 (h84c:W.codeIn K cd84 "_law_spell" = true)
 (h84k:W.keepIn K (.ref a84)=true)
 (h85a:W.nsIn K mainGlobals "_law_text" = some (some (.ref a85)))
 (h85l:K.lookup a85=some ⟨oc85,od85,.func (W.fnOf "_law_text" "_law_text" (az gM) (ay gM) (ag gM) .none kV85 dc85 pm85 an85 cd85 ct85),sl85⟩)
 (h85c:W.codeIn K cd85 "_law_text" = true)
 (h85k:W.keepIn K (.ref a85)=true)
 (h86a:W.nsIn K mainGlobals "_law_pieces" = some (some (.ref a86)))
 (h86l:K.lookup a86=some ⟨oc86,od86,.func (W.fnOf "_law_pieces" "_law_pieces" (az ju) (ay ju) (ag ju) .none kV86 dc86 pm86 an86 cd86 ct86),sl86⟩)
 (h86c:W.codeIn K cd86 "_law_pieces" = true)
 (h86k:W.keepIn K (.ref a86)=true)
 (h87a:W.nsIn K mainGlobals "_law_row" = some (some (.ref a87)))
 (h87l:K.lookup a87=some ⟨oc87,od87,.func (W.fnOf "_law_row" "_law_row" (az js) (ay js) (ag js) .none kV87 dc87 pm87 an87 cd87 ct87),sl87⟩)
 (h87c:W.codeIn K cd87 "_law_row" = true)
 (h87k:W.keepIn K (.ref a87)=true)
 (h88a:W.nsIn K mainGlobals "_law_read_both" = some (some (.ref a88)))
 (h88l:K.lookup a88=some ⟨oc88,od88,.func (W.fnOf "_law_read_both" "_law_read_both" (az jt) (ay jt) (ag jt) .none kV88 dc88 pm88 an88 cd88 ct88),sl88⟩)
 (h88c:W.codeIn K cd88 "_law_read_both" = true)
 (h88k:W.keepIn K (.ref a88)=true)
 (h89a:W.nsIn K mainGlobals "_law_written" = some (some (.ref a89)))
 (h89l:K.lookup a89=some ⟨oc89,od89,.func (W.fnOf "_law_written" "_law_written" (az jq) (ay jq) (ag jq) .none kV89 dc89 pm89 an89 cd89 ct89),sl89⟩)
 (h89c:W.codeIn K cd89 "_law_written" = true)
 (h89k:W.keepIn K (.ref a89)=true)
 (h90a:W.nsIn K mainGlobals "law" = some (some (.ref a90)))
 (h90l:K.lookup a90=some ⟨oc90,od90,.func (W.fnOf "law" "law" (az gN) (ay gN) (ag gN) .none kV90 dc90 pm90 an90 cd90 ct90),sl90⟩)
 (h90c:W.codeIn K cd90 "law" = true)
 (h90k:W.keepIn K (.ref a90)=true)
 (hi_LeadTongue_unit:W.findIn K (.ref ccLeadTongue) "unit" = some (some (.ref a33)))
 (hi_LeadTongue_look:W.findIn K (.ref ccLeadTongue) "look" = some (some (.ref a37)))
 (hi_PairTongue_look:W.findIn K (.ref ccPairTongue) "look" = some (some (.ref a37)))
 (hi_ShiftTongue_unit:W.findIn K (.ref ccShiftTongue) "unit" = some (some (.ref a33)))
 (hi_ShiftTongue_look:W.findIn K (.ref ccShiftTongue) "look" = some (some (.ref a37)))
 (hi_TableTongue_unit:W.findIn K (.ref ccTableTongue) "unit" = some (some (.ref a33)))
 (hi_TableTongue_look:W.findIn K (.ref ccTableTongue) "look" = some (some (.ref a37)))
 (wN:W.nsIn K mainGlobals "Writer" = some (some (.ref ccWriter)))
 (xc:W.specialIn K (.ref ccWriter) "__getattribute__" = some (some (.builtin "type.__getattribute__")))
 (xg:W.readsIn K ccWriter (.type "type")=true)
 (xj:W.findCls K (.ref ccWriter) (.type "type") "__init__" = some (.val (.ref a12)))
 (wU:W.nsIn K mainGlobals "Reader" = some (some (.ref ccReader)))
 (xf:W.specialIn K (.ref ccReader) "__getattribute__" = some (some (.builtin "type.__getattribute__")))
 (xh:W.readsIn K ccReader (.type "type")=true)
 (xk:W.findCls K (.ref ccReader) (.type "type") "__init__" = some (.val (.ref a20)))
 (k0:W.nsIn K mainGlobals "BITS" = some (some (.int 6 u0)))
 (k1:W.nsIn K mainGlobals "BYTE_BITS" = some (some (.int 8 u1)))
 (k2:W.nsIn K mainGlobals "FILLS" = some (some (.ref ta2)))
 (kl2:K.lookup ta2=some ⟨.type "dict",none,.dict es2 ep2,#[]⟩)
 (kv2:io es2.toList=some [(th2_0,("high" : Str),ta2_0),(th2_1,("low" : Str),ta2_1)])
 (ks2:(ta2 == sysModules)=false)
 (kh2_0:th2_0=hashStr w "high")
 (kh2_1:th2_1=hashStr w "low")
 (kl2_0:K.lookup ta2_0=some ⟨.type "tuple",none,.seq ti2_0 tn2_0,ts2_0⟩)
 (kv2_0:gk ti2_0.toList=some [ta2_0_0,ta2_0_1,ta2_0_2,ta2_0_3,ta2_0_4])
 (kz2_0:Nat.ble ti2_0.size 1000=true)
 (kl2_0_0:K.lookup ta2_0_0=some ⟨.type "tuple",none,.seq ti2_0_0 tn2_0_0,ts2_0_0⟩)
 (kv2_0_0:cI ([]:List Int) ti2_0_0.toList=true)
 (kz2_0_0:Nat.ble ti2_0_0.size 1000=true)
 (kl2_0_1:K.lookup ta2_0_1=some ⟨.type "tuple",none,.seq ti2_0_1 tn2_0_1,ts2_0_1⟩)
 (kv2_0_1:cI ([0]:List Int) ti2_0_1.toList=true)
 (kz2_0_1:Nat.ble ti2_0_1.size 1000=true)
 (kl2_0_2:K.lookup ta2_0_2=some ⟨.type "tuple",none,.seq ti2_0_2 tn2_0_2,ts2_0_2⟩)
 (kv2_0_2:cI ([0,0]:List Int) ti2_0_2.toList=true)
 (kz2_0_2:Nat.ble ti2_0_2.size 1000=true)
 (kl2_0_3:K.lookup ta2_0_3=some ⟨.type "tuple",none,.seq ti2_0_3 tn2_0_3,ts2_0_3⟩)
 (kv2_0_3:cI ([220,0]:List Int) ti2_0_3.toList=true)
 (kz2_0_3:Nat.ble ti2_0_3.size 1000=true)
 (kl2_0_4:K.lookup ta2_0_4=some ⟨.type "tuple",none,.seq ti2_0_4 tn2_0_4,ts2_0_4⟩)
 (kv2_0_4:cI ([0,220,0]:List Int) ti2_0_4.toList=true)
 (kz2_0_4:Nat.ble ti2_0_4.size 1000=true)
 (kl2_1:K.lookup ta2_1=some ⟨.type "tuple",none,.seq ti2_1 tn2_1,ts2_1⟩)
 (kv2_1:gk ti2_1.toList=some [ta2_1_0,ta2_1_1,ta2_1_2,ta2_1_3,ta2_1_4])
 (kz2_1:Nat.ble ti2_1.size 1000=true)
 (kl2_1_0:K.lookup ta2_1_0=some ⟨.type "tuple",none,.seq ti2_1_0 tn2_1_0,ts2_1_0⟩)
 (kv2_1_0:cI ([]:List Int) ti2_1_0.toList=true)
 (kz2_1_0:Nat.ble ti2_1_0.size 1000=true)
 (kl2_1_1:K.lookup ta2_1_1=some ⟨.type "tuple",none,.seq ti2_1_1 tn2_1_1,ts2_1_1⟩)
 (kv2_1_1:cI ([0]:List Int) ti2_1_1.toList=true)
 (kz2_1_1:Nat.ble ti2_1_1.size 1000=true)
 (kl2_1_2:K.lookup ta2_1_2=some ⟨.type "tuple",none,.seq ti2_1_2 tn2_1_2,ts2_1_2⟩)
 (kv2_1_2:cI ([220]:List Int) ti2_1_2.toList=true)
 (kz2_1_2:Nat.ble ti2_1_2.size 1000=true)
 (kl2_1_3:K.lookup ta2_1_3=some ⟨.type "tuple",none,.seq ti2_1_3 tn2_1_3,ts2_1_3⟩)
 (kv2_1_3:cI ([0,0]:List Int) ti2_1_3.toList=true)
 (kz2_1_3:Nat.ble ti2_1_3.size 1000=true)
 (kl2_1_4:K.lookup ta2_1_4=some ⟨.type "tuple",none,.seq ti2_1_4 tn2_1_4,ts2_1_4⟩)
 (kv2_1_4:cI ([0,220]:List Int) ti2_1_4.toList=true)
 (kz2_1_4:Nat.ble ti2_1_4.size 1000=true)
 (k3:W.nsIn K mainGlobals "FIRST_BEHIND" = some (some (.int 128 u3)))
 (k4:W.nsIn K mainGlobals "FIRST_HEAD" = some (some (.int 55296 u4)))
 (k5:W.nsIn K mainGlobals "FIRST_SEEN" = some (some (.int 61184 u5)))
 (k6:W.nsIn K mainGlobals "FIRST_TAIL" = some (some (.int 56320 u6)))
 (k7:W.nsIn K mainGlobals "FIRST_WIDE" = some (some (.int 65536 u7)))
 (k8:W.nsIn K mainGlobals "HALF_BITS" = some (some (.int 10 u8)))
 (k9:W.nsIn K mainGlobals "LAST_BEHIND" = some (some (.int 191 u9)))
 (k10:W.nsIn K mainGlobals "LAST_BYTE" = some (some (.int 255 u10)))
 (k11:W.nsIn K mainGlobals "LAST_SEEN" = some (some (.int 61439 u11)))
 (k12:W.nsIn K mainGlobals "LAST_SIGN" = some (some (.int 1114111 u12)))
 (k13:W.nsIn K mainGlobals "LAST_TAIL" = some (some (.int 57343 u13)))
 (k14:W.nsIn K mainGlobals "LEADS" = some (some (.ref ta14)))
 (kl14:K.lookup ta14=some ⟨.type "tuple",none,.seq ti14 tn14,ts14⟩)
 (kv14:cI ([0,0,192,224,240]:List Int) ti14.toList=true)
 (kz14:Nat.ble ti14.size 1000=true)
 (k15:W.nsIn K mainGlobals "MOST_BYTES" = some (some (.int 6 u15)))
 (k16:W.nsIn K mainGlobals "MOST_SIGNS" = some (some (.int 250 u16)))
 (k17:W.nsIn K mainGlobals "MOST_TUPLES" = some (some (.int 64 u17)))
 (k18:W.nsIn K mainGlobals "SECONDS" = some (some (.ref ta18)))
 (kl18:K.lookup ta18=some ⟨.type "dict",none,.dict es18 ep18,#[]⟩)
 (kv18:hG es18.toList=some [(224,ta18_0),(237,ta18_1),(238,ta18_2),(240,ta18_3),(244,ta18_4)])
 (ks18:(ta18 == sysModules)=false)
 (kl18_0:K.lookup ta18_0=some ⟨.type "tuple",none,.seq ti18_0 tn18_0,ts18_0⟩)
 (kv18_0:cI ([160,191]:List Int) ti18_0.toList=true)
 (kz18_0:Nat.ble ti18_0.size 1000=true)
 (kl18_1:K.lookup ta18_1=some ⟨.type "tuple",none,.seq ti18_1 tn18_1,ts18_1⟩)
 (kv18_1:cI ([128,159]:List Int) ti18_1.toList=true)
 (kz18_1:Nat.ble ti18_1.size 1000=true)
 (kl18_2:K.lookup ta18_2=some ⟨.type "tuple",none,.seq ti18_2 tn18_2,ts18_2⟩)
 (kv18_2:cI ([128,187]:List Int) ti18_2.toList=true)
 (kz18_2:Nat.ble ti18_2.size 1000=true)
 (kl18_3:K.lookup ta18_3=some ⟨.type "tuple",none,.seq ti18_3 tn18_3,ts18_3⟩)
 (kv18_3:cI ([144,191]:List Int) ti18_3.toList=true)
 (kz18_3:Nat.ble ti18_3.size 1000=true)
 (kl18_4:K.lookup ta18_4=some ⟨.type "tuple",none,.seq ti18_4 tn18_4,ts18_4⟩)
 (kv18_4:cI ([128,143]:List Int) ti18_4.toList=true)
 (kz18_4:Nat.ble ti18_4.size 1000=true)
 (k19:W.nsIn K mainGlobals "SHIFTS" = some (some (.ref ta19)))
 (kl19:K.lookup ta19=some ⟨.type "tuple",none,.seq ti19 tn19,ts19⟩)
 (kv19:cI ([254,255]:List Int) ti19.toList=true)
 (kz19:Nat.ble ti19.size 1000=true)
 (z0:W.nsIn K mainGlobals "all" = some none)
 (z1:W.nsIn K mainGlobals "bool" = some none)
 (z2:W.nsIn K mainGlobals "enumerate" = some none)
 (z3:W.nsIn K mainGlobals "int" = some none)
 (z4:W.nsIn K mainGlobals "isinstance" = some none)
 (z5:W.nsIn K mainGlobals "len" = some none)
 (z6:W.nsIn K mainGlobals "list" = some none)
 (z7:W.nsIn K mainGlobals "range" = some none)
 (z8:W.nsIn K mainGlobals "reversed" = some none)
 (z9:W.nsIn K mainGlobals "str" = some none)
 (z10:W.nsIn K mainGlobals "sum" = some none)
 (z11:W.nsIn K mainGlobals "tuple" = some none)
 (z12:W.nsIn K mainGlobals "zip" = some none) : ∃ t,Txt w K mg t:=by
  have F0:=aT (st:=jQ) h0l h0c h0k
  have b0:=F0.binds (ps:=["thing"]) (by intro _ _ _ _ _ _ us hl; revert us; exact bI (λ_=>rfl))
  have F1:=aT (st:=jT) h1l h1c h1k
  have b1:=F1.binds (ps:=["thing"]) (by intro _ _ _ _ _ _ us hl; revert us; exact bI (λ_=>rfl))
  have F2:=aT (st:=jR) h2l h2c h2k
  have b2:=F2.binds (ps:=["number"]) (by intro _ _ _ _ _ _ us hl; revert us; exact bI (λ_=>rfl))
  have F3:=aT (st:=jN) h3l h3c h3k
  have b3:=F3.binds (ps:=["number"]) (by intro _ _ _ _ _ _ us hl; revert us; exact bI (λ_=>rfl))
  have F4:=aT (st:=jP) h4l h4c h4k
  have b4:=F4.binds (ps:=["thing"]) (by intro _ _ _ _ _ _ us hl; revert us; exact bI (λ_=>rfl))
  have F5:=aT (st:=jO) h5l h5c h5k
  have b5:=F5.binds (ps:=["thing"]) (by intro _ _ _ _ _ _ us hl; revert us; exact bI (λ_=>rfl))
  have F6:=aT (st:=iK) h6l h6c h6k
  have b6:=F6.binds (ps:=["thing"]) (by intro _ _ _ _ _ _ us hl; revert us; exact bI (λ_=>rfl))
  have F7:=aT (st:=iJ) h7l h7c h7k
  have b7:=F7.binds (ps:=["thing"]) (by intro _ _ _ _ _ _ us hl; revert us; exact bI (λ_=>rfl))
  have F8:=aT (st:=jD) h8l h8c h8k
  have b8:=F8.binds (ps:=["tongue", "text", "page"]) (by intro _ _ _ _ _ _ us hl; revert us; exact ca (λ_ _ _=>rfl))
  have F9:=aT (st:=jE) h9l h9c h9k
  have b9:=F9.binds (ps:=["tongue", "text"]) (by intro _ _ _ _ _ _ us hl; revert us; exact bn (λ_ _=>rfl))
  have F10:=aT (st:=kr) h10l h10c h10k
  have b10:=F10.binds (ps:=["self", "tongue"]) (by intro _ _ _ _ _ _ us hl; revert us; exact bn (λ_ _=>rfl))
  have F11:=aT (st:=ko) h11l h11c h11k
  have b11:=F11.binds (ps:=["self", "sign", "page"]) (by intro _ _ _ _ _ _ us hl; revert us; exact ca (λ_ _ _=>rfl))
  have F12:=aT (st:=j0) h12l h12c h12k
  have b12:=F12.binds (ps:=["self", "tongue"]) (by intro _ _ _ _ _ _ us hl; revert us; exact bn (λ_ _=>rfl))
  have F13:=aT (st:=km) h13l h13c h13k
  have b13:=F13.binds (ps:=["self", "tongue"]) (by intro _ _ _ _ _ _ us hl; revert us; exact bn (λ_ _=>rfl))
  have F14:=aT (st:=j1) h14l h14c h14k
  have b14:=F14.binds (ps:=["self", "text"]) (by intro _ _ _ _ _ _ us hl; revert us; exact bn (λ_ _=>rfl))
  have F15:=aT (st:=jC) h15l h15c h15k
  have b15:=F15.binds (ps:=["tongue", "text"]) (by intro _ _ _ _ _ _ us hl; revert us; exact bn (λ_ _=>rfl))
  have F16:=aT (st:=j2) h16l h16c h16k
  have b16:=F16.binds (ps:=["self", "row"]) (by intro _ _ _ _ _ _ us hl; revert us; exact bn (λ_ _=>rfl))
  have F17:=da (st:=kF) h17l h17c h17k h17d
  have bd17:=F17.binds (ps:=["self", "sign"]) (ds:=[.int 65533 ud17_0]) (by intro _ _ _ _ _ _ _ us hl; have hm:us.length=1:=(by have:=hl; simp at this; omega); clear hl; revert us; exact bI (λ_=>⟨_,rfl,rfl⟩))
  have b17:=F17.binds (ps:=["self", "sign"]) (ds:=[]) (by intro _ _ _ _ _ _ _ us hl; have hm:us.length=2:=(by have:=hl; simp at this; omega); clear hl; revert us; exact bn (λ_ _=>⟨_,rfl,rfl⟩))
  have F18:=aT (st:=kE) h18l h18c h18k
  have b18:=F18.binds (ps:=["self", "row"]) (by intro _ _ _ _ _ _ us hl; revert us; exact bn (λ_ _=>rfl))
  have F19:=aT (st:=iM) h19l h19c h19k
  have b19:=F19.binds (ps:=["self", "row"]) (by intro _ _ _ _ _ _ us hl; revert us; exact bn (λ_ _=>rfl))
  have F20:=da (st:=kz) h20l h20c h20k h20d
  have bd20:=F20.binds (ps:=["self", "tongue", "place"]) (ds:=[.int 0 ud20_0]) (by intro _ _ _ _ _ _ _ us hl; have hm:us.length=2:=(by have:=hl; simp at this; omega); clear hl; revert us; exact bn (λ_ _=>⟨_,rfl,rfl⟩))
  have b20:=F20.binds (ps:=["self", "tongue", "place"]) (ds:=[]) (by intro _ _ _ _ _ _ _ us hl; have hm:us.length=3:=(by have:=hl; simp at this; omega); clear hl; revert us; exact ca (λ_ _ _=>⟨_,rfl,rfl⟩))
  have F21:=da (st:=kQ) h21l h21c h21k h21d
  have bd21:=F21.binds (ps:=["self", "tongue", "way", "place"]) (ds:=[.int 0 ud21_0]) (by intro _ _ _ _ _ _ _ us hl; have hm:us.length=3:=(by have:=hl; simp at this; omega); clear hl; revert us; exact ca (λ_ _ _=>⟨_,rfl,rfl⟩))
  have b21:=F21.binds (ps:=["self", "tongue", "way", "place"]) (ds:=[]) (by intro _ _ _ _ _ _ _ us hl; have hm:us.length=4:=(by have:=hl; simp at this; omega); clear hl; revert us; exact Lg (λ_ _ _ _=>⟨_,rfl,rfl⟩))
  have F22:=aT (st:=kP) h22l h22c h22k
  have b22:=F22.binds (ps:=["self", "length", "kind"]) (by intro _ _ _ _ _ _ us hl; revert us; exact ca (λ_ _ _=>rfl))
  have F23:=aT (st:=kB) h23l h23c h23k
  have b23:=F23.binds (ps:=["self"]) (by intro _ _ _ _ _ _ us hl; revert us; exact bI (λ_=>rfl))
  have F24:=aT (st:=kA) h24l h24c h24k
  have b24:=F24.binds (ps:=["self", "row"]) (by intro _ _ _ _ _ _ us hl; revert us; exact bn (λ_ _=>rfl))
  have F25:=aT (st:=kD) h25l h25c h25k
  have b25:=F25.binds (ps:=["self"]) (by intro _ _ _ _ _ _ us hl; revert us; exact bI (λ_=>rfl))
  have F26:=aT (st:=kt) h26l h26c h26k
  have b26:=F26.binds (ps:=["self", "byte"]) (by intro _ _ _ _ _ _ us hl; revert us; exact bn (λ_ _=>rfl))
  have F27:=aT (st:=ky) h27l h27c h27k
  have b27:=F27.binds (ps:=["self"]) (by intro _ _ _ _ _ _ us hl; revert us; exact bI (λ_=>rfl))
  have F28:=aT (st:=kx) h28l h28c h28k
  have b28:=F28.binds (ps:=["self"]) (by intro _ _ _ _ _ _ us hl; revert us; exact bI (λ_=>rfl))
  have F29:=aT (st:=ku) h29l h29c h29k
  have b29:=F29.binds (ps:=["self", "length", "kind"]) (by intro _ _ _ _ _ _ us hl; revert us; exact ca (λ_ _ _=>rfl))
  have F30:=aT (st:=jX) h30l h30c h30k
  have b30:=F30.binds (ps:=["number", "bits"]) (by intro _ _ _ _ _ _ us hl; revert us; exact bn (λ_ _=>rfl))
  have F31:=aT (st:=jJ) h31l h31c h31k
  have b31:=F31.binds (ps:=["number", "bits", "many"]) (by intro _ _ _ _ _ _ us hl; revert us; exact ca (λ_ _ _=>rfl))
  have F32:=aT (st:=jG) h32l h32c h32k
  have b32:=F32.binds (ps:=["parts", "bits"]) (by intro _ _ _ _ _ _ us hl; revert us; exact bn (λ_ _=>rfl))
  have F33:=aT (st:=j4) h33l h33c h33k
  have b33:=F33.binds (ps:=["self"]) (by intro _ _ _ _ _ _ us hl; revert us; exact bI (λ_=>rfl))
  have F34:=da (st:=j5) h34l h34c h34k h34d
  have bd34:=F34.binds (ps:=["self", "sign", "page"]) (ds:=[.int 0 ud34_0]) (by intro _ _ _ _ _ _ _ us hl; have hm:us.length=2:=(by have:=hl; simp at this; omega); clear hl; revert us; exact bn (λ_ _=>⟨_,rfl,rfl⟩))
  have b34:=F34.binds (ps:=["self", "sign", "page"]) (ds:=[]) (by intro _ _ _ _ _ _ _ us hl; have hm:us.length=3:=(by have:=hl; simp at this; omega); clear hl; revert us; exact ca (λ_ _ _=>⟨_,rfl,rfl⟩))
  have F35:=da (st:=j3) h35l h35c h35k h35d
  have bd35:=F35.binds (ps:=["self", "row", "page"]) (ds:=[.int 0 ud35_0]) (by intro _ _ _ _ _ _ _ us hl; have hm:us.length=2:=(by have:=hl; simp at this; omega); clear hl; revert us; exact bn (λ_ _=>⟨_,rfl,rfl⟩))
  have b35:=F35.binds (ps:=["self", "row", "page"]) (ds:=[]) (by intro _ _ _ _ _ _ _ us hl; have hm:us.length=3:=(by have:=hl; simp at this; omega); clear hl; revert us; exact ca (λ_ _ _=>⟨_,rfl,rfl⟩))
  have F36:=da (st:=j7) h36l h36c h36k h36d
  have bd36:=F36.binds (ps:=["self", "row", "page"]) (ds:=[.int 0 ud36_0]) (by intro _ _ _ _ _ _ _ us hl; have hm:us.length=2:=(by have:=hl; simp at this; omega); clear hl; revert us; exact bn (λ_ _=>⟨_,rfl,rfl⟩))
  have b36:=F36.binds (ps:=["self", "row", "page"]) (ds:=[]) (by intro _ _ _ _ _ _ _ us hl; have hm:us.length=3:=(by have:=hl; simp at this; omega); clear hl; revert us; exact ca (λ_ _ _=>⟨_,rfl,rfl⟩))
  have F37:=da (st:=j6) h37l h37c h37k h37d
  have bd37:=F37.binds (ps:=["self", "begun", "page"]) (ds:=[.int 0 ud37_0]) (by intro _ _ _ _ _ _ _ us hl; have hm:us.length=2:=(by have:=hl; simp at this; omega); clear hl; revert us; exact bn (λ_ _=>⟨_,rfl,rfl⟩))
  have b37:=F37.binds (ps:=["self", "begun", "page"]) (ds:=[]) (by intro _ _ _ _ _ _ _ us hl; have hm:us.length=3:=(by have:=hl; simp at this; omega); clear hl; revert us; exact ca (λ_ _ _=>⟨_,rfl,rfl⟩))
  have F38:=aT (st:=jL) h38l h38c h38k
  have b38:=F38.binds (ps:=["sign"]) (by intro _ _ _ _ _ _ us hl; revert us; exact bI (λ_=>rfl))
  have F39:=aT (st:=iI) h39l h39c h39k
  have b39:=F39.binds (ps:=["sign"]) (by intro _ _ _ _ _ _ us hl; revert us; exact bI (λ_=>rfl))
  have F40:=aT (st:=jM) h40l h40c h40k
  have b40:=F40.binds (ps:=["first"]) (by intro _ _ _ _ _ _ us hl; revert us; exact bI (λ_=>rfl))
  have F41:=aT (st:=jY) h41l h41c h41k
  have b41:=F41.binds (ps:=["row", "place"]) (by intro _ _ _ _ _ _ us hl; revert us; exact bn (λ_ _=>rfl))
  have F42:=aT (st:=jU) h42l h42c h42k
  have b42:=F42.binds (ps:=["row"]) (by intro _ _ _ _ _ _ us hl; revert us; exact bI (λ_=>rfl))
  have F43:=aT (st:=jK) h43l h43c h43k
  have b43:=F43.binds (ps:=["row"]) (by intro _ _ _ _ _ _ us hl; revert us; exact bI (λ_=>rfl))
  have F44:=aT (st:=iL) h44l h44c h44k
  have b44:=F44.binds (ps:=["row"]) (by intro _ _ _ _ _ _ us hl; revert us; exact bI (λ_=>rfl))
  have F45:=da (st:=kO) h45l h45c h45k h45d
  have bd45:=F45.binds (ps:=["self", "sign", "page"]) (ds:=[.int 0 ud45_0]) (by intro _ _ _ _ _ _ _ us hl; have hm:us.length=2:=(by have:=hl; simp at this; omega); clear hl; revert us; exact bn (λ_ _=>⟨_,rfl,rfl⟩))
  have b45:=F45.binds (ps:=["self", "sign", "page"]) (ds:=[]) (by intro _ _ _ _ _ _ _ us hl; have hm:us.length=3:=(by have:=hl; simp at this; omega); clear hl; revert us; exact ca (λ_ _ _=>⟨_,rfl,rfl⟩))
  have F46:=da (st:=kN) h46l h46c h46k h46d
  have bd46:=F46.binds (ps:=["self", "row", "page"]) (ds:=[.int 0 ud46_0]) (by intro _ _ _ _ _ _ _ us hl; have hm:us.length=2:=(by have:=hl; simp at this; omega); clear hl; revert us; exact bn (λ_ _=>⟨_,rfl,rfl⟩))
  have b46:=F46.binds (ps:=["self", "row", "page"]) (ds:=[]) (by intro _ _ _ _ _ _ _ us hl; have hm:us.length=3:=(by have:=hl; simp at this; omega); clear hl; revert us; exact ca (λ_ _ _=>⟨_,rfl,rfl⟩))
  have F47:=da (st:=iO) h47l h47c h47k h47d
  have bd47:=F47.binds (ps:=["self", "row", "page"]) (ds:=[.int 0 ud47_0]) (by intro _ _ _ _ _ _ _ us hl; have hm:us.length=2:=(by have:=hl; simp at this; omega); clear hl; revert us; exact bn (λ_ _=>⟨_,rfl,rfl⟩))
  have b47:=F47.binds (ps:=["self", "row", "page"]) (ds:=[]) (by intro _ _ _ _ _ _ _ us hl; have hm:us.length=3:=(by have:=hl; simp at this; omega); clear hl; revert us; exact ca (λ_ _ _=>⟨_,rfl,rfl⟩))
  have F48:=aT (st:=jF) h48l h48c h48k
  have b48:=F48.binds (ps:=["sign"]) (by intro _ _ _ _ _ _ us hl; revert us; exact bI (λ_=>rfl))
  have F49:=aT (st:=jH) h49l h49c h49k
  have b49:=F49.binds (ps:=["units"]) (by intro _ _ _ _ _ _ us hl; revert us; exact bI (λ_=>rfl))
  have F50:=da (st:=kL) h50l h50c h50k h50d
  have bd50:=F50.binds (ps:=["self", "order"]) (ds:=[.str "high" ud50_0]) (by intro _ _ _ _ _ _ _ us hl; have hm:us.length=1:=(by have:=hl; simp at this; omega); clear hl; revert us; exact bI (λ_=>⟨_,rfl,rfl⟩))
  have b50:=F50.binds (ps:=["self", "order"]) (ds:=[]) (by intro _ _ _ _ _ _ _ us hl; have hm:us.length=2:=(by have:=hl; simp at this; omega); clear hl; revert us; exact bn (λ_ _=>⟨_,rfl,rfl⟩))
  have F51:=aT (st:=kH) h51l h51c h51k
  have b51:=F51.binds (ps:=["self"]) (by intro _ _ _ _ _ _ us hl; revert us; exact bI (λ_=>rfl))
  have F52:=aT (st:=kI) h52l h52c h52k
  have b52:=F52.binds (ps:=["self", "pair"]) (by intro _ _ _ _ _ _ us hl; revert us; exact bn (λ_ _=>rfl))
  have F53:=aT (st:=kK) h53l h53c h53k
  have b53:=F53.binds (ps:=["self", "units"]) (by intro _ _ _ _ _ _ us hl; revert us; exact bn (λ_ _=>rfl))
  have F54:=aT (st:=iN) h54l h54c h54k
  have b54:=F54.binds (ps:=["self", "row"]) (by intro _ _ _ _ _ _ us hl; revert us; exact bn (λ_ _=>rfl))
  have F55:=da (st:=kJ) h55l h55c h55k h55d
  have bd55:=F55.binds (ps:=["self", "sign", "page"]) (ds:=[.int 0 ud55_0]) (by intro _ _ _ _ _ _ _ us hl; have hm:us.length=2:=(by have:=hl; simp at this; omega); clear hl; revert us; exact bn (λ_ _=>⟨_,rfl,rfl⟩))
  have b55:=F55.binds (ps:=["self", "sign", "page"]) (ds:=[]) (by intro _ _ _ _ _ _ _ us hl; have hm:us.length=3:=(by have:=hl; simp at this; omega); clear hl; revert us; exact ca (λ_ _ _=>⟨_,rfl,rfl⟩))
  have F56:=da (st:=kG) h56l h56c h56k h56d
  have bd56:=F56.binds (ps:=["self", "row", "page"]) (ds:=[.int 0 ud56_0]) (by intro _ _ _ _ _ _ _ us hl; have hm:us.length=2:=(by have:=hl; simp at this; omega); clear hl; revert us; exact bn (λ_ _=>⟨_,rfl,rfl⟩))
  have b56:=F56.binds (ps:=["self", "row", "page"]) (ds:=[]) (by intro _ _ _ _ _ _ _ us hl; have hm:us.length=3:=(by have:=hl; simp at this; omega); clear hl; revert us; exact ca (λ_ _ _=>⟨_,rfl,rfl⟩))
  have F57:=da (st:=kM) h57l h57c h57k h57d
  have bd57:=F57.binds (ps:=["self", "row", "page"]) (ds:=[.int 0 ud57_0]) (by intro _ _ _ _ _ _ _ us hl; have hm:us.length=2:=(by have:=hl; simp at this; omega); clear hl; revert us; exact bn (λ_ _=>⟨_,rfl,rfl⟩))
  have b57:=F57.binds (ps:=["self", "row", "page"]) (ds:=[]) (by intro _ _ _ _ _ _ _ us hl; have hm:us.length=3:=(by have:=hl; simp at this; omega); clear hl; revert us; exact ca (λ_ _ _=>⟨_,rfl,rfl⟩))
  have F58:=aT (st:=jZ) h58l h58c h58k
  have b58:=F58.binds (ps:=["one", "other"]) (by intro _ _ _ _ _ _ us hl; revert us; exact bn (λ_ _=>rfl))
  have F59:=aT (st:=jI) h59l h59c h59k
  have b59:=F59.binds (ps:=["signs", "which"]) (by intro _ _ _ _ _ _ us hl; revert us; exact bn (λ_ _=>rfl))
  have F60:=aT (st:=kj) h60l h60c h60k
  have b60:=F60.binds (ps:=["self", "first", "second"]) (by intro _ _ _ _ _ _ us hl; revert us; exact ca (λ_ _ _=>rfl))
  have F61:=aT (st:=ki) h61l h61c h61k
  have b61:=F61.binds (ps:=["self", "page"]) (by intro _ _ _ _ _ _ us hl; revert us; exact bn (λ_ _=>rfl))
  have F62:=da (st:=kg) h62l h62c h62k h62d
  have bd62:=F62.binds (ps:=["self", "sign", "page"]) (ds:=[.int 0 ud62_0]) (by intro _ _ _ _ _ _ _ us hl; have hm:us.length=2:=(by have:=hl; simp at this; omega); clear hl; revert us; exact bn (λ_ _=>⟨_,rfl,rfl⟩))
  have b62:=F62.binds (ps:=["self", "sign", "page"]) (ds:=[]) (by intro _ _ _ _ _ _ _ us hl; have hm:us.length=3:=(by have:=hl; simp at this; omega); clear hl; revert us; exact ca (λ_ _ _=>⟨_,rfl,rfl⟩))
  have F63:=aT (st:=kh) h63l h63c h63k
  have b63:=F63.binds (ps:=["self", "byte", "page"]) (by intro _ _ _ _ _ _ us hl; revert us; exact ca (λ_ _ _=>rfl))
  have F64:=da (st:=kf) h64l h64c h64k h64d
  have bd64:=F64.binds (ps:=["self", "row", "page"]) (ds:=[.int 0 ud64_0]) (by intro _ _ _ _ _ _ _ us hl; have hm:us.length=2:=(by have:=hl; simp at this; omega); clear hl; revert us; exact bn (λ_ _=>⟨_,rfl,rfl⟩))
  have b64:=F64.binds (ps:=["self", "row", "page"]) (ds:=[]) (by intro _ _ _ _ _ _ _ us hl; have hm:us.length=3:=(by have:=hl; simp at this; omega); clear hl; revert us; exact ca (λ_ _ _=>⟨_,rfl,rfl⟩))
  have F65:=da (st:=kl) h65l h65c h65k h65d
  have bd65:=F65.binds (ps:=["self", "row", "page"]) (ds:=[.int 0 ud65_0]) (by intro _ _ _ _ _ _ _ us hl; have hm:us.length=2:=(by have:=hl; simp at this; omega); clear hl; revert us; exact bn (λ_ _=>⟨_,rfl,rfl⟩))
  have b65:=F65.binds (ps:=["self", "row", "page"]) (ds:=[]) (by intro _ _ _ _ _ _ _ us hl; have hm:us.length=3:=(by have:=hl; simp at this; omega); clear hl; revert us; exact ca (λ_ _ _=>⟨_,rfl,rfl⟩))
  have F66:=aT (st:=jS) h66l h66c h66k
  have b66:=F66.binds (ps:=["thing"]) (by intro _ _ _ _ _ _ us hl; revert us; exact bI (λ_=>rfl))
  have F67:=aT (st:=jV) h67l h67c h67k
  have b67:=F67.binds (ps:=["one", "other"]) (by intro _ _ _ _ _ _ us hl; revert us; exact bn (λ_ _=>rfl))
  have F68:=aT (st:=jW) h68l h68c h68k
  have b68:=F68.binds (ps:=["rows"]) (by intro _ _ _ _ _ _ us hl; revert us; exact bI (λ_=>rfl))
  have F69:=aT (st:=ka) h69l h69c h69k
  have b69:=F69.binds (ps:=["self", "rows"]) (by intro _ _ _ _ _ _ us hl; revert us; exact bn (λ_ _=>rfl))
  have F70:=aT (st:=ke) h70l h70c h70k
  have b70:=F70.binds (ps:=["self", "sign", "row"]) (by intro _ _ _ _ _ _ us hl; revert us; exact ca (λ_ _ _=>rfl))
  have F71:=da (st:=j9) h71l h71c h71k h71d
  have bd71:=F71.binds (ps:=["self", "sign", "page"]) (ds:=[.int 0 ud71_0]) (by intro _ _ _ _ _ _ _ us hl; have hm:us.length=2:=(by have:=hl; simp at this; omega); clear hl; revert us; exact bn (λ_ _=>⟨_,rfl,rfl⟩))
  have b71:=F71.binds (ps:=["self", "sign", "page"]) (ds:=[]) (by intro _ _ _ _ _ _ _ us hl; have hm:us.length=3:=(by have:=hl; simp at this; omega); clear hl; revert us; exact ca (λ_ _ _=>⟨_,rfl,rfl⟩))
  have F72:=da (st:=j8) h72l h72c h72k h72d
  have bd72:=F72.binds (ps:=["self", "row", "page"]) (ds:=[.int 0 ud72_0]) (by intro _ _ _ _ _ _ _ us hl; have hm:us.length=2:=(by have:=hl; simp at this; omega); clear hl; revert us; exact bn (λ_ _=>⟨_,rfl,rfl⟩))
  have b72:=F72.binds (ps:=["self", "row", "page"]) (ds:=[]) (by intro _ _ _ _ _ _ _ us hl; have hm:us.length=3:=(by have:=hl; simp at this; omega); clear hl; revert us; exact ca (λ_ _ _=>⟨_,rfl,rfl⟩))
  have F73:=da (st:=kc) h73l h73c h73k h73d
  have bd73:=F73.binds (ps:=["self", "row", "page"]) (ds:=[.int 0 ud73_0]) (by intro _ _ _ _ _ _ _ us hl; have hm:us.length=2:=(by have:=hl; simp at this; omega); clear hl; revert us; exact bn (λ_ _=>⟨_,rfl,rfl⟩))
  have b73:=F73.binds (ps:=["self", "row", "page"]) (ds:=[]) (by intro _ _ _ _ _ _ _ us hl; have hm:us.length=3:=(by have:=hl; simp at this; omega); clear hl; revert us; exact ca (λ_ _ _=>⟨_,rfl,rfl⟩))
  have F74:=aT (st:=jA) h74l h74c h74k
  have b74:=F74.binds (ps:=["_law_script", "_law_at"]) (by intro _ _ _ _ _ _ us hl; revert us; exact bn (λ_ _=>rfl))
  have F75:=aT (st:=jx) h75l h75c h75k
  have b75:=F75.binds (ps:=["_law_number", "_law_k"]) (by intro _ _ _ _ _ _ us hl; revert us; exact bn (λ_ _=>rfl))
  have F76:=aT (st:=jz) h76l h76c h76k
  have b76:=F76.binds (ps:=["_law_number"]) (by intro _ _ _ _ _ _ us hl; revert us; exact bI (λ_=>rfl))
  have F77:=aT (st:=jB) h77l h77c h77k
  have b77:=F77.binds (ps:=["_law_number"]) (by intro _ _ _ _ _ _ us hl; revert us; exact bI (λ_=>rfl))
  have F78:=aT (st:=ia) h78l h78c h78k
  have b78:=F78.binds (ps:=["_law_number"]) (by intro _ _ _ _ _ _ us hl; revert us; exact bI (λ_=>rfl))
  have F79:=aT (st:=iH) h79l h79c h79k
  have b79:=F79.binds (ps:=["_law_number"]) (by intro _ _ _ _ _ _ us hl; revert us; exact bI (λ_=>rfl))
  have F80:=aT (st:=jw) h80l h80c h80k
  have b80:=F80.binds (ps:=["_law_cell"]) (by intro _ _ _ _ _ _ us hl; revert us; exact bI (λ_=>rfl))
  have F81:=aT (st:=iG) h81l h81c h81k
  have b81:=F81.binds (ps:=["_law_model_here"]) (by intro _ _ _ _ _ _ us hl; revert us; exact bI (λ_=>rfl))
  have F82:=aT (st:=jy) h82l h82c h82k
  have b82:=F82.binds (ps:=["_law_sign"]) (by intro _ _ _ _ _ _ us hl; revert us; exact bI (λ_=>rfl))
  have F83:=aT (st:=jv) h83l h83c h83k
  have b83:=F83.binds (ps:=["_law_sign", "_law_word"]) (by intro _ _ _ _ _ _ us hl; revert us; exact bn (λ_ _=>rfl))
  have F84:=aT (st:=jr) h84l h84c h84k
  have b84:=F84.binds (ps:=["_law_model_here", "_law_sign", "_law_page"]) (by intro _ _ _ _ _ _ us hl; revert us; exact ca (λ_ _ _=>rfl))
  have F85:=aT (st:=gM) h85l h85c h85k
  have b85:=F85.binds (ps:=["_law_model_here", "_law_cells"]) (by intro _ _ _ _ _ _ us hl; revert us; exact bn (λ_ _=>rfl))
  have F86:=aT (st:=ju) h86l h86c h86k
  have b86:=F86.binds (ps:=["_law_row_here", "_law_cell"]) (by intro _ _ _ _ _ _ us hl; revert us; exact bn (λ_ _=>rfl))
  have F87:=aT (st:=js) h87l h87c h87k
  have b87:=F87.binds (ps:=["_law_model_here", "_law_cells"]) (by intro _ _ _ _ _ _ us hl; revert us; exact bn (λ_ _=>rfl))
  have F88:=aT (st:=jt) h88l h88c h88k
  have b88:=F88.binds (ps:=["_law_reader", "_law_other", "_law_pieces_here"]) (by intro _ _ _ _ _ _ us hl; revert us; exact ca (λ_ _ _=>rfl))
  have F89:=aT (st:=jq) h89l h89c h89k
  have b89:=F89.binds (ps:=["_law_tongue_here", "_law_text_here", "_law_cell"]) (by intro _ _ _ _ _ _ us hl; revert us; exact ca (λ_ _ _=>rfl))
  have F90:=aT (st:=gN) h90l h90c h90k
  have b90:=F90.binds (ps:=["_law_script"]) (by intro _ _ _ _ _ _ us hl; revert us; exact bI (λ_=>rfl))
  exact⟨⟨a0,_,a1,_,a2,_,a3,_,a4,_,a5,_,a6,_,a7,_,a8,_,a9,_,a10,_,a11,_,a12,_,a13,_,a14,_,a15,_,a16,_,a17,_,ud17_0,a18,_,a19,_,a20,_,ud20_0,a21,_,ud21_0,a22,_,a23,_,a24,_,a25,_,a26,_,a27,_,a28,_,a29,_,a30,_,a31,_,a32,_,a33,_,a34,_,ud34_0,a35,_,ud35_0,a36,_,ud36_0,a37,_,ud37_0,a38,_,a39,_,a40,_,a41,_,a42,_,a43,_,a44,_,a45,_,ud45_0,a46,_,ud46_0,a47,_,ud47_0,a48,_,a49,_,a50,_,ud50_0,a51,_,a52,_,a53,_,a54,_,a55,_,ud55_0,a56,_,ud56_0,a57,_,ud57_0,a58,_,a59,_,a60,_,a61,_,a62,_,ud62_0,a63,_,a64,_,ud64_0,a65,_,ud65_0,a66,_,a67,_,a68,_,a69,_,a70,_,a71,_,ud71_0,a72,_,ud72_0,a73,_,ud73_0,a74,_,a75,_,a76,_,a77,_,a78,_,a79,_,a80,_,a81,_,a82,_,a83,_,a84,_,a85,_,a86,_,a87,_,a88,_,a89,_,a90,_,ccSeenSpeller,ccSeenWriter,ccLeave,ccPut,ccSee,ccGoingReader,ccTongue,ccLeadTongue,ccPairTongue,ccShiftTongue,ccTableTongue,ccWriter,ccReader,eeNoSign,u0,u1,ta2,th2_0,ta2_0,ta2_0_0,ta2_0_1,ta2_0_2,ta2_0_3,ta2_0_4,th2_1,ta2_1,ta2_1_0,ta2_1_1,ta2_1_2,ta2_1_3,ta2_1_4,u3,u4,u5,u6,u7,u8,u9,u10,u11,u12,u13,ta14,u15,u16,u17,ta18,ta18_0,ta18_1,ta18_2,ta18_3,ta18_4,ta19⟩,⟨F0,b0,W.mg_of X G h0a,F1,b1,W.mg_of X G h1a,F2,b2,W.mg_of X G h2a,F3,b3,W.mg_of X G h3a,F4,b4,W.mg_of X G h4a,F5,b5,W.mg_of X G h5a,F6,b6,W.mg_of X G h6a,F7,b7,W.mg_of X G h7a,F8,b8,W.mg_of X G h8a,F9,b9,W.mg_of X G h9a,F10,b10,F11,b11,F12,b12,F13,b13,F14,b14,F15,b15,W.mg_of X G h15a,F16,b16,F17,bd17,b17,F18,b18,F19,b19,F20,bd20,b20,F21,bd21,b21,F22,b22,F23,b23,F24,b24,F25,b25,F26,b26,F27,b27,F28,b28,F29,b29,F30,b30,W.mg_of X G h30a,F31,b31,W.mg_of X G h31a,F32,b32,W.mg_of X G h32a,F33,b33,F34,bd34,b34,F35,bd35,b35,F36,bd36,b36,F37,bd37,b37,F38,b38,W.mg_of X G h38a,F39,b39,W.mg_of X G h39a,F40,b40,W.mg_of X G h40a,F41,b41,W.mg_of X G h41a,F42,b42,W.mg_of X G h42a,F43,b43,W.mg_of X G h43a,F44,b44,W.mg_of X G h44a,F45,bd45,b45,F46,bd46,b46,F47,bd47,b47,F48,b48,W.mg_of X G h48a,F49,b49,W.mg_of X G h49a,F50,bd50,b50,F51,b51,F52,b52,F53,b53,F54,b54,F55,bd55,b55,F56,bd56,b56,F57,bd57,b57,F58,b58,W.mg_of X G h58a,F59,b59,W.mg_of X G h59a,F60,b60,F61,b61,F62,bd62,b62,F63,b63,F64,bd64,b64,F65,bd65,b65,F66,b66,W.mg_of X G h66a,F67,b67,W.mg_of X G h67a,F68,b68,W.mg_of X G h68a,F69,b69,F70,b70,F71,bd71,b71,F72,bd72,b72,F73,bd73,b73,F74,b74,W.mg_of X G h74a,F75,b75,W.mg_of X G h75a,F76,b76,W.mg_of X G h76a,F77,b77,W.mg_of X G h77a,F78,b78,W.mg_of X G h78a,F79,b79,W.mg_of X G h79a,F80,b80,W.mg_of X G h80a,F81,b81,W.mg_of X G h81a,F82,b82,W.mg_of X G h82a,F83,b83,W.mg_of X G h83a,F84,b84,W.mg_of X G h84a,F85,b85,W.mg_of X G h85a,F86,b86,W.mg_of X G h86a,F87,b87,W.mg_of X G h87a,F88,b88,W.mg_of X G h88a,F89,b89,W.mg_of X G h89a,F90,b90,W.mg_of X G h90a,W.mg_of X G wS,⟨qa,qE,qt,pP⟩,⟨wk,h10a,h10f,wC⟩,⟨h11a,h11f,h11k⟩,vT,λH a dx fs e=>.ins e ⟨qa,qE,qt,pP⟩ vE vo uZ cw_SeenSpeller,W.mg_of X G wR,⟨pZ,qD,qr,pO⟩,⟨wj,h13a,h13f,wB⟩,⟨h14a,h14f,h14k⟩,vS,vR,λH a dx fs e=>.ins e ⟨pZ,qD,qr,pO⟩ vD vm uY cw_SeenWriter,W.mg_of X G wX,⟨qf,qJ,qx,pT⟩,⟨wp,wL,wG⟩,⟨h16a,h16f,h16k⟩,λH a dx fs e=>.ins e ⟨qf,qJ,qx,pT⟩ vI vx vf cw_Leave,W.mg_of X G wV,⟨qd,qH,qv,pR⟩,⟨wm,h17a,h17f,wE⟩,⟨h18a,h18f,h18k⟩,vU,λH a dx fs e=>.ins e ⟨qd,qH,qv,pR⟩ vG vt vd cw_Put,W.mg_of X G wT,⟨qc,qG,qu,pQ⟩,⟨wl,wK,wD⟩,⟨h19a,h19f,h19k⟩,λH a dx fs e=>.ins e ⟨qc,qG,qu,pQ⟩ vF vp va cw_See,W.mg_of X G wZ,⟨qh,qL,qz,pV⟩,⟨wt,h21a,h21f,wI⟩,⟨h22a,h22f,h22k⟩,⟨h23a,h23f,h23k⟩,⟨h24a,h24f,h24k⟩,⟨h25a,h25f,h25k⟩,⟨h26a,h26f,h26k⟩,⟨h27a,h27f,h27k⟩,⟨h28a,h28f,h28k⟩,⟨h29a,h29f,h29k⟩,wd,wc,wb,wa,vZ,vY,vX,vW,λH a dx fs e=>.ins e ⟨qh,qL,qz,pV⟩ vK vz vh cw_GoingReader,W.mg_of X G wO,⟨pW,qA,qm,pL⟩,⟨we,wJ,wx⟩,⟨h33a,h33f,h33k⟩,⟨h34a,h34f,h34k⟩,⟨h35a,h35f,h35k⟩,⟨h36a,h36f,h36k⟩,⟨h37a,h37f,h37k⟩,λH a dx fs e=>.ins e ⟨pW,qA,qm,pL⟩ vA vi uV cw_Tongue,W.mg_of X G wY,⟨qg,qK,qy,pU⟩,⟨wr,wM,wH⟩,⟨h45a,h45f,h45k⟩,⟨h46a,h46f,h46k⟩,⟨h47a,h47f,h47k⟩,⟨hi_LeadTongue_unit,h33f,h33k⟩,⟨hi_LeadTongue_look,h37f,h37k⟩,λH a dx fs e=>.ins e ⟨qg,qK,qy,pU⟩ vJ vy vg cw_LeadTongue,W.mg_of X G wW,⟨qe,qI,qw,pS⟩,⟨wn,h50a,h50f,wF⟩,⟨h51a,h51f,h51k⟩,⟨h52a,h52f,h52k⟩,⟨h53a,h53f,h53k⟩,⟨h54a,h54f,h54k⟩,⟨h55a,h55f,h55k⟩,⟨h56a,h56f,h56k⟩,⟨h57a,h57f,h57k⟩,⟨hi_PairTongue_look,h37f,h37k⟩,vV,λH a dx fs e=>.ins e ⟨qe,qI,qw,pS⟩ vH vw ve cw_PairTongue,W.mg_of X G wQ,⟨pY,qC,qp,pN⟩,⟨wg,h60a,h60f,wA⟩,⟨h61a,h61f,h61k⟩,⟨h62a,h62f,h62k⟩,⟨h63a,h63f,h63k⟩,⟨h64a,h64f,h64k⟩,⟨h65a,h65f,h65k⟩,⟨hi_ShiftTongue_unit,h33f,h33k⟩,⟨hi_ShiftTongue_look,h37f,h37k⟩,vQ,vP,vO,λH a dx fs e=>.ins e ⟨pY,qC,qp,pN⟩ vC vk uX cw_ShiftTongue,W.mg_of X G wP,⟨pX,qB,qo,pM⟩,⟨wf,h69a,h69f,wz⟩,⟨h70a,h70f,h70k⟩,⟨h71a,h71f,h71k⟩,⟨h72a,h72f,h72k⟩,⟨h73a,h73f,h73k⟩,⟨hi_TableTongue_unit,h33f,h33k⟩,⟨hi_TableTongue_look,h37f,h37k⟩,vN,vM,vL,λH a dx fs e=>.ins e ⟨pX,qB,qo,pM⟩ vB vj uW cw_TableTongue,W.mg_of X G wN,⟨xc,xg,xj⟩,W.mg_of X G wU,⟨xf,xh,xk⟩,W.mg_of X G mx,W.mg_of X G k0,W.mg_of X G k1,W.mg_of X G k2,⟨⟨_,_,kl2,kv2⟩,List.forall_mem_cons.mpr ⟨kh2_0,List.forall_mem_cons.mpr ⟨kh2_1,λ_ z=>nomatch z⟩⟩,(show List.Nodup (["high", "low"]:List Str) by decide +kernel),ks2⟩,y6 kl2_0 kv2_0 (Nat.le_of_ble_eq_true kz2_0),dC kl2_0_0 kv2_0_0 (Nat.le_of_ble_eq_true kz2_0_0),dC kl2_0_1 kv2_0_1 (Nat.le_of_ble_eq_true kz2_0_1),dC kl2_0_2 kv2_0_2 (Nat.le_of_ble_eq_true kz2_0_2),dC kl2_0_3 kv2_0_3 (Nat.le_of_ble_eq_true kz2_0_3),dC kl2_0_4 kv2_0_4 (Nat.le_of_ble_eq_true kz2_0_4),y6 kl2_1 kv2_1 (Nat.le_of_ble_eq_true kz2_1),dC kl2_1_0 kv2_1_0 (Nat.le_of_ble_eq_true kz2_1_0),dC kl2_1_1 kv2_1_1 (Nat.le_of_ble_eq_true kz2_1_1),dC kl2_1_2 kv2_1_2 (Nat.le_of_ble_eq_true kz2_1_2),dC kl2_1_3 kv2_1_3 (Nat.le_of_ble_eq_true kz2_1_3),dC kl2_1_4 kv2_1_4 (Nat.le_of_ble_eq_true kz2_1_4),W.mg_of X G k3,W.mg_of X G k4,W.mg_of X G k5,W.mg_of X G k6,W.mg_of X G k7,W.mg_of X G k8,W.mg_of X G k9,W.mg_of X G k10,W.mg_of X G k11,W.mg_of X G k12,W.mg_of X G k13,W.mg_of X G k14,dC kl14 kv14 (Nat.le_of_ble_eq_true kz14),⟨_,kl14,rfl,rfl⟩,W.mg_of X G k15,W.mg_of X G k16,W.mg_of X G k17,W.mg_of X G k18,⟨⟨_,_,kl18,kv18⟩,(show List.Nodup ([224,237,238,240,244]:List Int) by decide),ks18⟩,dC kl18_0 kv18_0 (Nat.le_of_ble_eq_true kz18_0),dC kl18_1 kv18_1 (Nat.le_of_ble_eq_true kz18_1),dC kl18_2 kv18_2 (Nat.le_of_ble_eq_true kz18_2),dC kl18_3 kv18_3 (Nat.le_of_ble_eq_true kz18_3),dC kl18_4 kv18_4 (Nat.le_of_ble_eq_true kz18_4),W.mg_of X G k19,dC kl19 kv19 (Nat.le_of_ble_eq_true kz19),⟨_,kl19,rfl,rfl⟩,W.mg_none_of X G z0,W.mg_none_of X G z1,W.mg_none_of X G z2,W.mg_none_of X G z3,W.mg_none_of X G z4,W.mg_none_of X G z5,W.mg_none_of X G z6,W.mg_none_of X G z7,W.mg_none_of X G z8,W.mg_none_of X G z9,W.mg_none_of X G z10,W.mg_none_of X G z11,W.mg_none_of X G z12⟩⟩
theorem walk {l:PySem.W.OpenLaw} {q:Program} {loose:List Str} {XP:(Str->Option Value)->Heap->Prop} {YP:World->Heap->Prop} {d:DefRec} {K:Params->PySem.W.Frag} (hn:l.most=some 63) (hdf:d.params.defaults=[]) (hnm:d.name = "law")
 (hY : ∀ (w:World) (h:Heap),YP w h->(K w.params).In h)
 (F : ∀ (w:World) (mg:Str->Option Value) (h:Heap),(K w.params).In h->h.Ns mainGlobals mg->∃ t,Txt w (K w.params) mg t) :
 PySem.W.WalkO q loose XP YP l.row.toRowW d [] (λf vs=>PySem.call f vs):=by
 refine L2.walk_of (n:=63) (k:=15) (x := "_law_script") (CX:=λ_=>bC) (sp:=λw=>rS (K w.params)) hn (by decide) hdf ⟨rfl,by decide,by decide⟩ hY (λw mg fa h KX G hmg=>?_) (λ_ _ a ns hl _ hS=>⟨a,rfl,ns,hS,hl,λ_=>rfl⟩) λ_ _ _ _ _ z=>z
 obtain⟨t,T⟩:=F w mg h KX G
 rw[hnm]at hmg
 have e:=hmg.symm.trans T.Cq
 cases e
 obtain⟨oc,od,kV,doc,pm,an,cdv,ct,osl,e1,lk,hcd⟩:=T.yQ.ex
 refine⟨t.o9,λs u=>?_,λbase _ _=>(ME (P:=l.prog) (w:=w) (base:=base) T).ok⟩
 rw[e1]
 exact .of_eq rfl
end My
namespace PySem.W.Fast
theorem tw1002020517154314909:True:=⟨⟩
theorem tw10036618321713352854:True:=⟨⟩
theorem tw10256244686313576530:True:=⟨⟩
theorem tw10256879040120034610:True:=⟨⟩
theorem tw10277006668245714933:True:=⟨⟩
theorem tw1031785717183865769:True:=⟨⟩
theorem tw10374118835492826099:True:=⟨⟩
theorem tw10429046083603259037:True:=⟨⟩
theorem tw10457739401478115680:True:=⟨⟩
theorem tw1047269331900825888:True:=⟨⟩
theorem tw10493725761560733983:True:=⟨⟩
theorem tw10532290719933081890:True:=⟨⟩
theorem tw10564212584623664429:True:=⟨⟩
theorem tw10566959019722393027:True:=⟨⟩
theorem tw10590156318168882854:True:=⟨⟩
theorem tw10598582315860118913:True:=⟨⟩
theorem tw10743425236379895269:True:=⟨⟩
theorem tw10804141649061006119:True:=⟨⟩
theorem tw1081722867707996250:True:=⟨⟩
theorem tw1092401945534981134:True:=⟨⟩
theorem tw10992229317815975559:True:=⟨⟩
theorem tw11072551979860366729:True:=⟨⟩
theorem tw11366933472577350141:True:=⟨⟩
theorem tw11390524452181397760:True:=⟨⟩
theorem tw1141995918101049704:True:=⟨⟩
theorem tw11588016271624098341:True:=⟨⟩
theorem tw11706496399294334943:True:=⟨⟩
theorem tw11773004039453830642:True:=⟨⟩
theorem tw11804868114419513521:True:=⟨⟩
theorem tw11906696758851173336:True:=⟨⟩
theorem tw11950997953601963042:True:=⟨⟩
theorem tw1196438641212618561:True:=⟨⟩
theorem tw12055340419373276471:True:=⟨⟩
theorem tw12122880461777377096:True:=⟨⟩
theorem tw12126839597125301387:True:=⟨⟩
theorem tw12249289519825359241:True:=⟨⟩
theorem tw1226624377439583972:True:=⟨⟩
theorem tw12332308970861646318:True:=⟨⟩
theorem tw123923637835386878:True:=⟨⟩
theorem tw12624558812832365080:True:=⟨⟩
theorem tw12687595101009854090:True:=⟨⟩
theorem tw1278339281871067696:True:=⟨⟩
theorem tw1280819559587584121:True:=⟨⟩
theorem tw13081827468008299962:True:=⟨⟩
theorem tw13137321094337610386:True:=⟨⟩
theorem tw13222581830438869623:True:=⟨⟩
theorem tw13326571807423274063:True:=⟨⟩
theorem tw13349837666632053094:True:=⟨⟩
theorem tw13458126341658721712:True:=⟨⟩
theorem tw1357970376413752653:True:=⟨⟩
theorem tw13620189039467156014:True:=⟨⟩
theorem tw13660385822725216528:True:=⟨⟩
theorem tw13662863981876638080:True:=⟨⟩
theorem tw13681529236111080289:True:=⟨⟩
theorem tw13832532432619668763:True:=⟨⟩
theorem tw1395986608577409133:True:=⟨⟩
theorem tw13971956041585914302:True:=⟨⟩
theorem tw1403412557117742145:True:=⟨⟩
theorem tw14399781747059795744:True:=⟨⟩
theorem tw14475777940054076601:True:=⟨⟩
theorem tw14511766291066974067:True:=⟨⟩
theorem tw14568482821785561313:True:=⟨⟩
theorem tw14586058407684375076:True:=⟨⟩
theorem tw1460212756550358248:True:=⟨⟩
theorem tw14685589627832406824:True:=⟨⟩
theorem tw14732081552385232388:True:=⟨⟩
theorem tw14736279449957247817:True:=⟨⟩
theorem tw1489111953825206358:True:=⟨⟩
theorem tw14991529127621699705:True:=⟨⟩
theorem tw15034390775934530124:True:=⟨⟩
theorem tw15087072373460976748:True:=⟨⟩
theorem tw15223385021986128756:True:=⟨⟩
theorem tw15223838572987288263:True:=⟨⟩
theorem tw15255647588944348802:True:=⟨⟩
theorem tw15408567971284654698:True:=⟨⟩
theorem tw15470864882723011773:True:=⟨⟩
theorem tw15482569740572456377:True:=⟨⟩
theorem tw15551247842587729337:True:=⟨⟩
theorem tw15796122510391096512:True:=⟨⟩
theorem tw15820803688937595360:True:=⟨⟩
theorem tw15833998309529486469:True:=⟨⟩
theorem tw15910004996845168443:True:=⟨⟩
theorem tw15914701924847179815:True:=⟨⟩
theorem tw15946592235628519627:True:=⟨⟩
theorem tw15974342700136931538:True:=⟨⟩
theorem tw16009259282571988260:True:=⟨⟩
theorem tw16027423869498897507:True:=⟨⟩
theorem tw16089138999887368585:True:=⟨⟩
theorem tw16089406490302571876:True:=⟨⟩
theorem tw16118947468624924070:True:=⟨⟩
theorem tw16161865852392808285:True:=⟨⟩
theorem tw16287106186550752602:True:=⟨⟩
theorem tw16339670492190701973:True:=⟨⟩
theorem tw16367876179360565753:True:=⟨⟩
theorem tw16382410854761274465:True:=⟨⟩
theorem tw16423671222324361323:True:=⟨⟩
theorem tw16534555591682229142:True:=⟨⟩
theorem tw16662597779239561326:True:=⟨⟩
theorem tw1667886933523964767:True:=⟨⟩
theorem tw16715371342100860778:True:=⟨⟩
theorem tw16732353688975257454:True:=⟨⟩
theorem tw167623453794405773:True:=⟨⟩
theorem tw16824022476703463128:True:=⟨⟩
theorem tw16874114168187288372:True:=⟨⟩
theorem tw16959767974055390943:True:=⟨⟩
theorem tw17028441612740533022:True:=⟨⟩
theorem tw17085434339512261013:True:=⟨⟩
theorem tw17110387996559043383:True:=⟨⟩
theorem tw17144711101870123974:True:=⟨⟩
theorem tw17250604411559215491:True:=⟨⟩
theorem tw17313838600075195575:True:=⟨⟩
theorem tw17365155490755968399:True:=⟨⟩
theorem tw17412100172544246000:True:=⟨⟩
theorem tw17413889634854302656:True:=⟨⟩
theorem tw17414012181437404936:True:=⟨⟩
theorem tw17419102332857485053:True:=⟨⟩
theorem tw1748216994758833870:True:=⟨⟩
theorem tw17591934270277012986:True:=⟨⟩
theorem tw17684634961203619437:True:=⟨⟩
theorem tw18021441191029797033:True:=⟨⟩
theorem tw18045789408214303969:True:=⟨⟩
theorem tw18107705650832294529:True:=⟨⟩
theorem tw18107829060597497881:True:=⟨⟩
theorem tw18150262479092424612:True:=⟨⟩
theorem tw18151149716390993085:True:=⟨⟩
theorem tw18154488383595290038:True:=⟨⟩
theorem tw18157389975640701488:True:=⟨⟩
theorem tw1816785605695782018:True:=⟨⟩
theorem tw18209381078965501336:True:=⟨⟩
theorem tw18387804983204844172:True:=⟨⟩
theorem tw1961269555899140481:True:=⟨⟩
theorem tw1990518018066010273:True:=⟨⟩
theorem tw2058425777411891719:True:=⟨⟩
theorem tw2075638284457727868:True:=⟨⟩
theorem tw2176356090084964993:True:=⟨⟩
theorem tw219482437129673961:True:=⟨⟩
theorem tw2209266420872511916:True:=⟨⟩
theorem tw2295946321581668454:True:=⟨⟩
theorem tw2424758741559371289:True:=⟨⟩
theorem tw2492251339826315963:True:=⟨⟩
theorem tw265005826822862609:True:=⟨⟩
theorem tw299650393407847400:True:=⟨⟩
theorem tw31884046083365510:True:=⟨⟩
theorem tw3204821147894095461:True:=⟨⟩
theorem tw32108155260263593:True:=⟨⟩
theorem tw3390492158376917718:True:=⟨⟩
theorem tw339251471420597771:True:=⟨⟩
theorem tw3419977065873996727:True:=⟨⟩
theorem tw3432349706100880575:True:=⟨⟩
theorem tw3504905245807122969:True:=⟨⟩
theorem tw3540137566472298407:True:=⟨⟩
theorem tw3687437531659496007:True:=⟨⟩
theorem tw3692716472904127280:True:=⟨⟩
theorem tw3809257198409692133:True:=⟨⟩
theorem tw3820087214107819313:True:=⟨⟩
theorem tw3841130011210918724:True:=⟨⟩
theorem tw3859550416135963405:True:=⟨⟩
theorem tw387414579908079576:True:=⟨⟩
theorem tw404367572562479739:True:=⟨⟩
theorem tw4101918759176978870:True:=⟨⟩
theorem tw4110383111683587025:True:=⟨⟩
theorem tw4288131864131426799:True:=⟨⟩
theorem tw4337247419176264713:True:=⟨⟩
theorem tw4350879484246910390:True:=⟨⟩
theorem tw4378160212532609735:True:=⟨⟩
theorem tw444714932748105495:True:=⟨⟩
theorem tw4621147267482473712:True:=⟨⟩
theorem tw4819510379032441906:True:=⟨⟩
theorem tw4949788248730222565:True:=⟨⟩
theorem tw514666428509091763:True:=⟨⟩
theorem tw521011344152338619:True:=⟨⟩
theorem tw5451820591380859329:True:=⟨⟩
theorem tw5732224666750045670:True:=⟨⟩
theorem tw5734081767305881495:True:=⟨⟩
theorem tw5735658983660702391:True:=⟨⟩
theorem tw5765410318081502817:True:=⟨⟩
theorem tw59683515002041189:True:=⟨⟩
theorem tw598619579208106963:True:=⟨⟩
theorem tw6085403142059401478:True:=⟨⟩
theorem tw6102857818750707594:True:=⟨⟩
theorem tw6120143162135482560:True:=⟨⟩
theorem tw6144413961613114888:True:=⟨⟩
theorem tw6215589702818749671:True:=⟨⟩
theorem tw6251530840102841267:True:=⟨⟩
theorem tw629753583499485967:True:=⟨⟩
theorem tw649325997969229505:True:=⟨⟩
theorem tw6501358196804885900:True:=⟨⟩
theorem tw6533050993152302000:True:=⟨⟩
theorem tw6536240695115167004:True:=⟨⟩
theorem tw6589581920012168468:True:=⟨⟩
theorem tw6759345834698214057:True:=⟨⟩
theorem tw6774767092222592012:True:=⟨⟩
theorem tw679834702792840956:True:=⟨⟩
theorem tw6830998951832497390:True:=⟨⟩
theorem tw6839562181223549061:True:=⟨⟩
theorem tw70382855942027482:True:=⟨⟩
theorem tw7113701452814668443:True:=⟨⟩
theorem tw736234278788392736:True:=⟨⟩
theorem tw7435279048004980313:True:=⟨⟩
theorem tw7449466655024060975:True:=⟨⟩
theorem tw7461581948096164392:True:=⟨⟩
theorem tw7479664638194235512:True:=⟨⟩
theorem tw753796934496341088:True:=⟨⟩
theorem tw7589449750187067456:True:=⟨⟩
theorem tw7648353452954494475:True:=⟨⟩
theorem tw7688690390586123208:True:=⟨⟩
theorem tw7710332903365860601:True:=⟨⟩
theorem tw7899749852504499072:True:=⟨⟩
theorem tw7961454513021181108:True:=⟨⟩
theorem tw797828162018248788:True:=⟨⟩
theorem tw80164573102709531:True:=⟨⟩
theorem tw8024007018357808466:True:=⟨⟩
theorem tw8089587042017849292:True:=⟨⟩
theorem tw8157109313335048206:True:=⟨⟩
theorem tw8302812601223434431:True:=⟨⟩
theorem tw8321999541250947743:True:=⟨⟩
theorem tw8363142108749142399:True:=⟨⟩
theorem tw8378769608139524879:True:=⟨⟩
theorem tw8538163432217340644:True:=⟨⟩
theorem tw8659677438298404714:True:=⟨⟩
theorem tw866065127950483119:True:=⟨⟩
theorem tw8707958602448282480:True:=⟨⟩
theorem tw8731685456948036376:True:=⟨⟩
theorem tw881214978732672267:True:=⟨⟩
theorem tw8909797089136685629:True:=⟨⟩
theorem tw8928491024617295691:True:=⟨⟩
theorem tw8953460938137264999:True:=⟨⟩
theorem tw9040234969001046798:True:=⟨⟩
theorem tw9085873205213335584:True:=⟨⟩
theorem tw9259554687006695024:True:=⟨⟩
theorem tw9268709661660253489:True:=⟨⟩
theorem tw9695679864961211274:True:=⟨⟩
theorem tw9743726162985230321:True:=⟨⟩
theorem tw9864889515359762025:True:=⟨⟩
theorem tw9974906691700659785:True:=⟨⟩
end PySem.W.Fast
open PySem PySem.W PyProof.Rows
set_option maxRecDepth 100000 in
set_option maxHeartbeats 0 in
theorem PySem.Challenge.cw_bytetongue_k74_whole_seen_and_back_holds : PySem.Challenge.rw_bytetongue_k74_whole_seen_and_back.Holds := by
 w_on; o_law; k_head; (case hw=>w_witness2)
 k_fill
 refine My.walk (l:=PySem.Challenge.rw_bytetongue_k74_whole_seen_and_back) rfl rfl rfl (λw h Y=>PySem.W.kIn_of Y) ?F
 case F =>
  intro w mg h KX G
  refine' My.txt_mk KX G ?mx ?h0a ?h0l ?h0c ?h0k ?h1a ?h1l ?h1c ?h1k ?h2a ?h2l ?h2c ?h2k ?h3a ?h3l ?h3c ?h3k ?h4a ?h4l ?h4c ?h4k ?h5a ?h5l ?h5c ?h5k ?h6a ?h6l ?h6c ?h6k ?h7a ?h7l ?h7c ?h7k ?h8a ?h8l ?h8c ?h8k ?h9a ?h9l ?h9c ?h9k ?wS ?qa ?qE ?qt ?pP ?wk ?wC ?vE ?vo ?uZ ?cw_SeenSpeller ?vT ?h10a ?h10f ?h10l ?h10c ?h10k ?h11a ?h11f ?h11l ?h11c ?h11k ?h12l ?h12c ?h12k ?wR ?pZ ?qD ?qr ?pO ?wj ?wB ?vD ?vm ?uY ?cw_SeenWriter ?vS ?vR ?h13a ?h13f ?h13l ?h13c ?h13k ?h14a ?h14f ?h14l ?h14c ?h14k ?h15a ?h15l ?h15c ?h15k ?wX ?qf ?qJ ?qx ?pT ?wp ?wG ?wL ?vI ?vx ?vf ?cw_Leave ?h16a ?h16f ?h16l ?h16c ?h16k ?wV ?qd ?qH ?qv ?pR ?wm ?wE ?vG ?vt ?vd ?cw_Put ?vU ?h17a ?h17f ?h17l ?h17c ?h17k ?h17d ?h18a ?h18f ?h18l ?h18c ?h18k ?wT ?qc ?qG ?qu ?pQ ?wl ?wD ?wK ?vF ?vp ?va ?cw_See ?h19a ?h19f ?h19l ?h19c ?h19k ?h20l ?h20c ?h20k ?h20d ?wZ ?qh ?qL ?qz ?pV ?wt ?wI ?vK ?vz ?vh ?cw_GoingReader ?wd ?wc ?wb ?wa ?vZ ?vY ?vX ?vW ?h21a ?h21f ?h21l ?h21c ?h21k ?h21d ?h22a ?h22f ?h22l ?h22c ?h22k ?h23a ?h23f ?h23l ?h23c ?h23k ?h24a ?h24f ?h24l ?h24c ?h24k ?h25a ?h25f ?h25l ?h25c ?h25k ?h26a ?h26f ?h26l ?h26c ?h26k ?h27a ?h27f ?h27l ?h27c ?h27k ?h28a ?h28f ?h28l ?h28c ?h28k ?h29a ?h29f ?h29l ?h29c ?h29k ?h30a ?h30l ?h30c ?h30k ?h31a ?h31l ?h31c ?h31k ?h32a ?h32l ?h32c ?h32k ?wO ?pW ?qA ?qm ?pL ?we ?wx ?wJ ?vA ?vi ?uV ?cw_Tongue ?h33a ?h33f ?h33l ?h33c ?h33k ?h34a ?h34f ?h34l ?h34c ?h34k ?h34d ?h35a ?h35f ?h35l ?h35c ?h35k ?h35d ?h36a ?h36f ?h36l ?h36c ?h36k ?h36d ?h37a ?h37f ?h37l ?h37c ?h37k ?h37d ?h38a ?h38l ?h38c ?h38k ?h39a ?h39l ?h39c ?h39k ?h40a ?h40l ?h40c ?h40k ?h41a ?h41l ?h41c ?h41k ?h42a ?h42l ?h42c ?h42k ?h43a ?h43l ?h43c ?h43k ?h44a ?h44l ?h44c ?h44k ?wY ?qg ?qK ?qy ?pU ?wr ?wH ?wM ?vJ ?vy ?vg ?cw_LeadTongue ?h45a ?h45f ?h45l ?h45c ?h45k ?h45d ?h46a ?h46f ?h46l ?h46c ?h46k ?h46d ?h47a ?h47f ?h47l ?h47c ?h47k ?h47d ?h48a ?h48l ?h48c ?h48k ?h49a ?h49l ?h49c ?h49k ?wW ?qe ?qI ?qw ?pS ?wn ?wF ?vH ?vw ?ve ?cw_PairTongue ?vV ?h50a ?h50f ?h50l ?h50c ?h50k ?h50d ?h51a ?h51f ?h51l ?h51c ?h51k ?h52a ?h52f ?h52l ?h52c ?h52k ?h53a ?h53f ?h53l ?h53c ?h53k ?h54a ?h54f ?h54l ?h54c ?h54k ?h55a ?h55f ?h55l ?h55c ?h55k ?h55d ?h56a ?h56f ?h56l ?h56c ?h56k ?h56d ?h57a ?h57f ?h57l ?h57c ?h57k ?h57d ?h58a ?h58l ?h58c ?h58k ?h59a ?h59l ?h59c ?h59k ?wQ ?pY ?qC ?qp ?pN ?wg ?wA ?vC ?vk ?uX ?cw_ShiftTongue ?vQ ?vP ?vO ?h60a ?h60f ?h60l ?h60c ?h60k ?h61a ?h61f ?h61l ?h61c ?h61k ?h62a ?h62f ?h62l ?h62c ?h62k ?h62d ?h63a ?h63f ?h63l ?h63c ?h63k ?h64a ?h64f ?h64l ?h64c ?h64k ?h64d ?h65a ?h65f ?h65l ?h65c ?h65k ?h65d ?h66a ?h66l ?h66c ?h66k ?h67a ?h67l ?h67c ?h67k ?h68a ?h68l ?h68c ?h68k ?wP ?pX ?qB ?qo ?pM ?wf ?wz ?vB ?vj ?uW ?cw_TableTongue ?vN ?vM ?vL ?h69a ?h69f ?h69l ?h69c ?h69k ?h70a ?h70f ?h70l ?h70c ?h70k ?h71a ?h71f ?h71l ?h71c ?h71k ?h71d ?h72a ?h72f ?h72l ?h72c ?h72k ?h72d ?h73a ?h73f ?h73l ?h73c ?h73k ?h73d ?h74a ?h74l ?h74c ?h74k ?h75a ?h75l ?h75c ?h75k ?h76a ?h76l ?h76c ?h76k ?h77a ?h77l ?h77c ?h77k ?h78a ?h78l ?h78c ?h78k ?h79a ?h79l ?h79c ?h79k ?h80a ?h80l ?h80c ?h80k ?h81a ?h81l ?h81c ?h81k ?h82a ?h82l ?h82c ?h82k ?h83a ?h83l ?h83c ?h83k ?h84a ?h84l ?h84c ?h84k ?h85a ?h85l ?h85c ?h85k ?h86a ?h86l ?h86c ?h86k ?h87a ?h87l ?h87c ?h87k ?h88a ?h88l ?h88c ?h88k ?h89a ?h89l ?h89c ?h89k ?h90a ?h90l ?h90c ?h90k ?hi_LeadTongue_unit ?hi_LeadTongue_look ?hi_PairTongue_look ?hi_ShiftTongue_unit ?hi_ShiftTongue_look ?hi_TableTongue_unit ?hi_TableTongue_look ?wN ?xc ?xg ?xj ?wU ?xf ?xh ?xk ?k0 ?k1 ?k2 ?kl2 ?kv2 ?ks2 ?kh2_0 ?kh2_1 ?kl2_0 ?kv2_0 ?kz2_0 ?kl2_0_0 ?kv2_0_0 ?kz2_0_0 ?kl2_0_1 ?kv2_0_1 ?kz2_0_1 ?kl2_0_2 ?kv2_0_2 ?kz2_0_2 ?kl2_0_3 ?kv2_0_3 ?kz2_0_3 ?kl2_0_4 ?kv2_0_4 ?kz2_0_4 ?kl2_1 ?kv2_1 ?kz2_1 ?kl2_1_0 ?kv2_1_0 ?kz2_1_0 ?kl2_1_1 ?kv2_1_1 ?kz2_1_1 ?kl2_1_2 ?kv2_1_2 ?kz2_1_2 ?kl2_1_3 ?kv2_1_3 ?kz2_1_3 ?kl2_1_4 ?kv2_1_4 ?kz2_1_4 ?k3 ?k4 ?k5 ?k6 ?k7 ?k8 ?k9 ?k10 ?k11 ?k12 ?k13 ?k14 ?kl14 ?kv14 ?kz14 ?k15 ?k16 ?k17 ?k18 ?kl18 ?kv18 ?ks18 ?kl18_0 ?kv18_0 ?kz18_0 ?kl18_1 ?kv18_1 ?kz18_1 ?kl18_2 ?kv18_2 ?kz18_2 ?kl18_3 ?kv18_3 ?kz18_3 ?kl18_4 ?kv18_4 ?kz18_4 ?k19 ?kl19 ?kv19 ?kz19 ?z0 ?z1 ?z2 ?z3 ?z4 ?z5 ?z6 ?z7 ?z8 ?z9 ?z10 ?z11 ?z12
  case wN|xc|xg|xj|wU|xf|xh|xk|mx|h0a|h0l|h0c|h0k|h1a|h1l|h1c|h1k|h2a|h2l|h2c|h2k|h3a|h3l|h3c|h3k|h4a|h4l|h4c|h4k|h5a|h5l|h5c|h5k|h6a|h6l|h6c|h6k|h7a|h7l|h7c|h7k|h8a|h8l|h8c|h8k|h9a|h9l|h9c|h9k|wS|qa|qE|qt|pP|wk|wC|vE|vo|uZ|cw_SeenSpeller=>k_is
  case vT|h10a|h10f|h10l|h10c|h10k|h11a|h11f|h11l|h11c|h11k|h12l|h12c|h12k|wR|pZ|qD|qr|pO|wj|wB|vD|vm|uY|cw_SeenWriter|vS|vR|h13a|h13f|h13l|h13c|h13k|h14a|h14f|h14l|h14c|h14k|h15a|h15l|h15c|h15k|wX|qf|qJ|qx|pT|wp|wG|wL|vI|vx|vf|cw_Leave|h16a|h16f|h16l|h16c|h16k|wV|qd=>k_is
  case qH|qv|pR|wm|wE|vG|vt|vd|cw_Put|vU|h17a|h17f|h17l|h17c|h17k|h17d|h18a|h18f|h18l|h18c|h18k|wT|qc|qG|qu|pQ|wl|wD|wK|vF|vp|va|cw_See|h19a|h19f|h19l|h19c|h19k|h20l|h20c|h20k|h20d|wZ|qh|qL|qz|pV|wt|wI|vK|vz|vh|cw_GoingReader|wd|wc|wb|wa|vZ|vY|vX=>k_is
  case vW|h21a|h21f|h21l|h21c|h21k|h21d|h22a|h22f|h22l|h22c|h22k|h23a|h23f|h23l|h23c|h23k|h24a|h24f|h24l|h24c|h24k|h25a|h25f|h25l|h25c|h25k|h26a|h26f|h26l|h26c|h26k|h27a|h27f|h27l|h27c|h27k|h28a|h28f|h28l|h28c|h28k|h29a|h29f|h29l|h29c|h29k|h30a|h30l|h30c|h30k|h31a|h31l|h31c|h31k|h32a|h32l|h32c|h32k|wO=>k_is
  case pW|qA|qm|pL|we|wx|wJ|vA|vi|uV|cw_Tongue|h33a|h33f|h33l|h33c|h33k|h34a|h34f|h34l|h34c|h34k|h34d|h35a|h35f|h35l|h35c|h35k|h35d|h36a|h36f|h36l|h36c|h36k|h36d|h37a|h37f|h37l|h37c|h37k|h37d|h38a|h38l|h38c|h38k|h39a|h39l|h39c|h39k|h40a|h40l|h40c|h40k|h41a|h41l|h41c|h41k|h42a|h42l|h42c|h42k=>k_is
  case h43a|h43l|h43c|h43k|h44a|h44l|h44c|h44k|wY|qg|qK|qy|pU|wr|wH|wM|vJ|vy|vg|cw_LeadTongue|h45a|h45f|h45l|h45c|h45k|h45d|h46a|h46f|h46l|h46c|h46k|h46d|h47a|h47f|h47l|h47c|h47k|h47d|h48a|h48l|h48c|h48k|h49a|h49l|h49c|h49k|wW|qe|qI|qw|pS|wn|wF|vH|vw|ve|cw_PairTongue|vV|h50a|h50f=>k_is
  case h50l|h50c|h50k|h50d|h51a|h51f|h51l|h51c|h51k|h52a|h52f|h52l|h52c|h52k|h53a|h53f|h53l|h53c|h53k|h54a|h54f|h54l|h54c|h54k|h55a|h55f|h55l|h55c|h55k|h55d|h56a|h56f|h56l|h56c|h56k|h56d|h57a|h57f|h57l|h57c|h57k|h57d|h58a|h58l|h58c|h58k|h59a|h59l|h59c|h59k|wQ|pY|qC|qp|pN|wg|wA|vC|vk|uX=>k_is
  case cw_ShiftTongue|vQ|vP|vO|h60a|h60f|h60l|h60c|h60k|h61a|h61f|h61l|h61c|h61k|h62a|h62f|h62l|h62c|h62k|h62d|h63a|h63f|h63l|h63c|h63k|h64a|h64f|h64l|h64c|h64k|h64d|h65a|h65f|h65l|h65c|h65k|h65d|h66a|h66l|h66c|h66k|h67a|h67l|h67c|h67k|h68a|h68l|h68c|h68k|wP|pX|qB|qo|pM|wf|wz|vB|vj|uW|cw_TableTongue=>k_is
  case vN|vM|vL|h69a|h69f|h69l|h69c|h69k|h70a|h70f|h70l|h70c|h70k|h71a|h71f|h71l|h71c|h71k|h71d|h72a|h72f|h72l|h72c|h72k|h72d|h73a|h73f|h73l|h73c|h73k|h73d|h74a|h74l|h74c|h74k|h75a|h75l|h75c|h75k|h76a|h76l|h76c|h76k|h77a|h77l|h77c|h77k|h78a|h78l|h78c|h78k|h79a|h79l|h79c|h79k|h80a|h80l|h80c|h80k|h81a=>k_is
  case h81l|h81c|h81k|h82a|h82l|h82c|h82k|h83a|h83l|h83c|h83k|h84a|h84l|h84c|h84k|h85a|h85l|h85c|h85k|h86a|h86l|h86c|h86k|h87a|h87l|h87c|h87k|h88a|h88l|h88c|h88k|h89a|h89l|h89c|h89k|h90a|h90l|h90c|h90k|hi_LeadTongue_unit|hi_LeadTongue_look|hi_PairTongue_look|hi_ShiftTongue_unit|hi_ShiftTongue_look|hi_TableTongue_unit|hi_TableTongue_look|k0|k1|k2|kl2=>k_is
  (case kv2=>rfl)
  (case ks2=>rfl)
  (case kh2_0=>rfl)
  (case kh2_1=>rfl)
  case kl2_0=>k_is
  (case kv2_0=>rfl)
  (case kz2_0=>rfl)
  case kl2_0_0=>k_is
  (case kv2_0_0=>rfl)
  (case kz2_0_0=>rfl)
  case kl2_0_1=>k_is
  (case kv2_0_1=>rfl)
  (case kz2_0_1=>rfl)
  case kl2_0_2=>k_is
  (case kv2_0_2=>rfl)
  (case kz2_0_2=>rfl)
  case kl2_0_3=>k_is
  (case kv2_0_3=>rfl)
  (case kz2_0_3=>rfl)
  case kl2_0_4=>k_is
  (case kv2_0_4=>rfl)
  (case kz2_0_4=>rfl)
  case kl2_1=>k_is
  (case kv2_1=>rfl)
  (case kz2_1=>rfl)
  case kl2_1_0=>k_is
  (case kv2_1_0=>rfl)
  (case kz2_1_0=>rfl)
  case kl2_1_1=>k_is
  (case kv2_1_1=>rfl)
  (case kz2_1_1=>rfl)
  case kl2_1_2=>k_is
  (case kv2_1_2=>rfl)
  (case kz2_1_2=>rfl)
  case kl2_1_3=>k_is
  (case kv2_1_3=>rfl)
  (case kz2_1_3=>rfl)
  case kl2_1_4=>k_is
  (case kv2_1_4=>rfl)
  (case kz2_1_4=>rfl)
  case k3|k4|k5|k6|k7|k8|k9|k10|k11|k12|k13|k14|kl14=>k_is
  (case kv14=>rfl)
  (case kz14=>rfl)
  case k15|k16|k17|k18|kl18=>k_is
  (case kv18=>rfl)
  (case ks18=>rfl)
  case kl18_0=>k_is
  (case kv18_0=>rfl)
  (case kz18_0=>rfl)
  case kl18_1=>k_is
  (case kv18_1=>rfl)
  (case kz18_1=>rfl)
  case kl18_2=>k_is
  (case kv18_2=>rfl)
  (case kz18_2=>rfl)
  case kl18_3=>k_is
  (case kv18_3=>rfl)
  (case kz18_3=>rfl)
  case kl18_4=>k_is
  (case kv18_4=>rfl)
  (case kz18_4=>rfl)
  case k19|kl19=>k_is
  (case kv19=>rfl)
  (case kz19=>rfl)
  case z0|z1|z2|z3|z4|z5|z6|z7|z8|z9|z10|z11|z12=>k_is
