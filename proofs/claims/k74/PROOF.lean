import PyProof.Rows.All
import Wide.All
import OpenK.AllK
import Wide.FinOn
import Lean
import PyProof.EqAt
import PyProof.EqKinds
import PyProof.TupleCall
import PySem.Challenge.RW_bytetongue_k74_whole_seen_and_back
set_option Elab.async false
set_option linter.all false
set_option maxRecDepth 100000
namespace L2
open PySem PySem.Spec PyProof.Rows
abbrev Key:=Sum Int Str
def e7h:Key->Value->Bool
 | .inl k,v=>Value.isInt k v
 | .inr x,v=>Value.isStrOf x v
def h5g(w:World):Key->Int
 | .inl k=>hashInt k
 | .inr x=>hashStr w x
theorem a6o : ∀ {k:Key} {v:Value},e7h k v=true->(∃ i t,k=Sum.inl i/\v=Value.int i t)\/(∃ x t,k=Sum.inr x/\v=Value.str x t)
 | .inl i,v,h=>by
  obtain⟨t,e⟩:=Value.isInt_shape (k:=i) (v:=v) h
  exact .inl ⟨i,t,rfl,e⟩
 | .inr x,v,h=>by
  obtain⟨t,e⟩:=Value.isStrOf_shape (x:=x) (v:=v) h
  exact .inr ⟨x,t,rfl,e⟩
theorem f1h(i:Int)(t:Tok):e7h (.inl i) (.int i t)=true:=by simp[e7h,Value.isInt]
theorem f1g(x:Str)(t:Tok):e7h (.inr x) (.str x t)=true:=by simp[e7h,Value.isStrOf]
theorem g7j(a b:Int):decide ((Sum.inl a:Key)=Sum.inl b)=(a == b):=by
 by_cases e:a=b
 ·subst e; simp
 ·have h : ¬ (Sum.inl a:Key)=Sum.inl b:=fun q=>e (Sum.inl.inj q)
  rw[decide_eq_false h]
  exact (beq_eq_false_iff_ne.mpr e).symm
theorem g7g(a b:Str):decide ((Sum.inr a:Key)=Sum.inr b)=decide (a=b):=by
 by_cases e:a=b
 ·subst e; simp
 ·have h : ¬ (Sum.inr a:Key)=Sum.inr b:=fun q=>e (Sum.inr.inj q)
  rw[decide_eq_false h,decide_eq_false e]
theorem g7i(a:Int)(b:Str):decide ((Sum.inl a:Key)=Sum.inr b)=false:=decide_eq_false (fun q=>nomatch q)
theorem g7h(a:Str)(b:Int):decide ((Sum.inr a:Key)=Sum.inl b)=false:=decide_eq_false (fun q=>nomatch q)
def a3q(prog:Program)(w:World):PySem.KeyKind prog w Key where
 is:=e7h
 hash:=h5g w
 inj:=fun v a b ha hb=>by
  rcases a6o ha with ⟨i,t,rfl,rfl⟩ | ⟨x,t,rfl,rfl⟩
  ·rcases a6o hb with ⟨j,u,rfl,e⟩ | ⟨y,u,rfl,e⟩
   ·injection e with e1 _; rw[e1]
   ·exact nomatch e
  ·rcases a6o hb with ⟨j,u,rfl,e⟩ | ⟨y,u,rfl,e⟩
   ·exact nomatch e
   ·injection e with e1 _; rw[e1]
 byValue:=fun k v h=>by
  rcases a6o h with ⟨i,t,rfl,rfl⟩ | ⟨x,t,rfl,rfl⟩ <;> rfl
 pyHash:=fun hv h=>by
  rcases a6o hv with ⟨i,t,rfl,rfl⟩ | ⟨x,t,rfl,rfl⟩
  ·exact wpAny_pyHash_int h
  ·exact wpAny_pyHash_str h
 eqBool:=fun hu hv h=>by
  rcases a6o hu with ⟨i,t,rfl,rfl⟩ | ⟨x,t,rfl,rfl⟩
  ·rcases a6o hv with ⟨j,u,rfl,rfl⟩ | ⟨y,u,rfl,rfl⟩
   ·rw[g7j]at h; exact wpAny_eqBool_int h
   ·rw[g7i]at h; exact SeqAt.EqAt.int_str i t y u _ _ _ _ h
  ·rcases a6o hv with ⟨j,u,rfl,rfl⟩ | ⟨y,u,rfl,rfl⟩
   ·rw[g7h]at h; exact SeqAt.EqAt.str_int x t j u _ _ _ _ h
   ·rw[g7g]at h; exact wpAny_eqBool_str h
 «strs»:=fun k x t v h=>by
  rcases a6o h with ⟨i,u,rfl,e⟩ | ⟨y,u,rfl,e⟩
  ·exact nomatch e
  ·injection e with e1 _
   subst e1
   cases v <;> rfl
theorem c3r(prog:Program)(w:World)(i:Int)(t:Tok):(a3q prog w).is (.inl i) (.int i t)=true:=f1h i t
theorem d0n(prog:Program)(w:World)(x:Str)(t:Tok):(a3q prog w).is (.inr x) (.str x t)=true:=f1g x t
inductive V where
 | non | bl (b:Bool) | int (i:Int) | str (x:Str) | byt (b:Array UInt8) | flt (b:UInt64) | ref (a:Addr) | ty (n:String)
 deriving DecidableEq
def a8c:V->Value->Prop
 | .non,u=>u=Value.none
 | .bl b,u=>u=Value.bool b
 | .int i,u=>∃ t,u=Value.int i t
 | .str x,u=>∃ t,u=Value.str x t
 | .byt b,u=>∃ t,u=Value.bytes b t
 | .flt b,u=>∃ t,u=Value.float b t
 | .ref a,u=>u=Value.ref a
 | .ty n,u=>u=Value.type n
abbrev a5s:List V->List Value->Prop:=Paired a8c
theorem a5s.length{xs:List V}{us:List Value}(r:a5s xs us):xs.length=us.length:=Paired.length r
theorem a5s.get : ∀ {xs:List V} {us:List Value} {i:Nat} {x:V},a5s xs us->xs[i]? = some x->∃ u,us[i]? = some u/\a8c x u
 | _,_,_,_,.nil,e=>by simp at e
 | _,_,0,_,.cons r _,e=>by simp at e; subst e; exact⟨_,rfl,r⟩
 | _,_,i+1,x,.cons _ t,e=>by
  obtain⟨u,h1,h2⟩:=a5s.get (i:=i) (x:=x) t (by simpa using e)
  exact⟨u,by simpa using h1,h2⟩
theorem a5s.append : ∀ {xs ys:List V} {us ws:List Value},a5s xs us->a5s ys ws->a5s (xs++ys) (us++ws)
 | _,_,_,_,.nil,s=>s
 | _,_,_,_,.cons r t,s=>.cons r (a5s.append t s)
theorem a5s.take : ∀ {xs:List V} {us:List Value} (n:Nat),a5s xs us->a5s (xs.take n) (us.take n)
 | _,_,0,_=>.nil
 | _,_,_+1,.nil=>.nil
 | _,_,n+1,.cons r t=>.cons r (a5s.take n t)
theorem a5s.drop : ∀ {xs:List V} {us:List Value} (n:Nat),a5s xs us->a5s (xs.drop n) (us.drop n)
 | _,_,0,r=>r
 | _,_,_+1,.nil=>.nil
 | _,_,n+1,.cons _ t=>a5s.drop n t
def d8o:Option V->Option Value->Prop
 | some v,some u=>a8c v u
 | none,none=>True
 | _,_=>False
def KV{κ:Type}:List (κ × V)->List (κ × Value)->Prop:=Paired fun (p:κ × V) (q:κ × Value)=>p.1=q.1/\a8c p.2 q.2
def kV:Key->V
 | .inl i=>.int i
 | .inr x=>.str x
inductive HO where
 | lst (xs:List V)
 | tup (xs:List V)
 | dK (kvs:List (Key × V)) | dT (kvs:List (List Key × V))
 | set (S:Int->Bool) (n:Nat)
 | ins (C dx:Addr) (fs:List (Str × V))
 | own (x:Addr)
 | xd (fs:List (Str × V))
 | met (f x:Addr)
 | rng (lo hi:Int)
 | frz (o:Obj) (u:HO)
 | tbl (ps:Array Value)
 | ext (φ:Heap->Prop)
abbrev Hp:=Addr->Option HO
def upd(H:Hp)(a:Addr)(o:HO):Hp:=fun b=>if b=a then some o else H b
theorem a0v{H:Hp}{a:Addr}{o:HO}:upd H a o a=some o:=by unfold upd; rw[if_pos rfl]
theorem a1c{H:Hp}{a b:Addr}{o:HO}(h:b≠a):upd H a o b=H b:=by unfold upd; rw[if_neg h]
theorem h0m{H:Hp}{a b:Addr}{o u:HO}(h:H a=some o)(h':H b=some u)(d:o≠u):a≠b:=by
 intro e; subst e; rw[h]at h'; exact d (Option.some.inj h')
theorem a0l{H:Hp}{a b:Addr}{o:HO}(h:H a=some o)(h':H b=none):a≠b:=by
 intro e; subst e; rw[h]at h'; cases h'
section
variable (P:Program)(w:World)
def a8r(H:Hp)(h:Heap)(a:Addr):HO->Prop
 | .lst xs=>xs.length<=sizeLine/\∃ (its:List Value) (n:Nat),a5s xs its/\h.get? a=some { cls:=.type "list",data:=.seq its.toArray n }
 | .tup xs=>xs.length<=sizeLine/\∃ its:List Value,a5s xs its/\IsTup h a its.toArray
 | .dK kvs=>kvs.length<=sizeLine/\(a == sysModules)=false/\∃ vs,KV kvs vs/\h.DictOf (a3q P w) a vs
 | .dT kvs=>kvs.length<=sizeLine/\(a == sysModules)=false/\∃ xs:List (List Key × Addr × Value),
  Paired (fun (p:List Key × V) (q:List Key × Addr × Value)=>p.1=q.1/\H q.2.1=some (.tup (p.1.map kV))/\a8c p.2 q.2.2) kvs xs /\
  ∃ o es ep,h.get? a=some o/\o.ExactDict/\o.data=.dict es ep/\es.toList=xs.map (entryOfKey (tupleKind (a3q P w)))/\(xs.map (·.1)).Nodup
 | .set S n=>h.SetOf (intKind P w) a S n
 | .ins C dx fs=>H dx=some (.own a)/\fs.length<=1000/\dx≠a/\h.get? a=some (W.instObj C dx) /\
  ∃ mA,h.Ns1 dx mA/\(∀ f,d8o (fs.lookup f) (mA f))/\PySem.Within mA (fs.map (·.1))
 | .own _=>∃ o,h.get? a=some o
 | .xd fs=>∃ mA,h.Ns1 a mA/\∀ f,d8o (fs.lookup f) (mA f)
 | .rng lo hi=>∃ t u v,h.get? a=some { cls:=.type "range",data:=.fields #[.int lo t,.int hi u,.int 1 v] }
 | .frz o u=>h.get? a=some o/\a8r H h a u
 | .tbl ps=>h.get? a=some { cls:=.none,data:=.fields ps }
 | .met f x=>h.get? a=some (W.methodObj (.ref f) (.ref x))
 | .ext φ=>φ h/\(∃ o,h.get? a=some o)/\∀ h1 h2:Heap,φ h1->(∀ o,h1.get? a=some o->h2.get? a=some o)->φ h2
def HOk(H:Hp)(h:Heap):Prop:=∀ a o,H a=some o->a8r P w H h a o
end
section
variable {P:Program}{w:World}{H H':Hp}{h h':Heap}{a:Addr}{o:HO}
theorem a8r.lt(x:a8r P w H h a o):a < h.objs.size:=by
 cases o with
 | lst xs=>obtain⟨_,_,_,_,e⟩:=x; exact Heap.lt_size e
 | tup xs=>obtain⟨_,_,_,p⟩:=x; exact p.lt
 | dK kvs=>obtain⟨_,_,_,_,o,_,_,e,_⟩:=x; exact Heap.lt_size e
 | dT kvs=>obtain⟨_,_,_,_,o,_,_,e,_⟩:=x; exact Heap.lt_size e
 | set S n=>obtain⟨o,_,_,_,e,_⟩:=x; exact Heap.lt_size e
 | ins C dx fs=>obtain⟨_,_,_,e,_⟩:=x; exact Heap.lt_size e
 | own y=>obtain⟨_,e⟩:=x; exact Heap.lt_size e
 | xd fs=>obtain⟨_,⟨_,_,_,e,_⟩,_⟩:=x; exact Heap.lt_size e
 | rng lo hi=>obtain⟨_,_,_,e⟩:=x; exact Heap.lt_size e
 | frz ob u=>obtain⟨e,_⟩:=x; exact Heap.lt_size e
 | tbl ps=>exact Heap.lt_size (show h.get? a=some _ from x)
 | met f y=>exact Heap.lt_size (show h.get? a=some _ from x)
 | ext φ=>obtain⟨_,⟨_,e⟩,_⟩:=x; exact Heap.lt_size e
theorem Paired.mapP{α β:Type}{F G:α->β->Prop} : ∀ {l₁:List α} {l₂:List β},Paired F l₁ l₂->(∀ a b,F a b->G a b)->Paired G l₁ l₂
 | _,_,.nil,_=>.nil
 | _,_,.cons r t,f=>.cons (f _ _ r) (Paired.mapP t f)
theorem a8r.stay(x:a8r P w H h a o)(k : ∀ b u,(b=a\/H b=some (.own a))->h.get? b=some u->h'.get? b=some u)
 (ho : ∀ b,H b=some (.own a)->H' b=some (.own a)) (ht : ∀ b xs,H b=some (.tup xs)->H' b=some (.tup xs)):a8r P w H' h' a o:=by
 induction o with
 | lst xs=>obtain⟨z,its,n,r,e⟩:=x; exact⟨z,its,n,r,k _ _ (.inl rfl) e⟩
 | tup xs=>obtain⟨z,its,r,ob,e,c⟩:=x; exact⟨z,its,r,ob,k _ _ (.inl rfl) e,c⟩
 | dK kvs=>obtain⟨z,y,vs,r,ob,es,ep,e,c⟩:=x; exact⟨z,y,vs,r,ob,es,ep,k _ _ (.inl rfl) e,c⟩
 | dT kvs =>
  obtain⟨z,y,xs,r,ob,es,ep,e,c⟩:=x
  exact⟨z,y,xs,Paired.mapP r fun p q z=>⟨z.1,ht _ _ z.2.1,z.2.2⟩,ob,es,ep,k _ _ (.inl rfl) e,c⟩
 | set S n=>obtain⟨ob,es,ep,t,e,c⟩:=x; exact⟨ob,es,ep,t,k _ _ (.inl rfl) e,c⟩
 | ins C dx fs =>
  obtain⟨d,z,ne,e,mA,⟨od,es,ep,e2,c⟩,r⟩:=x
  exact⟨ho _ d,z,ne,k _ _ (.inl rfl) e,mA,⟨od,es,ep,k _ _ (.inr d) e2,c⟩,r⟩
 | own y=>obtain⟨ob,e⟩:=x; exact⟨ob,k _ _ (.inl rfl) e⟩
 | xd fs=>obtain⟨mA,⟨od,es,ep,e,c⟩,r⟩:=x; exact⟨mA,⟨od,es,ep,k _ _ (.inl rfl) e,c⟩,r⟩
 | rng lo hi=>obtain⟨t,u,v,e⟩:=x; exact⟨t,u,v,k _ _ (.inl rfl) e⟩
 | frz ob u ih=>obtain⟨e,q⟩:=x; exact⟨k _ _ (.inl rfl) e,ih q⟩
 | tbl ps =>
  have e:h.get? a=some { cls:=.none,data:=.fields ps }:=x
  show h'.get? a=some { cls:=.none,data:=.fields ps }
  exact k a _ (.inl rfl) e
 | met f y =>
  have e:h.get? a=some (W.methodObj (.ref f) (.ref y)):=x
  show h'.get? a=some (W.methodObj (.ref f) (.ref y))
  exact k a _ (.inl rfl) e
 | ext φ=>obtain⟨p,⟨o,e⟩,st⟩:=x; exact⟨st _ _ p fun o q=>k _ _ (.inl rfl) q,⟨o,k _ _ (.inl rfl) e⟩,st⟩
theorem HOk.lt(x:HOk P w H h)(e:H a=some o):a < h.objs.size:=(x a o e).lt
theorem HOk.fresh(x:HOk P w H h)(e:h.objs.size<=a):H a=none:=by
 cases q:H a with
 | none=>rfl
 | some u=>exact absurd (Nat.lt_of_lt_of_le (x.lt q) e) (Nat.lt_irrefl _)
theorem HOk.kept(x:HOk P w H h)(k : ∀ b u,h.get? b=some u->h'.get? b=some u):HOk P w H h':=fun a o e =>
 (x a o e).stay (fun b u _ q=>k b u q) (fun _ q=>q) fun _ _ q=>q
theorem HOk.laid(x:HOk P w H h)(k : ∀ b u,h.get? b=some u->h'.get? b=some u)(hp:h.objs.size<=a)(new:a8r P w (upd H a o) h' a o):HOk P w (upd H a o) h':=fun b u e=>by
 have hn:=x.fresh hp
 by_cases hb:b=a
 ·subst hb; rw[a0v]at e; cases e; exact new
 ·rw[a1c hb]at e
  exact (x b u e).stay (fun c v _ q=>k c v q) (fun c q=>by rw[a1c (a0l q hn)]; exact q) fun c xs q=>by rw[a1c (a0l q hn)]; exact q
end
def Rd(H:Hp)(a:Addr)(u:HO):Prop:=H a=some u\/∃ o,H a=some (.frz o u)
theorem Rd.ok{P:Program}{w:World}{H:Hp}{h:Heap}{a:Addr}{u:HO}(r:Rd H a u)(x:HOk P w H h):a8r P w H h a u:=by
 rcases r with r | ⟨o,r⟩
 ·exact x a u r
 ·obtain⟨_,q⟩:=x a _ r
  exact q
def Mut:Option HO->Prop
 | some (.lst _)=>True
 | some (.dK _)=>True
 | some (.dT _)=>True
 | some (.set _ _)=>True
 | some (.ins _ _ _)=>True
 | some (.ext _)=>True
 | _=>False
section
variable {P:Program}{w:World}{H:Hp}{h h':Heap}{x e:Addr}{o':HO}
theorem HOk.write(ok:HOk P w H h)(mu:Mut (H x))(he:e=x\/H e=some (.own x))(k : ∀ b u,b≠e->h.get? b=some u->h'.get? b=some u)(heo : ∃ u,h'.get? e=some u)
 (new:a8r P w (upd H x o') h' x o'):HOk P w (upd H x o') h':=fun b u q=>by
 have nown : ∀ c y,H c=some (.own y)->c≠x:=fun c y r z=>by subst z; rw[r]at mu; exact mu
 have ntup : ∀ c xs,H c=some (.tup xs)->c≠x:=fun c xs r z=>by subst z; rw[r]at mu; exact mu
 by_cases hb:b=x
 ·subst hb; rw[a0v]at q; cases q; exact new
 ·rw[a1c hb]at q
  by_cases hbe:b=e
  ·have q':H b=some (.own x):=by
    rcases he with z | z
    ·exact absurd (hbe.trans z) hb
    ·rw[hbe]; exact z
   rw[q]at q'; cases q'
   obtain⟨v,hv⟩:=heo
   exact⟨v,by rw[hbe]; exact hv⟩
  ·refine (ok b u q).stay (fun c v hc r=>k c v ?_ r) (fun c r=>by rw[a1c (nown c b r)]; exact r) fun c xs r=>by rw[a1c (ntup c xs r)]; exact r
   rcases hc with rfl | hc
   ·exact hbe
   ·rintro rfl
    rcases he with z | z
    ·exact nown c b hc z
    ·rw[hc]at z; cases z; exact hb rfl
end
structure Un (fs ex:List Addr) (H H':Hp) (h h':Heap):Prop where
 keep : ∀ b o,h.get? b=some o->H b=none->b∉fs->b∉ex->h'.get? b=some o
 slot : ∀ b o,h.get? b=some o->H b=none->b∈fs->b∉ex->∃ sl,h'.get? b=some { o with slots:=sl }
 free : ∀ b o,h.get? b=some o->H b=none->b∉ex->H' b=none
 there : ∀ b o,h.get? b=some o->b∉ex->∃ o',h'.get? b=some o'
 tups : ∀ b xs,H b=some (.tup xs)->H' b=some (.tup xs)
 frzs : ∀ b o u,H b=some (.frz o u)->H' b=some (.frz o u)
 tbls : ∀ b ps,H b=some (.tbl ps)->∃ more,H' b=some (.tbl (ps++more))
section
variable {fs fs' ex ex':List Addr}{H H1 H2:Hp}{h h1 h2 h':Heap}{a x e:Addr}{o:HO}
theorem Un.any(u:Un fs ex H H1 h h1){b:Addr}{ob:Obj}(q:h.get? b=some ob)(n:H b=none)(hx:b∉ex) : ∃ sl,h1.get? b=some { ob with slots:=sl }:=by
 by_cases hb:b∈fs
 ·exact u.slot b ob q n hb hx
 ·exact⟨ob.slots,u.keep b ob q n hb hx⟩
theorem Un.kept(k : ∀ b u,h.get? b=some u->h'.get? b=some u):Un fs ex H H h h' :=
 ⟨fun b ob q _ _ _=>k b ob q,fun b ob q _ _ _=>⟨ob.slots,k b ob q⟩,fun _ _ _ n _=>n,fun b ob q _=>⟨ob,k b ob q⟩,fun _ _ q=>q,fun _ _ _ q=>q,fun _ ps q=>⟨#[],by rw[q]; simp⟩⟩
theorem Un.refl:Un fs ex H H h h:=Un.kept fun _ _ q=>q
theorem Un.laid(k : ∀ b u,h.get? b=some u->h'.get? b=some u)(hp:h.objs.size<=a)(hn:H a=none):Un fs ex H (upd H a o) h h' where
 keep:=fun b u q _ _ _=>k b u q
 slot:=fun b u q _ _ _=>⟨u.slots,k b u q⟩
 free:=fun b u q n _=>by rw[a1c (Nat.ne_of_lt (Nat.lt_of_lt_of_le (Heap.lt_size q) hp))]; exact n
 there:=fun b u q _=>⟨u,k b u q⟩
 tups:=fun b xs q=>by rw[a1c (a0l q hn)]; exact q
 frzs:=fun b u xs q=>by rw[a1c (a0l q hn)]; exact q
 tbls:=fun b ps q=>⟨#[],by rw[a1c (a0l q hn),q]; simp⟩
theorem Un.write(mu:Mut (H x))(he:e=x\/H e=some (.own x))(k : ∀ b u,b≠e->h.get? b=some u->h'.get? b=some u)(heo : ∃ u,h'.get? e=some u):Un fs ex H (upd H x o) h h':=by
 have hx : ∀ b,H b=none->b≠x:=fun b n z=>by subst z; rw[n]at mu; exact mu
 have hb : ∀ b,H b=none->b≠e:=fun b n z=>by
  subst z
  rcases he with r | r
  ·exact hx b n r
  ·rw[n]at r; cases r
 have hm : ∀ b u,H b=some u->¬ Mut (some u)->b≠x:=fun b u q nm z=>by subst z; rw[q]at mu; exact nm mu
 refine⟨fun b u q n _ _=>k b u (hb b n) q,fun b u q n _ _=>⟨u.slots,k b u (hb b n) q⟩,fun b u q n _=>by rw[a1c (hx b n)]; exact n,fun b u q _=>?_,
  fun b xs q=>by rw[a1c (hm b _ q fun z=>z)]; exact q,fun b u xs q=>by rw[a1c (hm b _ q fun z=>z)]; exact q,fun b ps q=>⟨#[],by rw[a1c (hm b _ q fun z=>z),q]; simp⟩⟩
 by_cases hbe:b=e
 ·subst hbe; exact heo
 ·exact⟨u,k b u hbe q⟩
end
def trk(h:Heap)(H:Hp):List Addr:=(List.range h.objs.size).filter fun a=>(H a).isSome
def f7t(h:Heap)(H:Hp):Heap:=W.hideAll h (trk h H)
theorem f1k(h:Heap)(H:Hp):(f7t h H).objs.size=h.objs.size:=W.hideAll_size _ _
theorem f7s{h:Heap}{H:Hp}{b:Addr}{o:Obj}(e:h.get? b=some o)(n:H b=none):(f7t h H).get? b=some o :=
 W.hideAll_get _ e fun hm=>by
  have q:(H b).isSome=true:=(List.mem_filter.mp hm).2
  rw[n]at q; simp at q
theorem g2l{h:Heap}{H:Hp}{b:Addr}{o:Obj}(e:(f7t h H).get? b=some o):h.get? b=some o/\H b=none:=by
 have e':h.get? b=some o:=W.of_hideAll (trk h H) e
 refine⟨e',?_⟩
 cases q:H b with
 | none=>rfl
 | some x =>
  have hm:b∈trk h H:=List.mem_filter.mpr ⟨List.mem_range.mpr (Heap.lt_size e'),by simp[q]⟩
  have z:(f7t h H).get? b=none:=W.hideAll_none (trk h H) hm
  rw[z]at e; cases e
def g3w(g h:Heap)(L:Addr):List (Addr × Obj):=(List.range h.objs.size).filterMap fun a=>if a=L\/(g.get? a).isSome=true then none else (h.get? a).map fun o=>(a,o)
def c2u(g h:Heap)(L d:Addr):List (Addr × Obj):=(g3w g h L).filter fun p=>decide (p.1≠d)
structure Mod (K:W.Frag) (mg:Str->Option Value) (base:Heap):Prop where
 kin:K.In base
 glob:base.Ns mainGlobals mg
 blt : ∃ mb,base.Ns builtinsNs mb/\∀ x:Str,x ≠ "__name__"->mb x=bootBuiltins x
 nolimit:base.NoLimit
structure Cx where
 prog:Program
 w:World
 K:W.Frag
 mg:Str->Option Value
 base:Heap
 A:Around
 N:List Str
 s₀:Shared
 H₀:Hp
 env:Env
 outer:List Env
 stack:List Env
 ex:List Addr
 fn:Str->Bool
 calm:Bool
 pn:List (Addr × Obj)
 xe:Value->Shared->Prop
def frs(l:List Env):List Addr:=l.filterMap (·.frame)
abbrev Cx.fs(X:Cx):List Addr:=frs X.outer
def Vis(sc:Scope)(x:Str):Prop:=sc.names.lookup x=some .local\/sc.names.lookup x=some .cell\/sc.names.lookup x=some .free
def Loc(sc:Scope)(x:Str):Prop:=sc.names.lookup x=some .local\/sc.names.lookup x=some .cell
def h6g(env:Env)(h:Heap)(m:Str->Option Value)(x:Str)(u:Value):Prop :=
 (env.kindOf x=some .local/\m x=some u)\/((env.kindOf x=some .cell\/env.kindOf x=some .free)/\∃ c,env.cells.lookup x=some c/\h.IsCell c (some u))
structure Cx.Ok (X:Cx):Prop where
 mod:Mod X.K X.mg X.base
 kind:X.env.scope.kind=.function
 glob:X.env.globals=mainGlobals
 blt:X.env.builtins=builtinsNs
 above:X.s₀.heap.objs.size<=X.env.locals
 inj : ∀ x y c,X.env.cells.lookup x=some c->X.env.cells.lookup y=some c->x=y
 has : ∀ x,(X.env.kindOf x=some .cell\/X.env.kindOf x=some .free)->∃ c,X.env.cells.lookup x=some c
 cab : ∀ x c,X.fn x=true->X.env.cells.lookup x=some c->X.s₀.heap.objs.size<=c
 hd:X.calm=true->X.A.handled=none
 frames:X.A.frames=some X.stack
 stk:X.stack=X.outer\/(X.stack=X.env :: X.outer/\X.env.frame=some X.env.locals)
 exf : ∀ b∈X.ex,b≠X.env.locals/\∀ x c,X.env.cells.lookup x=some c->c≠b
 bs : ∀ b o,X.base.get? b=some o->X.s₀.heap.get? b=some o/\X.H₀ b=none
 bsz:X.base.objs.size<=X.s₀.heap.objs.size
 noex : ∀ b o,X.base.get? b=some o->b∉X.ex
 exfs : ∀ b∈X.ex,b∉X.fs
 funs:X.s₀.heap.FunFrames X.base X.outer
 frf : ∀ b∈X.fs,X.H₀ b=none
structure Inv (X:Cx) (pins:List (Addr × Obj)) (σ:List (Option V)) (H:Hp) (s:Shared):Prop where
 ok:X.Ok
 os:s.os=X.s₀.os
 bare:AllBare s.gens
 base:Un X.fs X.ex X.H₀ H X.s₀.heap s.heap
 loc : ∃ m,s.heap.Ns X.env.locals m/\∀ (i:Nat) (x:Str) (v:V),X.N[i]? = some x->σ[i]? = some (some v)->Vis X.env.scope x->∃ u,a8c v u/\h6g X.env s.heap m x u
 cell : ∀ x c,X.env.cells.lookup x=some c->∃ v,s.heap.IsCell c v
 free:H X.env.locals=none
 freeC : ∀ x c,X.env.cells.lookup x=some c->H c=none
 pin : ∀ p∈X.pn++pins,s.heap.get? p.1=some p.2/\H p.1=none/\p.1≠X.env.locals/\p.1∉X.fs/\∀ v,p.2.data ≠ .cell v
 hok:HOk X.prog X.w H s.heap
 len:σ.length=X.N.length
section
variable {X:Cx}{pins:List (Addr × Obj)}{σ:List (Option V)}{H H':Hp}{s:Shared}{h':Heap}
theorem Cx.Ok.nofr(ok:X.Ok){b:Addr}{o:Obj}(e:X.base.get? b=some o):b∉X.fs:=fun hb=>by
 have:=(ok.funs.mem hb).1
 rw[e]at this; cases this
theorem Inv.bs(I:Inv X pins σ H s) : ∀ b o,X.base.get? b=some o->s.heap.get? b=some o/\H b=none:=fun b o e =>
 ⟨I.base.keep b o (I.ok.bs b o e).1 (I.ok.bs b o e).2 (I.ok.nofr e) (I.ok.noex b o e),I.base.free b o (I.ok.bs b o e).1 (I.ok.bs b o e).2 (I.ok.noex b o e)⟩
theorem Inv.bk(I:Inv X pins σ H s) : ∀ b o,X.base.get? b=some o->s.heap.get? b=some o:=fun b o e=>(I.bs b o e).1
theorem Inv.mod(I:Inv X pins σ H s):Mod X.K X.mg X.base:=I.ok.mod
theorem Inv.kIn(I:Inv X pins σ H s):X.K.In s.heap:=I.ok.mod.kin.keeps I.bk
theorem Inv.lt(I:Inv X pins σ H s):X.env.locals < s.heap.objs.size:=let ⟨_,hn,_⟩:=I.loc; hn.lt
theorem Inv.sz(I:Inv X pins σ H s):X.s₀.heap.objs.size<=s.heap.objs.size:=Nat.le_trans I.ok.above (Nat.le_of_lt I.lt)
theorem Inv.nofs(I:Inv X pins σ H s){a:Addr}(h:s.heap.objs.size<=a):a∉X.fs:=fun hb=>by
 obtain⟨_,o,ho,_⟩:=I.ok.funs.mem hb
 exact absurd (Nat.lt_of_lt_of_le (Heap.lt_size ho) (Nat.le_trans I.sz h)) (Nat.lt_irrefl _)
theorem Inv.cne(I:Inv X pins σ H s) : ∀ x c,X.env.cells.lookup x=some c->c≠X.env.locals:=fun x c e z=>by
 obtain⟨v,o,ho,hd⟩:=I.cell x c e
 obtain⟨m,⟨o',es,ep,ho',hd',_⟩,_⟩:=I.loc
 rw[z,ho']at ho; cases ho; rw[hd']at hd; cases hd
theorem Inv.funs(I:Inv X pins σ H s):s.heap.FunFrames X.base X.outer:=by
 have all : ∀ (l:List Env),(∀ b∈frs l,b∈X.fs)->X.s₀.heap.FunFrames X.base l->s.heap.FunFrames X.base l:=by
  intro l
  induction l with
  | nil=>intro _ _; trivial
  | cons env r ih =>
   intro hs hl
   obtain⟨hk,⟨L,o,hf,hn,ho,hd⟩,hr⟩:=hl
   have hL:L∈X.fs:=hs L (by unfold frs; rw[List.filterMap_cons,hf]; exact List.mem_cons_self)
   obtain⟨sl,e⟩:=I.base.slot L o ho (I.ok.frf L hL) hL fun z=>I.ok.exfs L z hL
   exact⟨hk,⟨L,_,hf,hn,e,hd⟩,ih (fun b hb=>hs b (by unfold frs; rw[List.filterMap_cons,hf]; exact List.mem_cons_of_mem _ hb)) hr⟩
 exact all X.outer (fun _ hb=>hb) I.ok.funs
theorem Inv.stack(I:Inv X pins σ H s):s.heap.FunFrames X.base X.stack:=by
 rcases I.ok.stk with e | ⟨e,hf⟩
 ·rw[e]; exact I.funs
 ·rw[e]
  obtain⟨m,hn,_⟩:=I.loc
  refine .cons (by rw[I.ok.kind]; decide) hf hn ?_ I.funs
  exact Heap.get?_none_of_le (Nat.le_trans I.ok.bsz I.ok.above)
theorem Inv.stkSub(I:Inv X pins σ H s) : ∀ b∈frs X.stack,b∈X.env.locals :: X.fs:=fun b hb=>by
 rcases I.ok.stk with e | ⟨e,hf⟩
 ·rw[e]at hb; exact List.mem_cons_of_mem _ hb
 ·rw[e]at hb
  unfold frs at hb
  rw[List.filterMap_cons,hf]at hb
  exact hb
theorem Inv.stkFree(I:Inv X pins σ H s) : ∀ b∈frs X.stack,H b=none:=fun b hb=>by
 rcases List.mem_cons.mp (I.stkSub b hb) with e | hb
 ·rw[e]; exact I.free
 ·obtain⟨_,o,ho,_⟩:=I.ok.funs.mem hb
  exact I.base.free b o ho (I.ok.frf b hb) fun z=>I.ok.exfs b z hb
theorem Inv.step{g':Array GenState}{t':Nat}{d':Drawn}{ch:List Addr}(I:Inv X pins σ H s)
 (hch : ∀ b∈ch,(b∈X.ex\/X.s₀.heap.objs.size<=b)/\b≠X.env.locals/\(∀ x c,X.env.cells.lookup x=some c->c≠b)/\∀ p∈X.pn++pins,p.1≠b)
 (keep : ∀ b o,b≠X.env.locals->b∉X.fs->b∉ch->s.heap.get? b=some o->H b=none->h'.get? b=some o)
 (slot : ∀ b o,b≠X.env.locals->b∈X.fs->b∉ch->s.heap.get? b=some o->H b=none->∃ sl,h'.get? b=some { o with slots:=sl }) (free : ∀ b o,b∉ch->s.heap.get? b=some o->H b=none->H' b=none)
 (there : ∀ b o,b∉ch->s.heap.get? b=some o->∃ o',h'.get? b=some o')
 (tups : ∀ b xs,H b=some (.tup xs)->H' b=some (.tup xs)) (frzs : ∀ b o u,H b=some (.frz o u)->H' b=some (.frz o u)) (tbls : ∀ b ps,H b=some (.tbl ps)->∃ more,H' b=some (.tbl (ps++more)))
 (ns : ∀ m,s.heap.Ns X.env.locals m->h'.Ns X.env.locals m) (hok:HOk X.prog X.w H' h') (hg:AllBare g') :
 Inv X pins σ H' { s with heap:=h',gens:=g',drawn:=d',toks:=t' }:=by
 have neL : ∀ b o,X.s₀.heap.get? b=some o->b≠X.env.locals:=fun b o e=>Nat.ne_of_lt (Nat.lt_of_lt_of_le (Heap.lt_size e) I.ok.above)
 have neC : ∀ b o,X.s₀.heap.get? b=some o->b∉X.ex->b∉ch:=fun b o e hx hb=>by
  rcases (hch b hb).1 with z | z
  ·exact hx z
  ·exact absurd (Nat.lt_of_lt_of_le (Heap.lt_size e) z) (Nat.lt_irrefl _)
 have cellK : ∀ x c,X.env.cells.lookup x=some c->∀ v,s.heap.IsCell c v->h'.IsCell c v:=fun x c e v ⟨o,ho,hd⟩=>by
  have nch:c∉ch:=fun z=>(hch c z).2.2.1 x c e rfl
  by_cases hc:c∈X.fs
  ·obtain⟨sl,q⟩:=slot c o (I.cne x c e) hc nch ho (I.freeC x c e)
   exact⟨_,q,hd⟩
  ·exact⟨o,keep c o (I.cne x c e) hc nch ho (I.freeC x c e),hd⟩
 refine⟨I.ok,I.os,hg,⟨fun b o e n hb hx=>?_,fun b o e n hb hx=>?_,fun b o e n hx=>?_,fun b o e hx=>?_,fun b xs e=>tups b xs (I.base.tups b xs e),fun b o xs e=>frzs b o xs (I.base.frzs b o xs e),fun b ps e=>?_⟩,?_,fun x c e=>?_,?_,fun x c e=>?_,fun p hp=>?_,hok,I.len⟩
 ·exact keep b o (neL b o e) hb (neC b o e hx) (I.base.keep b o e n hb hx) (I.base.free b o e n hx)
 ·obtain⟨sl,e1⟩:=I.base.slot b o e n hb hx
  obtain⟨sl',e2⟩:=slot b _ (neL b o e) hb (neC b o e hx) e1 (I.base.free b o e n hx)
  exact⟨sl',e2⟩
 ·obtain⟨o',e1⟩:=I.base.there b o e hx
  exact free b o' (neC b o e hx) e1 (I.base.free b o e n hx)
 ·obtain⟨o',e1⟩:=I.base.there b o e hx
  exact there b o' (neC b o e hx) e1
 ·obtain⟨m1,e1⟩:=I.base.tbls b ps e
  obtain⟨m2,e2⟩:=tbls b _ e1
  exact⟨m1++m2,by rw[e2,Array.append_assoc]⟩
 ·obtain⟨m,hn,hl⟩:=I.loc
  refine⟨m,ns m hn,fun i x v e1 e2 e3=>?_⟩
  obtain⟨u,r,l⟩:=hl i x v e1 e2 e3
  refine⟨u,r,?_⟩
  rcases l with l | ⟨k,c,e,z⟩
  ·exact .inl l
  ·exact .inr ⟨k,c,e,cellK x c e _ z⟩
 ·obtain⟨v,z⟩:=I.cell x c e
  exact⟨v,cellK x c e v z⟩
 ·obtain⟨m,⟨o,_,_,ho,_⟩,_⟩:=I.loc
  exact free _ o (fun z=>(hch _ z).2.1 rfl) ho I.free
 ·obtain⟨v,o,ho,hd⟩:=I.cell x c e
  exact free c o (fun z=>(hch c z).2.2.1 x c e rfl) ho (I.freeC x c e)
 ·obtain⟨e,n,ne,nf,d⟩:=I.pin p hp
  have nch:p.1∉ch:=fun z=>(hch p.1 z).2.2.2 p hp rfl
  exact⟨keep p.1 p.2 ne nf nch e n,free p.1 p.2 nch e n,ne,nf,d⟩
theorem Inv.un{t':Nat}(I:Inv X pins σ H s)(u:Un X.fs [] H H' s.heap h')(hok:HOk X.prog X.w H' h'):Inv X pins σ H' { s with heap:=h',toks:=t' }:=by
 obtain⟨m,⟨o,es,ep,ho,r⟩,_⟩:=id I.loc
 obtain⟨sl,hL⟩:=u.any ho I.free (by simp)
 exact I.step (g':=s.gens) (d':=s.drawn) (ch:=[]) (fun _ z=>nomatch z) (fun b o _ hb _ e n=>u.keep b o e n hb (by simp)) (fun b o _ hb _ e n=>u.slot b o e n hb (by simp)) (fun b o _ e n=>u.free b o e n (by simp)) (fun b o _ e=>u.there b o e (by simp)) u.tups u.frzs u.tbls (fun m' hm=>by
  obtain⟨o',es',ep',ho',r'⟩:=hm
  rw[ho]at ho'; cases ho'
  exact⟨_,es',ep',hL,r'⟩) hok I.bare
theorem Inv.call{g':Array GenState}{t':Nat}{d':Drawn}{ch:List Addr}(I:Inv X pins σ H s)(u:Un (frs X.stack) ch H H' s.heap h')(hok:HOk X.prog X.w H' h')(hg:AllBare g')
 (hch : ∀ b∈ch,(b∈X.ex\/X.s₀.heap.objs.size<=b)/\b≠X.env.locals/\(∀ x c,X.env.cells.lookup x=some c->c≠b)/\∀ p∈X.pn++pins,p.1≠b) :
 Inv X pins σ H' { s with heap:=h',gens:=g',drawn:=d',toks:=t' }:=by
 obtain⟨m,⟨o,es,ep,ho,r⟩,_⟩:=id I.loc
 obtain⟨sl,hL⟩:=u.any ho I.free fun z=>(hch _ z).2.1 rfl
 exact I.step (ch:=ch) hch (fun b o hL hb hc e n=>u.keep b o e n (fun z=>(List.mem_cons.mp (I.stkSub b z)).elim hL hb) hc) (fun b o _ _ hc e n=>u.any e n hc) (fun b o hc e n=>u.free b o e n hc) (fun b o hc e=>u.there b o e hc) u.tups u.frzs u.tbls (fun m' hm=>by
  obtain⟨o',es',ep',ho',r'⟩:=hm
  rw[ho]at ho'; cases ho'
  exact⟨_,es',ep',hL,r'⟩) hok hg
theorem Inv.turned{t':Nat}{it:Addr}(I:Inv X pins σ H s)(k : ∀ b o,b≠it->s.heap.get? b=some o->h'.get? b=some o)(hn:H it=none)(hL:it≠X.env.locals)
 (h1:it∈X.ex\/X.s₀.heap.objs.size<=it) (h2 : ∀ x c,X.env.cells.lookup x=some c->c≠it) (h3 : ∀ p∈X.pn++pins,p.1≠it):Inv X pins σ H { s with heap:=h',toks:=t' }:=by
 have nit : ∀ b u,H b=some u->b≠it:=fun b u e z=>by rw[z,hn]at e; cases e
 refine I.step (g':=s.gens) (d':=s.drawn) (ch:=[it]) (fun b hb=>?_) (fun b o _ _ hc e _=>k b o (fun z=>hc (by simp[z])) e) (fun b o _ _ hc e _=>⟨o.slots,k b o (fun z=>hc (by simp[z])) e⟩) (fun _ _ _ _ n=>n)
  (fun b o hc e=>⟨o,k b o (fun z=>hc (by simp[z])) e⟩) (fun _ _ e=>e) (fun _ _ _ e=>e) (fun b ps e=>⟨#[],by rw[e]; simp⟩) (fun m hm=>?_) (fun b u e=>?_) I.bare
 ·have e:b=it:=by simpa using hb
  subst e
  exact⟨h1,hL,h2,h3⟩
 ·obtain⟨o,es,ep,ho,r⟩:=hm
  exact⟨o,es,ep,k _ o (Ne.symm hL) ho,r⟩
 ·refine (I.hok b u e).stay (fun c v hc q=>k c v ?_ q) (fun _ q=>q) fun _ _ q=>q
  rcases hc with z | z
  ·rw[z]; exact nit b u e
  ·exact nit c _ z
theorem Inv.tok(I:Inv X pins σ H s)(t:Nat):Inv X pins σ H { s with toks:=t }:=I.un (h':=s.heap) (t':=t) Un.refl I.hok
theorem Inv.kept{t':Nat}(I:Inv X pins σ H s)(k : ∀ b u,s.heap.get? b=some u->h'.get? b=some u):Inv X pins σ H { s with heap:=h',toks:=t' }:=I.un (Un.kept k) (I.hok.kept k)
theorem Inv.laid{a:Addr}{o:HO}{t':Nat}(I:Inv X pins σ H s)(k : ∀ b u,s.heap.get? b=some u->h'.get? b=some u)(hp:s.heap.objs.size<=a)(new:a8r X.prog X.w (upd H a o) h' a o) :
 Inv X pins σ (upd H a o) { s with heap:=h',toks:=t' }:=I.un (Un.laid k hp (I.hok.fresh hp)) (I.hok.laid k hp new)
theorem Inv.write{x e:Addr}{o:HO}{t':Nat}(I:Inv X pins σ H s)(mu:Mut (H x))(he:e=x\/H e=some (.own x))(k : ∀ b u,b≠e->s.heap.get? b=some u->h'.get? b=some u)(heo : ∃ u,h'.get? e=some u)
 (new:a8r X.prog X.w (upd H x o) h' x o):Inv X pins σ (upd H x o) { s with heap:=h',toks:=t' }:=I.un (Un.write mu he k heo) (I.hok.write mu he k heo new)
theorem Inv.pins_of{pins':List (Addr × Obj)}(I:Inv X pins σ H s)(h : ∀ p∈pins',s.heap.get? p.1=some p.2/\H p.1=none/\p.1≠X.env.locals/\p.1∉X.fs/\∀ v,p.2.data ≠ .cell v):Inv X pins' σ H s :=
 ⟨I.ok,I.os,I.bare,I.base,I.loc,I.cell,I.free,I.freeC,fun p hp=>(List.mem_append.mp hp).elim (fun z=>I.pin p (List.mem_append_left _ z)) (h p),I.hok,I.len⟩
theorem e5a{N:List Str}(hN:N.Nodup){i j:Nat}{x:Str}(a:N[i]? = some x)(b:N[j]? = some x):i=j:=by
 obtain⟨h1,e1⟩:=List.getElem?_eq_some_iff.mp a
 obtain⟨h2,e2⟩:=List.getElem?_eq_some_iff.mp b
 exact (List.getElem_inj hN).mp (e1.trans e2.symm)
theorem d9a{M:Model}{A:Around}{E:Value->Shared->Prop}{i:Nat}{x:Str}{v:V}{u:Value}{Q:Unit->Shared->Prop}(I:Inv X pins σ H s)(hN:X.N.Nodup)(hi:X.N[i]? = some x)(hx:Loc X.env.scope x)(r:a8c v u)
 (h : ∀ s',Inv X pins (σ.set i (some v)) H s'->(∃ a,Heap.SameBut a s.heap s'.heap/\(a=X.env.locals\/X.env.cells.lookup x=some a))->Q () s') (hf:X.fn x=true\/X.env.scope.names.lookup x=some .local:=by first | exact .inl rfl | exact .inr rfl | assumption):wpAny M A (storeName X.env x u) Q E s:=by
 obtain⟨m,hn,hl⟩:=id I.loc
 have hcls:(X.env.scope.kind == .class || (X.env.scope.kind == .module && X.env.locals != X.env.globals))=false:=by rw[I.ok.kind]; rfl
 have hiσ:i < σ.length:=by rw[I.len]; exact (List.getElem?_eq_some_iff.mp hi).1
 have cne:=I.cne
 have tracked : ∀ {a:Addr} {h':Heap},(∃ o,s.heap.get? a=some o/\H a=none)->Heap.SameBut a s.heap h'->HOk X.prog X.w H h':=fun {a h'} ha hs b ob e=>by
  obtain⟨_,_,hfree⟩:=ha
  refine (I.hok b ob e).stay (fun c w' hc q=>(hs.2 c ?_).trans q) (fun _ q=>q) fun _ _ q=>q
  rintro rfl
  rcases hc with rfl | hc
  ·rw[hfree]at e; cases e
  ·rw[hfree]at hc; cases hc
 rcases hx with hk | hk
 ·refine wpAny_storeName_local hk hn (fun h' hn' hs=>?_) hcls
  obtain⟨oL,_,_,hoL,_⟩:=id hn
  refine h _ ⟨I.ok,I.os,I.bare,⟨fun b o e n hb hx=>?_,fun b o e n hb hx=>?_,I.base.free,fun b o e hx=>?_,I.base.tups,I.base.frzs,I.base.tbls⟩,⟨_,hn',fun j y v' e1 e2 e3=>?_⟩,fun y c e=>?_,I.free,I.freeC,fun p hp=>?_,tracked ⟨oL,hoL,I.free⟩ hs,by simpa using I.len⟩ ⟨_,hs,.inl rfl⟩
  ·exact (hs.2 b (Nat.ne_of_lt (Nat.lt_of_lt_of_le (Heap.lt_size e) I.ok.above))).trans (I.base.keep b o e n hb hx)
  ·obtain⟨sl,e1⟩:=I.base.slot b o e n hb hx
   exact⟨sl,(hs.2 b (Nat.ne_of_lt (Nat.lt_of_lt_of_le (Heap.lt_size e) I.ok.above))).trans e1⟩
  ·obtain⟨o',e1⟩:=I.base.there b o e hx
   exact⟨o',(hs.2 b (Nat.ne_of_lt (Nat.lt_of_lt_of_le (Heap.lt_size e) I.ok.above))).trans e1⟩
  ·by_cases hj:j=i
   ·subst hj
    rw[hi]at e1; cases e1
    rw[List.getElem?_set_self hiσ]at e2
    cases e2
    exact⟨u,r,.inl ⟨hk,by simp⟩⟩
   ·rw[List.getElem?_set_ne (Ne.symm hj)]at e2
    obtain⟨u',r',q⟩:=hl j y v' e1 e2 e3
    refine⟨u',r',?_⟩
    rcases q with ⟨k,e⟩ | ⟨k,c,e,z⟩
    ·refine .inl ⟨k,?_⟩
     have:y≠x:=fun e=>hj (e5a hN e1 (e ▸ hi))
     simp[this,e]
    ·exact .inr ⟨k,c,e,z.sameBut hs (cne y c e)⟩
  ·obtain⟨w',z⟩:=I.cell y c e
   exact⟨w',z.sameBut hs (cne y c e)⟩
  ·obtain⟨e,n,ne,nf,d⟩:=I.pin p hp
   exact⟨(hs.2 p.1 ne).trans e,n,ne,nf,d⟩
 ·have hfn:X.fn x=true:=by
   rcases hf with z | z
   ·exact z
   ·rw[z]at hk; cases hk
  obtain⟨c,hc⟩:=I.ok.has x (.inl hk)
  obtain⟨w',z⟩:=I.cell x c hc
  refine wpAny_storeName_cell I.ok.kind hk hc z (fun h' hc' hs=>?_)
  obtain⟨oc,hoc,hocd⟩:=id z
  refine h { s with heap:=h' } ⟨I.ok,I.os,I.bare,⟨fun b o e n hb hx=>?_,fun b o e n hb hx=>?_,I.base.free,fun b o e hx=>?_,I.base.tups,I.base.frzs,I.base.tbls⟩,⟨m,hn.sameBut hs (Ne.symm (cne x c hc)),fun j y v' e1 e2 e3=>?_⟩,fun y c' e=>?_,I.free,I.freeC,fun p hp=>?_,tracked ⟨oc,hoc,I.freeC x c hc⟩ hs,by simpa using I.len⟩ ⟨c,hs,.inr hc⟩
  ·exact (hs.2 b (Nat.ne_of_lt (Nat.lt_of_lt_of_le (Heap.lt_size e) (I.ok.cab x c hfn hc)))).trans (I.base.keep b o e n hb hx)
  ·obtain⟨sl,e1⟩:=I.base.slot b o e n hb hx
   exact⟨sl,(hs.2 b (Nat.ne_of_lt (Nat.lt_of_lt_of_le (Heap.lt_size e) (I.ok.cab x c hfn hc)))).trans e1⟩
  ·obtain⟨o',e1⟩:=I.base.there b o e hx
   exact⟨o',(hs.2 b (Nat.ne_of_lt (Nat.lt_of_lt_of_le (Heap.lt_size e) (I.ok.cab x c hfn hc)))).trans e1⟩
  ·by_cases hj:j=i
   ·subst hj
    rw[hi]at e1; cases e1
    rw[List.getElem?_set_self hiσ]at e2
    cases e2
    exact⟨u,r,.inr ⟨.inl hk,c,hc,hc'⟩⟩
   ·rw[List.getElem?_set_ne (Ne.symm hj)]at e2
    obtain⟨u',r',q⟩:=hl j y v' e1 e2 e3
    refine⟨u',r',?_⟩
    rcases q with q | ⟨k,c',e,z'⟩
    ·exact .inl q
    ·refine .inr ⟨k,c',e,z'.sameBut hs ?_⟩
     rintro rfl
     exact hj (e5a hN e1 (I.ok.inj _ _ _ e hc ▸ hi))
  ·by_cases hcc:c'=c
   ·subst hcc; exact⟨_,hc'⟩
   ·obtain⟨w2,z2⟩:=I.cell y c' e
    exact⟨w2,z2.sameBut hs hcc⟩
  ·obtain⟨e,n,ne,nf,d⟩:=I.pin p hp
   refine⟨(hs.2 p.1 ?_).trans e,n,ne,nf,d⟩
   intro q
   rw[q,hoc]at e
   have q':oc=p.2:=Option.some.inj e
   exact d w' (by rw[<- q']; exact hocd)
theorem e4m{M:Model}{A:Around}{E:Value->Shared->Prop}{i:Nat}{x:Str}{v:V}{u:Value}{Q:Unit->Shared->Prop}(I:Inv X pins σ H s)(hN:X.N.Nodup)(hi:X.N[i]? = some x)(hx:Loc X.env.scope x)(r:a8c v u)
 (h : ∀ s',Inv X pins (σ.set i (some v)) H s'->Q () s') (hf:X.fn x=true\/X.env.scope.names.lookup x=some .local:=by first | exact .inl rfl | exact .inr rfl | assumption):wpAny M A (storeName X.env x u) Q E s :=
 d9a I hN hi hx r (fun s' I' _=>h s' I') hf
theorem Inv.call'{s':Shared}{ch:List Addr}(I:Inv X pins σ H s)(ho:s'.os=s.os)(u:Un (frs X.stack) ch H H' s.heap s'.heap)(hok:HOk X.prog X.w H' s'.heap)(hg:AllBare s'.gens)
 (hch : ∀ b∈ch,(b∈X.ex\/X.s₀.heap.objs.size<=b)/\b≠X.env.locals/\(∀ x c,X.env.cells.lookup x=some c->c≠b)/\∀ p∈X.pn++pins,p.1≠b):Inv X pins σ H' s':=by
 obtain⟨h',g',d',t',o'⟩:=s'
 have e:o'=s.os:=ho
 subst e
 exact I.call (g':=g') (t':=t') (d':=d') u hok hg hch
end
abbrev XK:=Value->Option Addr->Hp->Prop
abbrev St:=List (Option V)
abbrev VK:=V->Hp->Prop
abbrev TE:=St->Hp->VK->Prop
abbrev TT:=St->Hp->(Bool->Hp->Prop)->Prop
abbrev TA:=St->Hp->(List V->Hp->Prop)->Prop
structure f4z where
 nx:St->Hp->Prop
 rt:VK
 bk:St->Hp->Prop:=fun _ _=>False
 ct:St->Hp->Prop:=fun _ _=>False
abbrev TS:=f4z->St->Hp->Prop
def EP(X:Cx)(pins:List (Addr × Obj))(σ:St)(Q:VK)(u:Value)(s':Shared):Prop:=∃ v H',Inv X pins σ H' s'/\a8c v u/\Q v H'
def TP(X:Cx)(pins:List (Addr × Obj))(σ:St)(Q:Bool->Hp->Prop)(b:Bool)(s':Shared):Prop:=∃ H',Inv X pins σ H' s'/\Q b H'
def AP(X:Cx)(pins:List (Addr × Obj))(σ:St)(Q:List V->Hp->Prop)(us:List Value)(s':Shared):Prop:=∃ vs H',Inv X pins σ H' s'/\a5s vs us/\Q vs H'
def SP(X:Cx)(pins:List (Addr × Obj))(D:f4z)(f:Flow)(s':Shared):Prop :=
 match f with
 | .next=>∃ σ' H',Inv X pins σ' H' s'/\D.nx σ' H'
 | .brk=>∃ σ' H',Inv X pins σ' H' s'/\D.bk σ' H'
 | .cont=>∃ σ' H',Inv X pins σ' H' s'/\D.ct σ' H'
 | .ret u=>∃ v σ' H',Inv X pins σ' H' s'/\a8c v u/\D.rt v H'
def PE(X:Cx)(e:Expr)(t:TE):Prop :=
 ∀ (pins:List (Addr × Obj)) (s:Shared) (σ:St) (H:Hp) (Q:VK),Inv X pins σ H s->t σ H Q->wpAny (model X.prog X.w) X.A (eval e X.env) (EP X pins σ Q) X.xe s
def PT(X:Cx)(e:Expr)(t:TT):Prop :=
 ∀ (pins:List (Addr × Obj)) (s:Shared) (σ:St) (H:Hp) (Q:Bool->Hp->Prop),Inv X pins σ H s->t σ H Q->wpAny (model X.prog X.w) X.A (isTrue e X.env (eval e X.env)) (TP X pins σ Q) X.xe s
def PW(X:Cx)(e:Expr)(t:TT):Prop :=
 ∀ (whole:Sem Value) (pins:List (Addr × Obj)) (s:Shared) (σ:St) (H:Hp) (Q:Bool->Hp->Prop),Inv X pins σ H s->t σ H Q->wpAny (model X.prog X.w) X.A (isTrue e X.env whole) (TP X pins σ Q) X.xe s
theorem PW.pt{X:Cx}{e:Expr}{t:TT}(h:PW X e t):PT X e t:=h _
def PA(X:Cx)(es:List Expr)(t:TA):Prop :=
 ∀ (pos:Pos) (pins:List (Addr × Obj)) (s:Shared) (σ:St) (H:Hp) (Q:List V->Hp->Prop),Inv X pins σ H s->t σ H Q->wpAny (model X.prog X.w) X.A (spliced (backTo pos (starEach es X.env))) (AP X pins σ Q) X.xe s
def PS(X:Cx)(st:Stmt)(t:TS):Prop :=
 ∀ (pins:List (Addr × Obj)) (s:Shared) (σ:St) (H:Hp) (D:f4z),Inv X pins σ H s->t D σ H->wpAny (model X.prog X.w) X.A (exec st X.env) (SP X pins D) X.xe s
def PSs(X:Cx)(st:List Stmt)(t:TS):Prop :=
 ∀ (pins:List (Addr × Obj)) (s:Shared) (σ:St) (H:Hp) (D:f4z),Inv X pins σ H s->t D σ H->wpAny (model X.prog X.w) X.A (execs st X.env) (SP X pins D) X.xe s
theorem thn{α:Type}{t:Sem α}{Q Q':α->Shared->Prop}{M:Model}{A:Around}{E:Value->Shared->Prop}{s:Shared}(h:wpAny M A t Q E s)(hQ : ∀ a s,Q a s->Q' a s):wpAny M A t Q' E s:=wpAny_mono h hQ fun _ _ x=>x
section
variable {X:Cx}
def h2i(i:Nat):TE:=fun σ H Q=>∃ v,σ[i]? = some (some v)/\Q v H
def tC(v:V):TE:=fun _ H Q=>Q v H
theorem f9i {i:Nat} {x:Str} {pos:Pos} (hN:X.N[i]? = some x) (hv:Vis X.env.scope x) (hd:(x == ("__debug__" : Str))=false:=by decide) (hcd:(x == ("__classdict__" : Str))=false:=by decide):PE X (.Name x pos) (h2i i):=by
 intro pins s σ H Q I h
 obtain⟨v,e,h⟩:=h
 obtain⟨m,hn,hl⟩:=I.loc
 obtain⟨u,r,l⟩:=hl i x v hN e hv
 have fin:EP X pins σ Q u s:=⟨v,H,I,r,h⟩
 rcases l with ⟨hk,hm⟩ | ⟨hk,c,hc,hcell⟩
 ·exact wpAny_Name (wpAny_loadName_local I.ok.kind hk hn hm fin) hd
 ·rcases hk with hk | hk
  ·exact wpAny_Name (wpAny_loadName_cell I.ok.kind hk hc hcell fin) hd
  ·exact wpAny_Name (wpAny_loadName_free I.ok.kind hk hc hcell fin hcd) hd
theorem e4x{i j pos}:PE X (.Constant (.int i) j pos) (tC (.int i)):=fun _ _ _ H _ I h=>wpAny_Constant_int ⟨.int i,H,I.tok _,⟨_,rfl⟩,h⟩
theorem g6f{b j pos}:PE X (.Constant (.bool b) j pos) (tC (.bl b)):=fun _ _ _ H _ I h=>Constant_bool ⟨.bl b,H,I,rfl,h⟩
theorem f9k{j pos}:PE X (.Constant .none j pos) (tC .non):=fun _ _ _ H _ I h=>Constant_none ⟨.non,H,I,rfl,h⟩
theorem f9j{x j pos}:PE X (.Constant (.str x) j pos) (tC (.str x)):=fun _ _ _ H _ I h=>Calls.Constant_str ⟨.str x,H,I.tok _,⟨_,rfl⟩,h⟩
def Gl(X:Cx)(x:Str):Prop:=X.env.kindOf x=some .globalImplicit
theorem d0s{E:Value->Shared->Prop}{pins:List (Addr × Obj)}{s:Shared}{σ:St}{H:Hp}{x:Str}{u:Value}{pos:Pos}{Q:Value->Shared->Prop}(I:Inv X pins σ H s)(hg:Gl X x)(hm:X.mg x=some u)(h:Q u s)
 (hd:(x == ("__debug__" : Str))=false:=by decide):wpAny (model X.prog X.w) X.A (eval (.Name x pos) X.env) Q E s :=
 Calls.Name_function_global I.ok.kind hg (Calls.loadGlobal_global (by rw[I.ok.glob]; exact I.mod.glob.keeps I.bk) hm h) hd
theorem c2y{E:Value->Shared->Prop}{pins:List (Addr × Obj)}{s:Shared}{σ:St}{H:Hp}{x:Str}{u:Value}{pos:Pos}{Q:Value->Shared->Prop}(I:Inv X pins σ H s)(hg:Gl X x)(hm:X.mg x=none)(hv:bootBuiltins x=some u)(h:Q u s)
 (hn:x ≠ "__name__":=by decide) (hd:(x == ("__debug__" : Str))=false:=by decide):wpAny (model X.prog X.w) X.A (eval (.Name x pos) X.env) Q E s:=by
 obtain⟨mb,h1,h2⟩:=I.mod.blt
 exact Calls.Name_function_global I.ok.kind hg (Calls.loadGlobal_builtin (by rw[I.ok.glob]; exact I.mod.glob.keeps I.bk) hm (by rw[I.ok.blt]; exact h1.keeps I.bk) ((h2 x hn).trans hv) h) hd
theorem f0n {x:Str} {v:V} {u:Value} {pos:Pos} (hg:Gl X x) (hm:X.mg x=some u) (r:a8c v u) (hd:(x == ("__debug__" : Str))=false:=by decide):PE X (.Name x pos) (tC v) :=
 fun _ _ _ H _ I h=>d0s I hg hm ⟨v,H,I,r,h⟩ hd
theorem g2f {x:Str} {v:V} {u:Value} {pos:Pos} (hg:Gl X x) (hm:X.mg x=none) (hv:bootBuiltins x=some u) (r:a8c v u) (hn:x ≠ "__name__":=by decide) (hd:(x == ("__debug__" : Str))=false:=by decide):PE X (.Name x pos) (tC v) :=
 fun _ _ _ H _ I h=>c2y I hg hm hv ⟨v,H,I,r,h⟩ hn hd
variable {a b:Expr}{ta tb:TE}{pos:Pos}
variable {tA tB':TT}{c2u:List Expr}
def h2s(t u:TT):TT:=fun σ H Q=>t σ H fun c H1=>if c=true then u σ H1 Q else Q false H1
def tOr(t u:TT):TT:=fun σ H Q=>t σ H fun c H1=>if c=true then Q true H1 else u σ H1 Q
def h2n(t:TT):TT:=fun σ H Q=>t σ H fun c H1=>Q (!c) H1
theorem g1m(ha:PT X a tA):PW X (.BoolOp .And [a] pos) tA:=by
 intro wh pins s σ H Q I h
 refine isTrue_and (thn (ha pins s σ H Q I h) fun c s1 e=>?_)
 cases c with
 | true=>exact isTrue_and_nil e
 | false=>exact e
theorem g5r(ha:PT X a tA):PW X (.BoolOp .Or [a] pos) tA:=by
 intro wh pins s σ H Q I h
 refine isTrue_or (thn (ha pins s σ H Q I h) fun c s1 e=>?_)
 cases c with
 | false=>exact isTrue_or_nil e
 | true=>exact e
theorem g5s(ha:PT X a tA)(hb:PW X (.BoolOp .And (b :: c2u) pos) tB'):PW X (.BoolOp .And (a :: b :: c2u) pos) (h2s tA tB'):=by
 intro wh pins s σ H Q I h
 refine isTrue_and (thn (ha pins s σ H _ I h) fun c s1 ⟨H1,I1,q1⟩=>?_)
 cases c with
 | true=>exact hb wh pins s1 σ H1 Q I1 q1
 | false=>exact⟨H1,I1,q1⟩
theorem g9y(ha:PT X a tA)(hb:PW X (.BoolOp .Or (b :: c2u) pos) tB'):PW X (.BoolOp .Or (a :: b :: c2u) pos) (tOr tA tB'):=by
 intro wh pins s σ H Q I h
 refine isTrue_or (thn (ha pins s σ H _ I h) fun c s1 ⟨H1,I1,q1⟩=>?_)
 cases c with
 | true=>exact⟨H1,I1,q1⟩
 | false=>exact hb wh pins s1 σ H1 Q I1 q1
theorem g5t(ha:PT X a tA):PT X (.UnaryOp .Not a pos) (h2n tA):=by
 intro pins s σ H Q I h
 exact isTrue_not (ha pins s σ H (fun c H1=>Q (!c) H1) I h)
theorem g6c{op}{t:TE}(h:PE X a t):PE X (.BoolOp op [a] pos) t:=fun pins s σ H Q I hw=>BoolOp_one (h pins s σ H Q I hw)
def tIf(t:TT)(ta tb:TE):TE:=fun σ H Q=>t σ H fun c H1=>if c=true then ta σ H1 Q else tb σ H1 Q
theorem f6t{c:Expr}(hc:PT X c tA)(ha:PE X a ta)(hb:PE X b tb):PE X (.IfExp c a b pos) (tIf tA ta tb):=by
 intro pins s σ H Q I h
 refine wpAny_IfExp (thn (hc pins s σ H _ I h) fun d s1 ⟨H1,I1,q1⟩=>?_)
 cases d with
 | true=>exact ha pins s1 σ H1 Q I1 q1
 | false=>exact hb pins s1 σ H1 Q I1 q1
end
def SqL(K:W.Frag)(H:Hp)(a:Addr)(xs:List V):Prop :=
 Rd H a (.lst xs) \/
  ∃ (o:Obj) (its:Array Value) (n:Nat),K.lookup a=some o/\o.cls=.type "list"/\o.dict=none/\o.data=.seq its n/\its.size<=sizeLine/\a5s xs its.toList
def SqT(K:W.Frag)(H:Hp)(a:Addr)(xs:List V):Prop :=
 Rd H a (.tup xs) \/
  ∃ (o:Obj) (its:Array Value) (n:Nat),K.lookup a=some o/\o.cls=.type "tuple"/\o.data=.seq its n/\its.size<=sizeLine/\a5s xs its.toList
def h6d:Value->Option V
 | .none=>some .non
 | .bool b=>some (.bl b)
 | .int i _=>some (.int i)
 | .str x _=>some (.str x)
 | .bytes b _=>some (.byt b)
 | .float b _=>some (.flt b)
 | .ref a=>some (.ref a)
 | .type n=>some (.ty n)
 | _=>none
theorem a8c.abs{x:V}{u:Value}(r:a8c x u):h6d u=some x:=by
 cases x with
 | non=>cases r; rfl
 | bl _=>cases r; rfl
 | int _=>obtain⟨t,rfl⟩:=r; rfl
 | str _=>obtain⟨t,rfl⟩:=r; rfl
 | byt _=>obtain⟨t,rfl⟩:=r; rfl
 | flt _=>obtain⟨t,rfl⟩:=r; rfl
 | ref _=>cases r; rfl
 | ty _=>cases r; rfl
theorem a8c.inj{x y:V}{u:Value}(r:a8c x u)(q:a8c y u):x=y:=Option.some.inj (r.abs.symm.trans q.abs)
theorem a5s.inj : ∀ {xs ys:List V} {us:List Value},a5s xs us->a5s ys us->xs=ys
 | _,_,_,.nil,.nil=>rfl
 | _,_,_,.cons r t,.cons r' t'=>by rw[r.inj r',a5s.inj t t']
section
variable {X:Cx}{pins:List (Addr × Obj)}{σ:St}{H:Hp}{s:Shared}{a:Addr}{xs ys:List V}
theorem SqL.of{K:W.Frag}(h:H a=some (.lst xs)):SqL K H a xs:=.inl (.inl h)
theorem SqT.of{K:W.Frag}(h:H a=some (.tup xs)):SqT K H a xs:=.inl (.inl h)
theorem Inv.list(I:Inv X pins σ H s)(h:SqL X.K H a xs) : ∃ its:List Value,a5s xs its/\PlainL s.heap a its.toArray/\xs.length<=sizeLine:=by
 rcases h with h | ⟨o,its,n,hk,hc,hd,hs,hz,r⟩
 ·obtain⟨z,its,n,r,e⟩:=h.ok I.hok
  exact⟨its,r,⟨_,n,e,rfl,rfl,rfl⟩,z⟩
 ·refine⟨its.toList,r,⟨o,n,I.kIn a o hk,hc,hd,by simpa using hs⟩,?_⟩
  have e:=r.length
  simp only [Array.length_toList]at e
  omega
theorem Inv.tuple(I:Inv X pins σ H s)(h:SqT X.K H a xs) : ∃ its:List Value,a5s xs its/\IsTup s.heap a its.toArray/\xs.length<=sizeLine:=by
 rcases h with h | ⟨o,its,n,hk,hc,hs,hz,r⟩
 ·obtain⟨z,its,r,p⟩:=h.ok I.hok
  exact⟨its,r,p,z⟩
 ·refine⟨its.toList,r,⟨o,I.kIn a o hk,hc,n,by simpa using hs⟩,?_⟩
  have e:=r.length
  simp only [Array.length_toList]at e
  omega
theorem Inv.list_inj(I:Inv X pins σ H s)(h:SqL X.K H a xs)(h':SqL X.K H a ys):xs=ys:=by
 obtain⟨its,r,⟨o,n,e,_,_,d⟩,_⟩:=I.list h
 obtain⟨its',r',⟨o',n',e',_,_,d'⟩,_⟩:=I.list h'
 rw[e]at e'; cases e'
 rw[d]at d'
 injection d' with d1 _
 have:its=its':=by simpa using congrArg Array.toList d1
 subst this
 exact r.inj r'
theorem Inv.tuple_inj(I:Inv X pins σ H s)(h:SqT X.K H a xs)(h':SqT X.K H a ys):xs=ys:=by
 obtain⟨its,r,⟨o,e,_,n,d⟩,_⟩:=I.tuple h
 obtain⟨its',r',⟨o',e',_,n',d'⟩,_⟩:=I.tuple h'
 rw[e]at e'; cases e'
 rw[d]at d'
 injection d' with d1 _
 have:its=its':=by simpa using congrArg Array.toList d1
 subst this
 exact r.inj r'
end
abbrev Cx.wish(X:Cx)(E:Value->Shared->Prop):Cx:={ X with xe:=E }
abbrev Cx.nox(X:Cx):Cx:=X.wish fun _ _=>False
theorem Cx.Ok.wish{X:Cx}(ok:X.Ok)(E:Value->Shared->Prop):(X.wish E).Ok :=
 ⟨ok.mod,ok.kind,ok.glob,ok.blt,ok.above,ok.inj,ok.has,ok.cab,ok.hd,ok.frames,ok.stk,ok.exf,ok.bs,ok.bsz,ok.noex,ok.exfs,ok.funs,ok.frf⟩
theorem Cx.Ok.unwish{X:Cx}{E:Value->Shared->Prop}(ok:(X.wish E).Ok):X.Ok :=
 ⟨ok.mod,ok.kind,ok.glob,ok.blt,ok.above,ok.inj,ok.has,ok.cab,ok.hd,ok.frames,ok.stk,ok.exf,ok.bs,ok.bsz,ok.noex,ok.exfs,ok.funs,ok.frf⟩
section
variable {X:Cx}{pins:List (Addr × Obj)}{σ:St}{H:Hp}{s:Shared}{E:Value->Shared->Prop}
theorem Inv.wish(I:Inv X pins σ H s)(E:Value->Shared->Prop):Inv (X.wish E) pins σ H s:=⟨I.ok.wish E,I.os,I.bare,I.base,I.loc,I.cell,I.free,I.freeC,I.pin,I.hok,I.len⟩
theorem Inv.unwish(I:Inv (X.wish E) pins σ H s):Inv X pins σ H s:=⟨I.ok.unwish,I.os,I.bare,I.base,I.loc,I.cell,I.free,I.freeC,I.pin,I.hok,I.len⟩
theorem SP.unwish{D:f4z}{f:Flow}{s':Shared}(h:SP (X.wish E) pins D f s'):SP X pins D f s':=by
 cases f with
 | next=>obtain⟨σ',H',I,q⟩:=h; exact⟨σ',H',I.unwish,q⟩
 | brk=>obtain⟨σ',H',I,q⟩:=h; exact⟨σ',H',I.unwish,q⟩
 | cont=>obtain⟨σ',H',I,q⟩:=h; exact⟨σ',H',I.unwish,q⟩
 | ret u=>obtain⟨v,σ',H',I,r,q⟩:=h; exact⟨v,σ',H',I.unwish,r,q⟩
theorem PSs.nox{st:List Stmt}{t:TS}(h:PSs X.nox st t):PSs X st t:=fun pins s σ H D I hw =>
 wpAny_mono (h pins s σ H D (I.wish _) hw) (fun _ _ q=>q.unwish) fun _ _ z=>False.elim z
end
section
variable {X:Cx}{st:Stmt}{c2u:List Stmt}{t u:TS}{e:Expr}{te:TE}{pos:Pos}
def f5r:TS:=fun D σ H=>D.nx σ H
def g9g(t u:TS):TS:=fun D σ H=>t { D with nx:=u D } σ H
theorem g1q:PSs X [] f5r:=fun _ _ σ H _ I h=>wpAny_execs_nil ⟨σ,H,I,h⟩
theorem f6i(h1:PS X st t)(h2:PSs X c2u u):PSs X (st :: c2u) (g9g t u):=by
 intro pins s σ H D I h
 refine wpAny_execs_cons (thn (h1 pins s σ H { D with nx:=u D } I h) fun f s1 q=>?_)
 cases f with
 | next =>
  obtain⟨σ',H',I',q⟩:=q
  exact h2 pins s1 σ' H' D I' q
 | ret v=>exact q
 | brk=>exact q
 | cont=>exact q
theorem g1p(h1:PS X st t):PSs X [st] t:=by
 intro pins s σ H D I h
 refine wpAny_execs_cons (thn (h1 pins s σ H D I h) fun f s1 q=>?_)
 cases f with
 | next=>exact wpAny_execs_nil q
 | ret v=>exact q
 | brk=>exact q
 | cont=>exact q
def f9e:TS:=fun D σ H=>D.bk σ H
theorem f6l:PS X (.Break pos) f9e:=fun _ _ σ H _ I h=>wpAny_Break ⟨σ,H,I,h⟩
theorem Inv.quiet{pins:List (Addr × Obj)}{σ:St}{H:Hp}{s:Shared}(I:Inv X pins σ H s):interactive X.env=false:=by simp[interactive,I.ok.kind]
def g4q(te:TE):TS:=fun D σ H=>te σ H fun _ H1=>D.nx σ H1
theorem g1s(he:PE X e te)(hs:swapsWith e none pos.line X.env=pure false:=by rfl):PS X (.Expr e pos) (g4q te):=by
 intro pins s σ H D I h
 exact wpAny_Expr_any (thn (he pins s σ H _ I h) fun v s1 ⟨x,H1,I1,r1,q1⟩=>⟨σ,H1,I1,q1⟩) I.quiet hs
def h2m(te:TE):TS:=fun D σ H=>te σ H D.rt
theorem g5v(he:PE X e te):PS X (.Return (some e) pos) (h2m te):=by
 intro pins s σ H D I h
 exact wpAny_Return_some (thn (he pins s σ H _ I h) fun v s1 ⟨x,H1,I1,r1,q1⟩=>⟨x,σ,H1,I1,r1,q1⟩)
def h2p(c:TT)(t u:TS):TS:=fun D σ H=>c σ H fun b H1=>if b=true then t D σ H1 else u D σ H1
theorem g9z{c:Expr}{a b:List Stmt}{tc:TT}(hc:PT X c tc)(ha:PSs X a t)(hb:PSs X b u):PS X (.If c a b pos) (h2p tc t u):=by
 intro pins s σ H D I h
 refine wpAny_If (thn (hc pins s σ H _ I h) fun d s1 ⟨H1,I1,q1⟩=>?_)
 cases d with
 | true=>exact ha pins s1 σ H1 D I1 q1
 | false=>exact hb pins s1 σ H1 D I1 q1
def f9b:TS:=fun _ _ _=>False
theorem f6k:PS X st f9b:=fun _ _ _ _ _ _ h=>h.elim
end
abbrev TG:=V->St->Hp->(St->Hp->Prop)->Prop
abbrev TGs:=List V->St->Hp->(St->Hp->Prop)->Prop
def PG(X:Cx)(target:Expr)(t:TG):Prop :=
 ∀ (pins:List (Addr × Obj)) (s:Shared) (σ:St) (H:Hp) (v:V) (u:Value) (Q:St->Hp->Prop),Inv X pins σ H s->a8c v u->t v σ H Q ->
  wpAny (model X.prog X.w) X.A (assign target X.env u) (fun _ s'=>∃ σ' H',Inv X pins σ' H' s'/\Q σ' H') X.xe s
def PGs(X:Cx)(ts:List Expr)(t:TGs):Prop :=
 ∀ (pins:List (Addr × Obj)) (s:Shared) (σ:St) (H:Hp) (vs:List V) (us:List Value) (Q:St->Hp->Prop),Inv X pins σ H s->a5s vs us->t vs σ H Q ->
  wpAny (model X.prog X.w) X.A (assignInOrder ((assignEach ts X.env).map (·.2)) us) (fun _ s'=>∃ σ' H',Inv X pins σ' H' s'/\Q σ' H') X.xe s
section
variable {X:Cx}{pos:Pos}
def b5k(i:Nat):TG:=fun v σ H Q=>Q (σ.set i (some v)) H
theorem g1z{i:Nat}{x:Str}(hN:X.N.Nodup)(hi:X.N[i]? = some x)(hx:Loc X.env.scope x)(hf:X.fn x=true\/X.env.scope.names.lookup x=some .local:=by first | exact .inl rfl | exact .inr rfl | assumption):PG X (.Name x pos) (b5k i):=by
 intro pins s σ H v u Q I r h
 exact wpAny_assign_Name (e4m I hN hi hx r (fun s' I'=>⟨_,H,I',h⟩) hf)
def h1i:TGs:=fun vs σ H Q=>vs=[]/\Q σ H
def f8i(t:TG)(u:TGs):TGs:=fun vs σ H Q=>∃ v r,vs=v :: r/\t v σ H fun σ' H'=>u r σ' H' Q
theorem g1y:PGs X [] h1i:=by
 intro pins s σ H vs us Q I r h
 obtain⟨e,h⟩:=h
 subst e
 cases r
 exact assignInOrder_nil ⟨σ,H,I,h⟩
theorem f6q{e:Expr}{es:List Expr}{t:TG}{u:TGs}(h1:PG X e t)(h2:PGs X es u)
 (hs:(assignEach (e :: es) X.env).map (·.2)=assign e X.env :: (assignEach es X.env).map (·.2):=by rfl):PGs X (e :: es) (f8i t u):=by
 intro pins s σ H vs us Q I r h
 obtain⟨v,vr,e1,h⟩:=h
 subst e1
 cases r with
 | cons r rr =>
  rw[hs]
  refine assignInOrder_cons (thn (h1 pins s σ H _ _ _ I r h) fun _ s1 ⟨σ1,H1,I1,q1⟩=>?_)
  exact h2 pins s1 σ1 H1 _ _ Q I1 rr q1
def g8w(K:W.Frag)(n:Nat)(t:TGs):TG:=fun v σ H Q=>∃ a xs,v=.ref a/\SqT K H a xs/\xs.length=n/\t xs σ H Q
theorem g6b{es:List Expr}{k:Nat}{t:TGs}{n:Nat}(hc:X.calm=true)(h:PGs X es t)
 (hn:(assignEach es X.env).length=n:=by rfl) (hst:(assignEach es X.env).findIdx? (·.1)=none:=by rfl):PG X (.Tuple es k pos) (g8w X.K n t):=by
 intro pins s σ H v u Q I r hw
 obtain⟨a,xs,e1,hq,hl,hw⟩:=hw
 subst e1
 cases r
 obtain⟨its,rv,ht,hz⟩:=I.tuple hq
 refine assign_Tuple_tuple (I.ok.hd hc) ht (by simp[hn,<- hl,rv.length]) hst fun h' hx=>?_
 have I1:Inv X pins σ H { s with heap:=h' }:=I.kept (t':=s.toks) fun b o e=>hx b o (Nat.ne_of_lt (Heap.lt_size e)) e
 exact h pins _ σ H xs _ Q I1 (by simpa using rv) hw
def g4d(te:TE)(g:TG):TS:=fun D σ H=>te σ H fun x H1=>g x σ H1 D.nx
theorem g5y{tg e:Expr}{te:TE}{g:TG}(he:PE X e te)(hg:PG X tg g)(hs:swapsWithSole [tg] e pos.line X.env=pure false:=by rfl)(hw:swappedStores [tg] e X.env=pure none:=by rfl)
 (h1:(assignEach [tg] X.env).map (·.2)=[assign tg X.env]:=by rfl):PS X (.Assign [tg] e pos) (g4d te g):=by
 intro pins s σ H D I h
 refine wpAny_Assign_stores (thn (he pins s σ H _ I h) fun v s1 ⟨x,H1,I1,r1,q1⟩=>?_) hs hw
 rw[h1]
 exact thn (hg pins s1 σ H1 x v _ I1 r1 q1) fun _ s2 q=>q
theorem g5u{i:Nat}{x:Str}{e:Expr}{te:TE}{pos':Pos}(hN:X.N.Nodup)(hi:X.N[i]? = some x)(hx:Loc X.env.scope x)(he:PE X e te)(hs:swapsWith e (some (.Name x pos')) pos.line X.env=pure false:=by rfl)(hf:X.fn x=true\/X.env.scope.names.lookup x=some .local:=by first | exact .inl rfl | exact .inr rfl | assumption) :
 PS X (.Assign [.Name x pos'] e pos) (g4d te (b5k i)):=by
 intro pins s σ H D I h
 refine wpAny_Assign_Name (thn (he pins s σ H _ I h) fun v s1 ⟨y,H1,I1,r1,q1⟩=>?_) hs
 exact e4m I1 hN hi hx r1 (fun s2 I2=>⟨_,H1,I2,q1⟩) hf
end
section
variable {X:Cx}{pos:Pos}
def f9a(c:TT)(tb:TS):TS:=fun D σ H=>∃ W:Nat->St->Hp->Prop,(∃ m,W m σ H)/\∀ m σ H,W m σ H ->
 c σ H fun b H1=>if b=true then ∃ N:St->Hp->Prop,(∀ σ' H',N σ' H'->∃ m',m' < m/\W m' σ' H')/\tb { D with nx:=N,ct:=N,bk:=D.nx } σ H1 else D.nx σ H1
theorem f6j{c:Expr}{body:List Stmt}{tc:TT}{tb:TS}(hp:PassesOwn (model X.prog X.w) X.A X.env X.xe)(hc:PT X c tc)(hb:PSs X body tb):PS X (.While c body [] pos) (f9a tc tb):=by
 intro pins s σ H D I h
 obtain⟨W,⟨m0,w0⟩,turn⟩:=h
 refine wpAny_While (codeAny_whileLoop (fun n s'=>∃ σ' H',Inv X pins σ' H' s'/\W n σ' H') ?_ m0 ⟨σ,H,I,w0⟩)
 rintro n s1 ⟨σ1,H1,I1,w1⟩
 refine wpAny_passesOwn hp (thn (hc pins s1 σ1 H1 _ I1 (turn n σ1 H1 w1)) fun b s2 ⟨H2,I2,q2⟩=>?_)
 cases b with
 | true =>
  obtain⟨N,hN,q2⟩:=q2
  rw[if_pos rfl]
  refine wpAny_passesOwn hp (thn (hb pins s2 σ1 H2 _ I2 q2) fun f s3 q3=>?_)
  cases f with
  | next =>
   obtain⟨σ3,H3,I3,n3⟩:=q3
   obtain⟨m',hm,w3⟩:=hN σ3 H3 n3
   exact⟨m',hm,σ3,H3,I3,w3⟩
  | cont =>
   obtain⟨σ3,H3,I3,n3⟩:=q3
   obtain⟨m',hm,w3⟩:=hN σ3 H3 n3
   exact⟨m',hm,σ3,H3,I3,w3⟩
  | brk=>exact q3
  | ret v=>exact q3
 | false =>
  rw[if_neg Bool.false_ne_true]
  exact wpAny_execs_nil ⟨σ1,H2,I2,q2⟩
end
structure It where
 go:Nat->Hp->Prop
 yld:Nat->Hp->V->Hp->Prop
 stop:Nat->Hp->Prop
def e8p(X:Cx)(pins:List (Addr × Obj))(H:Hp)(b:Addr):Prop :=
 H b=none/\b≠X.env.locals/\b∉X.fs/\(b∈X.ex\/X.s₀.heap.objs.size<=b)/\(∀ x c,X.env.cells.lookup x=some c->c≠b)/\∀ p∈X.pn++pins,p.1≠b
theorem Inv.fpOk{X:Cx}{pins:List (Addr × Obj)}{σ:St}{H H':Hp}{s:Shared}{b:Addr}(I:Inv X pins σ H s)(hb:s.heap.objs.size<=b)(hn:H' b=none):e8p X pins H' b:=by
 refine⟨hn,Nat.ne_of_gt (Nat.lt_of_lt_of_le I.lt hb),I.nofs hb,.inr (Nat.le_trans I.sz hb),fun x c e z=>?_,fun p hp z=>?_⟩
 ·obtain⟨v,q⟩:=I.cell x c e
  exact absurd (Nat.lt_of_lt_of_le q.lt (by rw[z]; exact hb)) (Nat.lt_irrefl _)
 ·exact absurd (Nat.lt_of_lt_of_le (Heap.lt_size (I.pin p hp).1) (by rw[z]; exact hb)) (Nat.lt_irrefl _)
structure g0k (P:Program) (w:World) (K:W.Frag) (tg:Expr) (J:It) (fp:List Addr) (it:Addr) (tn:Nat->Heap->Prop):Prop where
 mem:it∈fp
 obj : ∀ i h,tn i h->∀ b∈fp,∃ o,h.get? b=some o/\∀ v,o.data ≠ .cell v
 keep : ∀ i h h',tn i h->(∀ b∈fp,∀ o,h.get? b=some o->h'.get? b=some o)->tn i h'
 item : ∀ (X:Cx),X.prog=P->X.w=w->X.K=K->X.calm=true->∀ (i:Nat) (pins:List (Addr × Obj)) (s:Shared) (σ:St) (H:Hp) (E:Value->Shared->Prop),Inv X pins σ H s->(∀ b∈fp,e8p X pins H b)->tn i s.heap->J.go i H ->
  wpAny (model P w) X.A (pyNext (.ref it)) (fun r s1=>∃ u,r=some u /\
   wpAny (model P w) X.A (letOwnedTupleGo tg (.ref it) u) (fun _ s2=>∃ x H',Inv X pins σ H' s2/\a8c x u/\J.yld i H x H'/\tn (i+1) s2.heap/\∀ b∈fp,H' b=none) E s1) E s
 done : ∀ (X:Cx),X.prog=P->X.w=w->X.K=K->X.calm=true->∀ (i:Nat) (pins:List (Addr × Obj)) (s:Shared) (σ:St) (H:Hp) (E:Value->Shared->Prop),Inv X pins σ H s->(∀ b∈fp,e8p X pins H b)->tn i s.heap->J.stop i H ->
  wpAny (model P w) X.A (pyNext (.ref it)) (fun r s1=>r=none/\Inv X pins σ H s1) E s
 self : ∀ (A:Around) (i:Nat) (s:Shared) (Q:Value->Shared->Prop) (E:Value->Shared->Prop),tn i s.heap->Q (.ref it) s->wpAny (model P w) A (pyIter (.ref it)) Q E s
abbrev TI:=St->Hp->(It->Hp->Prop)->Prop
def PIE(X:Cx)(pins:List (Addr × Obj))(σ:St)(tg:Expr)(R:It->Hp->Prop)(itv:Value)(s2:Shared):Prop :=
 ∃ (it:Addr) (fp:List Addr) (tn:Nat->Heap->Prop) (J:It) (H':Hp),itv=.ref it/\Inv X pins σ H' s2/\g0k X.prog X.w X.K tg J fp it tn/\tn 0 s2.heap/\(∀ b∈fp,e8p X pins H' b)/\R J H'
def PI(X:Cx)(tg iter:Expr)(wi:TI):Prop :=
 ∀ (pins:List (Addr × Obj)) (s:Shared) (σ:St) (H:Hp) (R:It->Hp->Prop),Inv X pins σ H s->wi σ H R ->
  wpAny (model X.prog X.w) X.A (eval iter X.env) (fun v s1=>wpAny (model X.prog X.w) X.A (pyIter v) (PIE X pins σ tg R) X.xe s1) X.xe s
theorem f7x{M:Model}{A:Around}{E:Value->Shared->Prop}{s:Shared}{tg:Expr}{it:Addr}{u:Value}{o:Obj}{n:String}{vs:Array Value}{Q:Unit->Shared->Prop}(ho:s.heap.get? it=some o)(hc:o.cls=.type n)(hd:o.data=.fields vs)
 (hn:["enumerate", "zip", "dict_itemiterator", "dict_reverseitemiterator", "odict_iterator", "itertools.zip_longest", "itertools.pairwise"].contains n=false) (hQ:Q () s):wpAny M A (letOwnedTupleGo tg (.ref it) u) Q E s:=by
 unfold letOwnedTupleGo
 cases tg <;> first
  | exact wpAny_pure hQ
  | (cases u <;> first
      | exact wpAny_pure hQ
      | (refine wpAny_bind (wpAny_load ho ?_)
         rw[hc,hd]
         show wpAny M A (if (["enumerate", "zip", "dict_itemiterator", "dict_reverseitemiterator", "odict_iterator", "itertools.zip_longest", "itertools.pairwise"].contains n && vs[0]? == some (rawInt _))=true then _ else _) Q E s
         rw[if_neg (by intro h; rw[hn,Bool.false_and]at h; cases h)]
         exact wpAny_pure hQ))
def Itl(K:W.Frag)(a:Addr):It :=
 ⟨fun i H=>∃ xs x,SqL K H a xs/\xs[i]? = some x,fun i H x H'=>H'=H/\∀ xs,SqL K H a xs->xs[i]? = some x,fun i H=>∃ xs,SqL K H a xs/\xs.length<=i⟩
def Itt(K:W.Frag)(a:Addr):It :=
 ⟨fun i H=>∃ xs x,SqT K H a xs/\xs[i]? = some x,fun i H x H'=>H'=H/\∀ xs,SqT K H a xs->xs[i]? = some x,fun i H=>∃ xs,SqT K H a xs/\xs.length<=i⟩
def Itr(lo:Int)(n:Nat):It:=⟨fun i _=>i < n,fun i H x H'=>H'=H/\x=.int (lo+i),fun i _=>n<=i⟩
theorem e8y{P:Program}{w:World}{K:W.Frag}{tg:Expr}(a it:Addr):g0k P w K tg (Itl K a) [it] it (fun i h=>h.IsListIter it a i) where
 mem:=by simp
 obj:=fun i h st b hb=>by
  have e:b=it:=by simpa using hb
  subst e
  obtain⟨o,e,c,d⟩:=st
  exact⟨o,e,fun v z=>by rw[d]at z; cases z⟩
 keep:=fun i h h' st k=>st.at fun o e=>k it (by simp) o e
 item:=by
  intro X hP hw hK hc i pins s σ H E I hf st hg
  subst hP hw hK
  obtain⟨xs,x,hq,hx⟩:=hg
  obtain⟨its,rv,p,hz⟩:=I.list hq
  obtain⟨u,hu,ru⟩:=rv.get hx
  obtain⟨f0,f1,f2,f3,f4,f5⟩:=hf it (by simp)
  refine wpAny_pyNext_list_item st p.isList (x:=u) (by simpa using hu) fun h' st' sb=>?_
  have I1:Inv X pins σ H { s with heap:=h' }:=I.turned (t':=s.toks) (fun b o hb e=>(sb.2 b hb).trans e) f0 f1 f3 f4 f5
  obtain⟨o,e,c,d⟩:=id st'
  exact⟨u,rfl,f7x (s:={ s with heap:=h' }) e c d (by decide) ⟨x,H,I1,ru,⟨rfl,fun ys hy=>by rw[I.list_inj hy hq]; exact hx⟩,st',fun b hb=>(hf b hb).1⟩⟩
 done:=by
  intro X hP hw hK hc i pins s σ H E I hf st hg
  subst hP hw hK
  obtain⟨xs,hq,hx⟩:=hg
  obtain⟨its,rv,p,hz⟩:=I.list hq
  obtain⟨f0,f1,f2,f3,f4,f5⟩:=hf it (by simp)
  have hl:=rv.length
  exact wpAny_pyNext_list_end (I.ok.hd hc) st p.isList (by simp; omega) fun h' eb=>⟨rfl,I.turned (t':=s.toks) (fun b o hb e=>eb b o hb e) f0 f1 f3 f4 f5⟩
 self:=fun _ _ _ _ _ st h=>wpAny_pyIter_listiter st h
theorem e6m{P:Program}{w:World}{K:W.Frag}{tg:Expr}(a it:Addr):g0k P w K tg (Itt K a) [it] it (fun i h=>h.IsTupleIter it a i) where
 mem:=by simp
 obj:=fun i h st b hb=>by
  have e:b=it:=by simpa using hb
  subst e
  obtain⟨o,e,c,d⟩:=st
  exact⟨o,e,fun v z=>by rw[d]at z; cases z⟩
 keep:=fun i h h' st k=>st.at fun o e=>k it (by simp) o e
 item:=by
  intro X hP hw hK hc i pins s σ H E I hf st hg
  subst hP hw hK
  obtain⟨xs,x,hq,hx⟩:=hg
  obtain⟨its,rv,p,hz⟩:=I.tuple hq
  obtain⟨u,hu,ru⟩:=rv.get hx
  obtain⟨f0,f1,f2,f3,f4,f5⟩:=hf it (by simp)
  refine wpAny_pyNext_tuple_item st (show s.heap.IsTuple a its.toArray from p) (x:=u) (by simpa using hu) fun h' st' sb=>?_
  have I1:Inv X pins σ H { s with heap:=h' }:=I.turned (t':=s.toks) (fun b o hb e=>(sb.2 b hb).trans e) f0 f1 f3 f4 f5
  obtain⟨o,e,c,d⟩:=id st'
  exact⟨u,rfl,f7x (s:={ s with heap:=h' }) e c d (by decide) ⟨x,H,I1,ru,⟨rfl,fun ys hy=>by rw[I.tuple_inj hy hq]; exact hx⟩,st',fun b hb=>(hf b hb).1⟩⟩
 done:=by
  intro X hP hw hK hc i pins s σ H E I hf st hg
  subst hP hw hK
  obtain⟨xs,hq,hx⟩:=hg
  obtain⟨its,rv,p,hz⟩:=I.tuple hq
  obtain⟨f0,f1,f2,f3,f4,f5⟩:=hf it (by simp)
  have hl:=rv.length
  exact wpAny_pyNext_tuple_end (I.ok.hd hc) st (show s.heap.IsTuple a its.toArray from p) (by simp; omega) fun h' eb=>⟨rfl,I.turned (t':=s.toks) (fun b o hb e=>eb b o hb e) f0 f1 f3 f4 f5⟩
 self:=fun _ _ _ _ _ st h=>wpAny_pyIter_tupleiter st h
theorem e6n{P:Program}{w:World}{K:W.Frag}{tg:Expr}(it:Addr)(lo:Int)(n:Nat):g0k P w K tg (Itr lo n) [it] it (fun i h=>IsRangeIter h it (lo+(i:Nat)*1) ((n:Int) - (i:Nat)) 1) where
 mem:=by simp
 obj:=fun i h st b hb=>by
  have e:b=it:=by simpa using hb
  subst e
  exact⟨_,st,fun v z=>by
   have z':Data.fields _=Data.cell v:=z
   cases z'⟩
 keep:=fun i h h' st k=>k it (by simp) _ st
 item:=by
  intro X hP hw hK hc i pins s σ H E I hf st hg
  subst hP hw hK
  obtain⟨f0,f1,f2,f3,f4,f5⟩:=hf it (by simp)
  have W:=Walks.range (prog:=X.prog) (w:=X.w) (I.ok.hd hc) it lo 1 n
  refine W.item i s _ _ hg st fun v h' tk hv st' kk=>?_
  obtain⟨t,rfl⟩:=hv
  have I1:Inv X pins σ H { s with heap:=h',toks:=tk }:=I.turned (fun b o hb e=>kk b o (by simpa using hb) e) f0 f1 f3 f4 f5
  refine⟨_,rfl,f7x (s:={ s with heap:=h',toks:=tk }) (n := "range_iterator") st' rfl rfl (by decide) ⟨.int (lo+i),H,I1,⟨t,?_⟩,⟨rfl,rfl⟩,st',fun b hb=>(hf b hb).1⟩⟩
  rw[Int.mul_one]
 done:=by
  intro X hP hw hK hc i pins s σ H E I hf st hg
  subst hP hw hK
  obtain⟨f0,f1,f2,f3,f4,f5⟩:=hf it (by simp)
  exact wpAny_pyNext_range_end (I.ok.hd hc) st (by have:n<=i:=hg; omega) fun h' eb=>⟨rfl,I.turned (t':=s.toks) (fun b o hb e=>eb b o hb e) f0 f1 f3 f4 f5⟩
 self:=fun _ _ _ _ _ st h=>wpAny_pyIter_rangeiter st h
section
variable {X:Cx}{tg:Expr}
def g2u(K:W.Frag)(tl:TE):TI:=fun σ H R=>tl σ H fun x H1=>∃ a,x=.ref a/\(∃ xs,SqL K H1 a xs)/\R (Itl K a) H1
def h0y(K:W.Frag)(tl:TE):TI:=fun σ H R=>tl σ H fun x H1=>∃ a,x=.ref a/\(∃ xs,SqT K H1 a xs)/\R (Itt K a) H1
theorem g1w{l:Expr}{tl:TE}(hl:PE X l tl):PI X tg l (g2u X.K tl):=by
 intro pins s σ H R I h
 refine thn (hl pins s σ H _ I h) fun v s1 ⟨x,H1,I1,r1,q1⟩=>?_
 obtain⟨a,e,⟨xs,hq⟩,q⟩:=q1
 subst e
 cases r1
 obtain⟨its,rv,p,hz⟩:=I1.list hq
 refine wpAny_pyIter_list p.isList ?_
 refine⟨s1.heap.objs.size,[s1.heap.objs.size],_,_,H1,rfl,I1.kept (t':=s1.toks) fun b o e=>Heap.get?_push_of_some _ e,e8y a _,⟨_,Heap.get?_push_size _ rfl,rfl,rfl⟩,fun b hb=>?_,q⟩
 have e:b=s1.heap.objs.size:=by simpa using hb
 subst e
 exact I1.fpOk (Nat.le_refl _) (I1.hok.fresh (Nat.le_refl _))
theorem g6a{l:Expr}{tl:TE}(hl:PE X l tl):PI X tg l (h0y X.K tl):=by
 intro pins s σ H R I h
 refine thn (hl pins s σ H _ I h) fun v s1 ⟨x,H1,I1,r1,q1⟩=>?_
 obtain⟨a,e,⟨xs,hq⟩,q⟩:=q1
 subst e
 cases r1
 obtain⟨its,rv,p,hz⟩:=I1.tuple hq
 refine wpAny_pyIter_tuple (show s1.heap.IsTuple a its.toArray from p) ?_
 refine⟨s1.heap.objs.size,[s1.heap.objs.size],_,_,H1,rfl,I1.kept (t':=s1.toks) fun b o e=>Heap.get?_push_of_some _ e,e6m a _,⟨_,Heap.get?_push_size _ rfl,rfl,rfl⟩,fun b hb=>?_,q⟩
 have e:b=s1.heap.objs.size:=by simpa using hb
 subst e
 exact I1.fpOk (Nat.le_refl _) (I1.hok.fresh (Nat.le_refl _))
theorem e4t{pins:List (Addr × Obj)}{σ:St}{H:Hp}{s:Shared}{R:It->Hp->Prop}{E:Value->Shared->Prop}{lo hi:Int}{t u v:Tok}{tk:Nat}(I:Inv X pins σ H s)(h1 : -(2 ^ 62)<=lo)(h2:lo < 2 ^ 62)(h3 : -(2 ^ 62)<=hi)(h4:hi < 2 ^ 62)
 (q:R (Itr lo (hi - lo).toNat) H):wpAny (model X.prog X.w) X.A (pyIter (.ref s.heap.objs.size)) (PIE X pins σ tg R) E { s with heap:=s.heap.push { cls:=.type "range",data:=.fields #[.int lo t,.int hi u,.int 1 v] },toks:=tk }:=by
 refine wpAny_pyIter_range (IsRange.new ..) (small_one h1 h2 h3 h4) ?_
 have I1:Inv X pins σ H { s with heap:=s.heap.push { cls:=.type "range",data:=.fields #[.int lo t,.int hi u,.int 1 v] },toks:=tk }:=I.kept fun b o e=>Heap.get?_push_of_some _ e
 refine⟨(s.heap.push { cls:=.type "range",data:=.fields #[.int lo t,.int hi u,.int 1 v] }).objs.size,[(s.heap.push { cls:=.type "range",data:=.fields #[.int lo t,.int hi u,.int 1 v] }).objs.size],_,_,H,rfl,
  I1.kept (t':=tk) fun b o e=>Heap.get?_push_of_some _ e,e6n _ lo (hi - lo).toNat,?_,fun b hb=>?_,q⟩
 ·have e1:lo+((0:Nat):Int)*1=lo:=by simp
  have e2:(((hi - lo).toNat:Nat):Int) - ((0:Nat):Int)=Builtin.Range.rangeSize lo hi 1:=by rw[rangeSize_one]; split <;> omega
  show IsRangeIter _ _ (lo+((0:Nat):Int)*1) ((((hi - lo).toNat:Nat):Int) - ((0:Nat):Int)) 1
  rw[e1,e2]
  exact Heap.get?_push_size _ rfl
 ·have e:b=(s.heap.push { cls:=.type "range",data:=.fields #[.int lo t,.int hi u,.int 1 v] }).objs.size:=by simpa using hb
  subst e
  exact I1.fpOk (Nat.le_refl _) (I1.hok.fresh (Nat.le_refl _))
def g7u(ta:TA):TI:=fun σ H R=>ta σ H fun vs H1=>∃ j:Int,vs=[.int j]/\-(2 ^ 62)<=j/\j < 2 ^ 62/\R (Itr 0 j.toNat) H1
def g7t(ta:TA):TI:=fun σ H R=>ta σ H fun vs H1=>∃ i j:Int,vs=[.int i,.int j]/\(-(2 ^ 62)<=i/\i < 2 ^ 62/\-(2 ^ 62)<=j/\j < 2 ^ 62)/\R (Itr i (j - i).toNat) H1
theorem f0l {a:Expr} {ta:TA} {p pos:Pos} (hg:Gl X "range") (hm:X.mg "range" = none) (ha:PA X [a] ta) (hs:starEach [a] X.env=[(false,eval a X.env)]:=by rfl):PI X tg (.Call (.Name "range" p) [a] [] pos) (g7u ta):=by
 intro pins s σ H R I h
 refine Call_ (c2y I hg hm boot_range (PyProof.Rows.callWith_type1 (thn (ha pos pins s σ H _ I h) fun us s1 ⟨vs,H1,I1,r1,q1⟩=>?_) hs rfl))
 obtain⟨j,e,q1,q2,q⟩:=q1
 subst e
 cases r1 with
 | cons r rr =>
  cases rr
  obtain⟨t,rfl⟩:=r
  exact call_range_1 (e4t I1 (by omega) (by omega) q1 q2 (by simpa using q))
theorem f0k {a b:Expr} {ta:TA} {p pos:Pos} (hg:Gl X "range") (hm:X.mg "range" = none) (ha:PA X [a,b] ta) (hs:starEach [a,b] X.env=[(false,eval a X.env),(false,eval b X.env)]:=by rfl) (hs2:starEach [b] X.env=[(false,eval b X.env)]:=by rfl) :
 PI X tg (.Call (.Name "range" p) [a,b] [] pos) (g7t ta):=by
 intro pins s σ H R I h
 refine Call_ (c2y I hg hm boot_range (PyProof.Rows.callWith_type1 (thn (ha pos pins s σ H _ I h) fun us s1 ⟨vs,H1,I1,r1,q1⟩=>?_) (by rw[hs,hs2]) (by rw[hs2]; rfl)))
 obtain⟨i,j,e,⟨q1,q2,q3,q4⟩,q⟩:=q1
 subst e
 cases r1 with
 | cons r rr =>
  cases rr with
  | cons r' rr =>
   cases rr
   obtain⟨t,rfl⟩:=r
   obtain⟨t',rfl⟩:=r'
   exact call_range_2 (e4t I1 q1 q2 q3 q4 q)
def h2q(wi:TI)(g:TG)(tb:TS):TS:=fun D σ H=>wi σ H fun J H1=>∃ W:Nat->Nat->St->Hp->Prop,(∃ m,W 0 m σ H1)/\∀ i m σ H,W i m σ H ->
 (J.stop i H/\D.nx σ H)\/(J.go i H/\∃ N:St->Hp->Prop,(∀ σ' H',N σ' H'->∃ m',m' < m/\W (i+1) m' σ' H')/\∀ x H',J.yld i H x H'->g x σ H' fun σ2 H2=>tb { D with nx:=N,ct:=N,bk:=D.nx } σ2 H2)
def d9j(fp:List Addr)(h:Heap):List (Addr × Obj):=fp.filterMap fun b=>(h.get? b).map fun o=>(b,o)
theorem c1y{fp:List Addr}{h:Heap}{b:Addr}{o:Obj}(hb:b∈fp)(e:h.get? b=some o):(b,o)∈d9j fp h:=List.mem_filterMap.mpr ⟨b,hb,by rw[e]; rfl⟩
theorem f0w{fp:List Addr}{h:Heap}{p:Addr × Obj}(hp:p∈d9j fp h):p.1∈fp/\h.get? p.1=some p.2:=by
 obtain⟨b,hb,e⟩:=List.mem_filterMap.mp hp
 cases q:h.get? b with
 | none=>rw[q]at e; cases e
 | some o =>
  rw[q]at e
  have e':(b,o)=p:=Option.some.inj e
  subst e'
  exact⟨hb,q⟩
theorem Inv.pinned{pins:List (Addr × Obj)}{σ:St}{H:Hp}{s:Shared}{fp:List Addr}(I:Inv X pins σ H s)(hf : ∀ b∈fp,e8p X pins H b)(ho : ∀ b∈fp,∃ o,s.heap.get? b=some o/\∀ v,o.data ≠ .cell v):Inv X (pins++d9j fp s.heap) σ H s :=
 I.pins_of fun p hp=>(List.mem_append.mp hp).elim (fun z=>I.pin p (List.mem_append_right _ z)) fun z=>by
  obtain⟨hb,e⟩:=f0w z
  obtain⟨f0,f1,f2,_⟩:=hf p.1 hb
  obtain⟨o,e',d⟩:=ho p.1 hb
  rw[e]at e'; cases e'
  exact⟨e,f0,f1,f2,d⟩
theorem Inv.unpinned{pins pl:List (Addr × Obj)}{σ:St}{H:Hp}{s:Shared}(I:Inv X (pins++pl) σ H s):Inv X pins σ H s:=I.pins_of fun p hp=>I.pin p (List.mem_append_right _ (List.mem_append_left _ hp))
theorem g5w{iter:Expr}{body:List Stmt}{wi:TI}{g:TG}{tb:TS}{pos:Pos}(hp:PassesOwn (model X.prog X.w) X.A X.env X.xe)(hc:X.calm=true)(hi:PI X tg iter wi)(hg:PG X tg g)(hb:PSs X body tb)
 (hs : ∀ x,foldedSetIterable iter X.env x=pure x:=by intro _; rfl):PS X (.For tg iter body [] pos) (h2q wi g tb):=by
 intro pins s σ H D I h
 refine wpAny_For (thn (hi pins s σ H _ I h) fun v s1 h1=>thn h1 fun itv s2 h2=>?_) hs
 obtain⟨it,fp,tn,J,H2,e,I2,T,st2,f2,W,⟨m0,w0⟩,turn⟩:=h2
 subst e
 have stat : ∀ {H':Hp},(∀ b∈fp,H' b=none)->∀ b∈fp,e8p X pins H' b:=fun hn b hb=>⟨hn b hb,(f2 b hb).2⟩
 refine codeAny_forLoop_any (fun n s'=>∃ i σ' H',Inv X pins σ' H' s'/\tn i s'.heap/\(∀ b∈fp,H' b=none)/\W i n σ' H') ?_ m0 ⟨0,σ,H2,I2,st2,fun b hb=>(f2 b hb).1,w0⟩
 rintro n s3 ⟨i,σ3,H3,I3,st3,fr3,w3⟩
 rcases turn i n σ3 H3 w3 with ⟨stop,qn⟩ | ⟨go,N,hN,step⟩
 ·refine wpAny_passesOwn hp (thn (T.done X rfl rfl rfl hc i pins s3 σ3 H3 X.xe I3 (stat fr3) st3 stop) fun r s4 ⟨hr,I4⟩=>?_)
  subst hr
  exact wpAny_execs_nil ⟨σ3,H3,I4,qn⟩
 ·refine wpAny_passesOwn hp (thn (T.item X rfl rfl rfl hc i pins s3 σ3 H3 X.xe I3 (stat fr3) st3 go) fun r s4 ⟨u,hr,h4⟩=>?_)
  subst hr
  refine wpAny_passesOwn hp (thn h4 fun _ s5 ⟨x,H5,I5,r5,y5,st5,fr5⟩=>?_)
  have I5':=I5.pinned (stat fr5) (T.obj _ _ st5)
  refine wpAny_passesOwn hp (thn (hg _ s5 σ3 H5 x u _ I5' r5 (step x H5 y5)) fun _ s6 ⟨σ6,H6,I6,q6⟩=>?_)
  refine wpAny_passesOwn hp (thn (hb _ s6 σ6 H6 _ I6 q6) fun f s7 q7=>?_)
  have again : ∀ {σ7:St} {H7:Hp},Inv X (pins++d9j fp s5.heap) σ7 H7 s7->N σ7 H7->∃ m,m < n/\∃ i σ' H',Inv X pins σ' H' s7/\tn i s7.heap/\(∀ b∈fp,H' b=none)/\W i m σ' H':=fun {σ7 H7} I7 n7=>by
   obtain⟨m',hm,w7⟩:=hN σ7 H7 n7
   refine⟨m',hm,i+1,σ7,H7,I7.unpinned,T.keep _ _ _ st5 fun b hb o e=>(I7.pin (b,o) (List.mem_append_right _ (List.mem_append_right _ (c1y hb e)))).1,fun b hb=>?_,w7⟩
   obtain⟨o,e,d⟩:=T.obj _ _ st5 b hb
   exact (I7.pin (b,o) (List.mem_append_right _ (List.mem_append_right _ (c1y hb e)))).2.1
  cases f with
  | next=>obtain⟨σ7,H7,I7,n7⟩:=q7; exact again I7 n7
  | cont=>obtain⟨σ7,H7,I7,n7⟩:=q7; exact again I7 n7
  | brk=>obtain⟨σ7,H7,I7,q7⟩:=q7; exact⟨σ7,H7,I7.unpinned,q7⟩
  | ret v=>obtain⟨x7,σ7,H7,I7,r7,q7⟩:=q7; exact⟨x7,σ7,H7,I7.unpinned,r7,q7⟩
end
theorem b8t{K:W.Frag}{a:Addr}{xs:List V}{g:TG}{tb:TS}{D:f4z}{σ:St}{H:Hp}(Pv:Nat->St->Hp->Prop)(h0:Pv 0 σ H)(hl : ∀ i σ H,i<=xs.length->Pv i σ H->SqL K H a xs)
 (hs : ∀ i x σ H,xs[i]? = some x->Pv i σ H->g x σ H fun σ2 H2=>tb { D with nx:=Pv (i+1),ct:=Pv (i+1),bk:=D.nx } σ2 H2) (hd : ∀ σ H,Pv xs.length σ H->D.nx σ H) :
 ∃ W:Nat->Nat->St->Hp->Prop,(∃ m,W 0 m σ H)/\∀ i m σ H,W i m σ H ->
  ((Itl K a).stop i H/\D.nx σ H)\/((Itl K a).go i H/\∃ N:St->Hp->Prop,(∀ σ' H',N σ' H'->∃ m',m' < m/\W (i+1) m' σ' H')/\∀ x H',(Itl K a).yld i H x H'->g x σ H' fun σ2 H2=>tb { D with nx:=N,ct:=N,bk:=D.nx } σ2 H2):=by
 refine⟨fun i m σ H=>m=xs.length - i/\i<=xs.length/\Pv i σ H,⟨xs.length,by simp,Nat.zero_le _,h0⟩,?_⟩
 rintro i m σ H ⟨rfl,hi,p⟩
 have q:=hl i σ H hi p
 by_cases hlt:i < xs.length
 ·refine .inr ⟨⟨xs,xs[i],q,by simp[hlt]⟩,Pv (i+1),fun σ' H' p'=>⟨xs.length - (i+1),by omega,rfl,hlt,p'⟩,fun x H' y=>?_⟩
  obtain⟨e,y⟩:=y
  subst e
  exact hs i x σ _ (y xs q) p
 ·have e:i=xs.length:=by omega
  subst e
  exact .inl ⟨⟨xs,q,Nat.le_refl _⟩,hd σ H p⟩
theorem g3l{K:W.Frag}{a:Addr}{xs:List V}{g:TG}{tb:TS}{D:f4z}{σ:St}{H:Hp}(Pv:Nat->St->Hp->Prop)(h0:Pv 0 σ H)(hl : ∀ i σ H,i<=xs.length->Pv i σ H->SqT K H a xs)
 (hs : ∀ i x σ H,xs[i]? = some x->Pv i σ H->g x σ H fun σ2 H2=>tb { D with nx:=Pv (i+1),ct:=Pv (i+1),bk:=D.nx } σ2 H2) (hd : ∀ σ H,Pv xs.length σ H->D.nx σ H) :
 ∃ W:Nat->Nat->St->Hp->Prop,(∃ m,W 0 m σ H)/\∀ i m σ H,W i m σ H ->
  ((Itt K a).stop i H/\D.nx σ H)\/((Itt K a).go i H/\∃ N:St->Hp->Prop,(∀ σ' H',N σ' H'->∃ m',m' < m/\W (i+1) m' σ' H')/\∀ x H',(Itt K a).yld i H x H'->g x σ H' fun σ2 H2=>tb { D with nx:=N,ct:=N,bk:=D.nx } σ2 H2):=by
 refine⟨fun i m σ H=>m=xs.length - i/\i<=xs.length/\Pv i σ H,⟨xs.length,by simp,Nat.zero_le _,h0⟩,?_⟩
 rintro i m σ H ⟨rfl,hi,p⟩
 have q:=hl i σ H hi p
 by_cases hlt:i < xs.length
 ·refine .inr ⟨⟨xs,xs[i],q,by simp[hlt]⟩,Pv (i+1),fun σ' H' p'=>⟨xs.length - (i+1),by omega,rfl,hlt,p'⟩,fun x H' y=>?_⟩
  obtain⟨e,y⟩:=y
  subst e
  exact hs i x σ _ (y xs q) p
 ·have e:i=xs.length:=by omega
  subst e
  exact .inl ⟨⟨xs,q,Nat.le_refl _⟩,hd σ H p⟩
theorem c5r{lo:Int}{n:Nat}{g:TG}{tb:TS}{D:f4z}{σ:St}{H:Hp}(Pv:Nat->St->Hp->Prop)(h0:Pv 0 σ H)
 (hs : ∀ i σ H,i < n->Pv i σ H->g (.int (lo+i)) σ H fun σ2 H2=>tb { D with nx:=Pv (i+1),ct:=Pv (i+1),bk:=D.nx } σ2 H2) (hd : ∀ σ H,Pv n σ H->D.nx σ H) :
 ∃ W:Nat->Nat->St->Hp->Prop,(∃ m,W 0 m σ H)/\∀ i m σ H,W i m σ H ->
  ((Itr lo n).stop i H/\D.nx σ H)\/((Itr lo n).go i H/\∃ N:St->Hp->Prop,(∀ σ' H',N σ' H'->∃ m',m' < m/\W (i+1) m' σ' H')/\∀ x H',(Itr lo n).yld i H x H'->g x σ H' fun σ2 H2=>tb { D with nx:=N,ct:=N,bk:=D.nx } σ2 H2):=by
 refine⟨fun i m σ H=>m=n - i/\i<=n/\Pv i σ H,⟨n,by simp,Nat.zero_le _,h0⟩,?_⟩
 rintro i m σ H ⟨rfl,hi,p⟩
 by_cases hlt:i < n
 ·refine .inr ⟨hlt,Pv (i+1),fun σ' H' p'=>⟨n - (i+1),by omega,rfl,hlt,p'⟩,fun x H' y=>?_⟩
  obtain⟨e,y⟩:=y
  subst e y
  exact hs i σ _ hlt p
 ·have e:i=n:=by omega
  subst e
  exact .inl ⟨Nat.le_refl _,hd σ H p⟩
abbrev R2:=V->V->Hp->VK->Prop
def OpR(X:Cx)(f:Value->Value->Sem Value)(r:R2):Prop :=
 ∀ (pins:List (Addr × Obj)) (s:Shared) (σ:St) (H:Hp) (x y:V) (v u:Value) (Q:VK),Inv X pins σ H s->a8c x v->a8c y u->r x y H Q ->
  wpAny (model X.prog X.w) X.A (f v u) (EP X pins σ Q) X.xe s
def b4i(X:Cx)(f:Value)(r:List V->Hp->VK->Prop):Prop :=
 ∀ (pins:List (Addr × Obj)) (s:Shared) (σ:St) (H:Hp) (xs:List V) (us:List Value) (Q:VK),Inv X pins σ H s->a5s xs us->r xs H Q ->
  wpAny (model X.prog X.w) X.A (call f us) (EP X pins σ Q) X.xe s
def h6f(X:Cx)(r:V->Hp->(Bool->Hp->Prop)->Prop):Prop :=
 ∀ (pins:List (Addr × Obj)) (s:Shared) (σ:St) (H:Hp) (x:V) (v:Value) (Q:Bool->Hp->Prop),Inv X pins σ H s->a8c x v->r x H Q ->
  wpAny (model X.prog X.w) X.A (truthy v) (TP X pins σ Q) X.xe s
def tOp(r:R2)(ta tb:TE):TE:=fun σ H Q=>ta σ H fun x H1=>tb σ H1 fun y H2=>r x y H2 Q
def rI(C:Int->Int->Prop)(g:Int->Int->V):R2:=fun x y H Q=>∃ i j,x=.int i/\y=.int j/\C i j/\Q (g i j) H
def rI0(g:Int->Int->V):R2:=fun x y H Q=>∃ i j,x=.int i/\y=.int j/\Q (g i j) H
section
variable {X:Cx}{a b c:Expr}{ta tb tc:TE}{pos:Pos}
theorem h1u(ha:PE X a ta)(hb:PE X b tb){pins:List (Addr × Obj)}{s:Shared}{σ:St}{H:Hp}{R:V->V->Hp->Prop}(I:Inv X pins σ H s)
 (h:ta σ H fun x H1=>tb σ H1 fun y H2=>R x y H2) {Q:Value->Shared->Prop} {f:Value->Value->Sem Value}
 (hf : ∀ v u s2 x y H2,Inv X pins σ H2 s2->a8c x v->a8c y u->R x y H2->wpAny (model X.prog X.w) X.A (f v u) Q X.xe s2) :
 wpAny (model X.prog X.w) X.A (eval a X.env) (fun v s₁=>wpAny (model X.prog X.w) X.A (eval b X.env) (fun u s₂=>wpAny (model X.prog X.w) X.A (f v u) Q X.xe s₂) X.xe s₁) X.xe s:=by
 refine thn (ha pins s σ H _ I h) fun v s1 ⟨x,H1,I1,r1,q1⟩=>?_
 refine thn (hb pins s1 σ H1 _ I1 q1) fun u s2 ⟨y,H2,I2,r2,q2⟩=>?_
 exact hf v u s2 x y H2 I2 r1 r2 q2
theorem h0b{op:Operator}{r:R2}(ho:OpR X (binaryOp op) r)(ha:PE X a ta)(hb:PE X b tb):PE X (.BinOp a op b pos) (tOp r ta tb):=by
 intro pins s σ H Q I h
 exact wpAny_BinOp (h1u ha hb I h fun v u s2 x y H2 I2 rx ry q=>ho pins s2 σ H2 x y v u Q I2 rx ry q)
theorem opI{f:Value->Value->Sem Value}{C:Int->Int->Prop}{g:Int->Int->Int}
 (rule : ∀ (i j:Int) (t u:Tok) (s:Shared) (Q:Value->Shared->Prop) (E:Value->Shared->Prop),C i j->Q (.int (g i j) s.toks) { s with toks:=s.toks+1 }->wpAny (model X.prog X.w) X.A (f (.int i t) (.int j u)) Q E s) :
 OpR X f (rI C fun i j=>.int (g i j)):=by
 intro pins s σ H x y v u Q I rx ry h
 obtain⟨i,j,rfl,rfl,hc,q⟩:=h
 obtain⟨t,rfl⟩:=rx
 obtain⟨t',rfl⟩:=ry
 exact rule i j t t' s _ _ hc ⟨.int (g i j),H,I.tok _,⟨_,rfl⟩,q⟩
theorem h3b{f:Value->Value->Sem Value}{g:Int->Int->Int}
 (rule : ∀ (i j:Int) (t u:Tok) (s:Shared) (Q:Value->Shared->Prop) (E:Value->Shared->Prop),Q (.int (g i j) s.toks) { s with toks:=s.toks+1 }->wpAny (model X.prog X.w) X.A (f (.int i t) (.int j u)) Q E s) :
 OpR X f (rI0 fun i j=>.int (g i j)):=by
 intro pins s σ H x y v u Q I rx ry h
 obtain⟨i,j,rfl,rfl,q⟩:=h
 obtain⟨t,rfl⟩:=rx
 obtain⟨t',rfl⟩:=ry
 exact rule i j t t' s _ _ ⟨.int (g i j),H,I.tok _,⟨_,rfl⟩,q⟩
theorem g8s{f:Value->Value->Sem Value}{g:Int->Int->Bool}
 (rule : ∀ (i j:Int) (t u:Tok) (s:Shared) (Q:Value->Shared->Prop) (E:Value->Shared->Prop),Q (.bool (g i j)) s->wpAny (model X.prog X.w) X.A (f (.int i t) (.int j u)) Q E s) :
 OpR X f (rI0 fun i j=>.bl (g i j)):=by
 intro pins s σ H x y v u Q I rx ry h
 obtain⟨i,j,rfl,rfl,q⟩:=h
 obtain⟨t,rfl⟩:=rx
 obtain⟨t',rfl⟩:=ry
 exact rule i j t t' s _ _ ⟨.bl (g i j),H,I,rfl,q⟩
def h6o(i j:Int):Prop:=0 < j/\j < 1073741824
def g9d(i j:Int):Prop:=(-(2 ^ 64) < i/\i < 2 ^ 64)\/(-(2 ^ 64) < j/\j < 2 ^ 64)
theorem g9d.ok{i j:Int}(h:g9d i j):IntMulOk i j:=by
 rcases h with ⟨h1,h2⟩ | ⟨h1,h2⟩
 ·exact .of_left (intBits_le_64 h1 h2)
 ·exact .of_right (intBits_le_64 h1 h2)
theorem e6l(k:Nat):(0:Int)<=2 ^ k:=by
 rw[two_pow_cast]
 exact Int.natCast_nonneg _
theorem g6o:OpR X (binaryOp .Add) (rI0 fun i j=>.int (i+j)):=h3b fun _ _ _ _ _ _ _ q=>add_int q
theorem g6h:OpR X (binaryOp .Sub) (rI0 fun i j=>.int (i - j)):=h3b fun _ _ _ _ _ _ _ q=>sub_int q
theorem g6l:OpR X (binaryOp .Mult) (rI g9d fun i j=>.int (i*j)):=opI fun _ _ _ _ _ _ _ hc q=>mul_int q hc.ok
theorem g2i:OpR X (binaryOp .FloorDiv) (rI h6o fun i j=>.int (i / j)):=opI fun i j _ _ _ _ _ hc q=>by
 have h1:(0:Int) < j:=hc.1
 have h2:j < 1073741824:=hc.2
 exact floordiv_int (by omega) (by rw[Int.fdiv_eq_ediv_of_nonneg i (by omega)]; exact q) (.inl (PyProof.noPylong_small (by omega)))
theorem f9n:OpR X (binaryOp .Mod) (rI (fun _ j=>0 < j) fun i j=>.int (i%j)):=opI fun i j _ _ _ _ _ hc q=>by
 have h1:(0:Int) < j:=hc
 exact mod_int' (by omega) (by rw[Int.fmod_eq_emod_of_nonneg i (by omega)]; exact q)
theorem g6i:OpR X (binaryOp .RShift) (rI (fun _ j=>0<=j) fun i j=>.int (i / 2 ^ j.toNat)):=opI fun i j _ _ _ _ _ hc q =>
 rshift_int hc (by rw[Int.fdiv_eq_ediv_of_nonneg i (e6l _)]; exact q)
end
def h2w:V->V->Bool
 | .non,.non=>true | .non,.int _=>true | .int _,.non=>true | .non,.bl _=>true | .bl _,.non=>true | .non,.str _=>true | .str _,.non=>true
 | .int _,.int _=>true | .bl _,.bl _=>true | .str _,.str _=>true | .byt _,.byt _=>true
 | .int _,.str _=>true | .str _,.int _=>true | .bl _,.str _=>true | .str _,.bl _=>true
 | _,_=>false
def rEq:R2:=fun x y H Q=>h2w x y=true/\Q (.bl (decide (x=y))) H
def rNe:R2:=fun x y H Q=>h2w x y=true/\Q (.bl (!decide (x=y))) H
theorem f2z{i j:Int}:decide (V.int i=V.int j)=(i == j):=by
 rw[Bool.eq_iff_iff]
 simp
theorem e5m{i j:Bool}:decide (V.bl i=V.bl j)=(i == j):=by
 rw[Bool.eq_iff_iff]
 simp
theorem f2y{i j:Str}:decide (V.str i=V.str j)=(i == j):=by
 rw[Bool.eq_iff_iff]
 simp
theorem f3a{i j:Array UInt8}:decide (V.byt i=V.byt j)=(i.toList == j.toList):=by
 rw[Bool.eq_iff_iff]
 cases i
 cases j
 simp
section
variable {X:Cx}{a b c:Expr}{ta tb tc:TE}{pos:Pos}
theorem a4k{pins:List (Addr × Obj)}{σ:St}{H:Hp}{s:Shared}{Q:VK}{k k':Bool}(I:Inv X pins σ H s)(q:Q (.bl k) H)(e:k=k'):EP X pins σ Q (.bool k') s:=by
 subst e
 exact⟨.bl k,H,I,rfl,q⟩
theorem g6n:OpR X (compareOp .Eq) rEq:=by
 intro pins s σ H x y v u Q I rx ry h
 obtain⟨hs,q⟩:=h
 cases x with
 | non =>
  cases rx
  cases y with
  | non=>cases ry; exact PySem.EqNone.eq_none_none (a4k I q (by simp))
  | bl j=>cases ry; exact PySem.EqNone.eq_none_bool (a4k I q (by simp))
  | int j=>obtain⟨t',rfl⟩:=ry; exact PySem.EqNone.eq_none_int (a4k I q (by simp))
  | str j=>obtain⟨t',rfl⟩:=ry; exact PySem.EqNone.eq_none_str (a4k I q (by simp))
  | _=>exact absurd (show false=true from hs) Bool.false_ne_true
 | bl i =>
  cases rx
  cases y with
  | non=>cases ry; exact PySem.EqNone.eq_bool_none (a4k I q (by simp))
  | bl j=>cases ry; exact eq_bool (a4k I q e5m)
  | str j=>obtain⟨t',rfl⟩:=ry; exact PySem.EqMixed.eq_bool_str (a4k I q (by simp))
  | _=>exact absurd (show false=true from hs) Bool.false_ne_true
 | int i =>
  obtain⟨t,rfl⟩:=rx
  cases y with
  | non=>cases ry; exact PySem.EqNone.eq_int_none (a4k I q (by simp))
  | int j=>obtain⟨t',rfl⟩:=ry; exact eq_int (a4k I q f2z)
  | str j=>obtain⟨t',rfl⟩:=ry; exact PySem.EqMixed.eq_int_str (a4k I q (by simp))
  | _=>exact absurd (show false=true from hs) Bool.false_ne_true
 | str i =>
  obtain⟨t,rfl⟩:=rx
  cases y with
  | non=>cases ry; exact PySem.EqNone.eq_str_none (a4k I q (by simp))
  | bl j=>cases ry; exact PySem.EqMixed.eq_str_bool (a4k I q (by simp))
  | int j=>obtain⟨t',rfl⟩:=ry; exact PySem.EqMixed.eq_str_int (a4k I q (by simp))
  | str j=>obtain⟨t',rfl⟩:=ry; exact eq_str (a4k I q f2y)
  | _=>exact absurd (show false=true from hs) Bool.false_ne_true
 | byt i =>
  obtain⟨t,rfl⟩:=rx
  cases y with
  | byt j=>obtain⟨t',rfl⟩:=ry; exact W.eq_bytes (a4k I q f3a)
  | _=>exact absurd (show false=true from hs) Bool.false_ne_true
 | _=>cases y <;> exact absurd (show false=true from hs) Bool.false_ne_true
theorem g6k:OpR X (compareOp .NotEq) rNe:=by
 intro pins s σ H x y v u Q I rx ry h
 obtain⟨hs,q⟩:=h
 cases x with
 | non =>
  cases rx
  cases y with
  | non=>cases ry; exact PySem.EqNone.ne_none_none (a4k I q (by simp))
  | bl j=>cases ry; exact PySem.EqNone.ne_none_bool (a4k I q (by simp))
  | int j=>obtain⟨t',rfl⟩:=ry; exact PySem.EqNone.ne_none_int (a4k I q (by simp))
  | str j=>obtain⟨t',rfl⟩:=ry; exact PySem.EqNone.ne_none_str (a4k I q (by simp))
  | _=>exact absurd (show false=true from hs) Bool.false_ne_true
 | bl i =>
  cases rx
  cases y with
  | non=>cases ry; exact PySem.EqNone.ne_bool_none (a4k I q (by simp))
  | bl j=>cases ry; exact ne_bool (a4k I q (congrArg not e5m))
  | str j=>obtain⟨t',rfl⟩:=ry; exact PySem.EqMixed.ne_bool_str (a4k I q (by simp))
  | _=>exact absurd (show false=true from hs) Bool.false_ne_true
 | int i =>
  obtain⟨t,rfl⟩:=rx
  cases y with
  | non=>cases ry; exact PySem.EqNone.ne_int_none (a4k I q (by simp))
  | int j=>obtain⟨t',rfl⟩:=ry; exact ne_int (a4k I q (congrArg not f2z))
  | str j=>obtain⟨t',rfl⟩:=ry; exact PySem.EqMixed.ne_int_str (a4k I q (by simp))
  | _=>exact absurd (show false=true from hs) Bool.false_ne_true
 | str i =>
  obtain⟨t,rfl⟩:=rx
  cases y with
  | non=>cases ry; exact PySem.EqNone.ne_str_none (a4k I q (by simp))
  | bl j=>cases ry; exact PySem.EqMixed.ne_str_bool (a4k I q (by simp))
  | int j=>obtain⟨t',rfl⟩:=ry; exact PySem.EqMixed.ne_str_int (a4k I q (by simp))
  | str j=>obtain⟨t',rfl⟩:=ry; exact ne_str (a4k I q (congrArg not f2y))
  | _=>exact absurd (show false=true from hs) Bool.false_ne_true
 | byt i =>
  obtain⟨t,rfl⟩:=rx
  cases y with
  | byt j=>obtain⟨t',rfl⟩:=ry; exact W.ne_bytes (a4k I q (congrArg not f3a))
  | _=>exact absurd (show false=true from hs) Bool.false_ne_true
 | _=>cases y <;> exact absurd (show false=true from hs) Bool.false_ne_true
theorem h0f:OpR X (compareOp .Lt) (rI0 fun i j=>.bl (decide (i < j))):=g8s fun _ _ _ _ _ _ _ q=>lt_int q
theorem h0g:OpR X (compareOp .LtE) (rI0 fun i j=>.bl (decide (i<=j))):=g8s fun _ _ _ _ _ _ _ q=>le_int q
theorem h0h:OpR X (compareOp .Gt) (rI0 fun i j=>.bl (decide (j < i))):=g8s fun _ _ _ _ _ _ _ q=>gt_int q
theorem h0i:OpR X (compareOp .GtE) (rI0 fun i j=>.bl (decide (j<=i))):=g8s fun _ _ _ _ _ _ _ q=>ge_int q
theorem g6m:OpR X (compareOp .Is) (fun x y H Q=>y=.non/\Q (.bl (decide (x=.non))) H):=by
 intro pins s σ H x y v u Q I rx ry h
 obtain⟨rfl,q⟩:=h
 cases ry
 refine is_none_gen (a4k I q ?_)
 cases x <;> first
  | (cases rx; rfl)
  | (obtain⟨t,rfl⟩:=rx; rfl)
theorem g2h:OpR X (compareOp .IsNot) (fun x y H Q=>y=.non/\Q (.bl (!decide (x=.non))) H):=by
 intro pins s σ H x y v u Q I rx ry h
 obtain⟨rfl,q⟩:=h
 cases ry
 refine isnot_none_gen (a4k I q ?_)
 cases x <;> first
  | (cases rx; rfl)
  | (obtain⟨t,rfl⟩:=rx; rfl)
theorem a1e(b:Expr){op:CmpOp}(h:op ≠ .In:=by decide)(h2:op ≠ .NotIn:=by decide):behindInMarks op b=false:=by
 have e1:(op == CmpOp.In)=false:=by cases op <;> first | rfl | exact absurd rfl h
 have e2:(op == CmpOp.NotIn)=false:=by cases op <;> first | rfl | exact absurd rfl h2
 cases b <;> simp[behindInMarks,e1,e2]
theorem g2d{op:CmpOp}{r:R2}(ho:OpR X (compareOp op) r)(ha:PE X a ta)(hb:PE X b tb)(hm:behindInMarks op b=false):PE X (.Compare a [op] [b] pos) (tOp r ta tb):=by
 intro pins s σ H Q I h
 exact wpAny_Compare1 (h1u ha hb I h fun v u s2 x y H2 I2 rx ry q=>ho pins s2 σ H2 x y v u Q I2 rx ry q) hm
def h6e(K:W.Frag)(x:V)(H:Hp)(k:Bool):Prop :=
 match x with
 | .non=>k=false
 | .bl b=>k=b
 | .int i=>k=(i != 0)
 | .str y=>y.length<=sizeLine/\k=((y.length:Int) != 0)
 | .byt y=>y.size<=sizeLine/\k=((y.size:Int) != 0)
 | .ref p=>(∃ xs,SqL K H p xs/\k = !xs.isEmpty)\/(∃ xs,SqT K H p xs/\k = !xs.isEmpty)\/∃ kvs,H p=some (.dK kvs)/\k = !kvs.isEmpty
 | _=>False
theorem e7i{κ:Type}{kvs:List (κ × V)}{vs:List (κ × Value)}(r:KV kvs vs):(!vs.isEmpty) = !kvs.isEmpty:=by
 cases r <;> rfl
theorem d5a{xs:List V}{its:List Value}(r:a5s xs its):(!its.toArray.isEmpty) = !xs.isEmpty:=by
 cases r <;> simp
theorem e5c:(sizeLine:Nat) < 2 ^ 63:=by rw[sizeLine_eq]; decide
theorem d8z:h6f X (fun x H Q=>∃ k,h6e X.K x H k/\Q k H):=by
 intro pins s σ H x v Q I rx h
 obtain⟨k,e,q⟩:=h
 have hl:=e5c
 have hs:sizeLine=16777216:=sizeLine_eq
 cases x with
 | non =>
  cases rx
  have e':k=false:=e
  subst e'
  exact truthy_none ⟨H,I,q⟩
 | bl b =>
  cases rx
  have e':k=b:=e
  subst e'
  exact wpAny_truthy_bool ⟨H,I,q⟩
 | int i =>
  obtain⟨t,rfl⟩:=rx
  have e':k=(i != 0):=e
  subst e'
  exact PySem.P.truthy_int ⟨H,I,q⟩
 | str y =>
  obtain⟨t,rfl⟩:=rx
  obtain⟨hy,e'⟩:y.length<=sizeLine/\k=((y.length:Int) != 0):=e
  subst e'
  exact PySem.P.truthy_str (by omega) ⟨H,I.tok _,q⟩
 | byt y =>
  obtain⟨t,rfl⟩:=rx
  obtain⟨hy,e'⟩:y.size<=sizeLine/\k=((y.size:Int) != 0):=e
  subst e'
  exact W.truthy_bytes (by omega) ⟨H,I.tok _,q⟩
 | ref p =>
  cases rx
  have e':(∃ xs,SqL X.K H p xs/\k = !xs.isEmpty)\/(∃ xs,SqT X.K H p xs/\k = !xs.isEmpty)\/∃ kvs,H p=some (.dK kvs)/\k = !kvs.isEmpty:=e
  rcases e' with ⟨xs,hx,e'⟩ | ⟨xs,hx,e'⟩ | ⟨kvs,hx,e'⟩
  ·subst e'
   obtain⟨its,r,pl,hz⟩:=I.list hx
   have hlen:=r.length
   exact wpAny_truthy_list pl.isList (by simp only [List.size_toArray]; omega) ⟨H,I.tok _,by rw[d5a r]; exact q⟩
  ·subst e'
   obtain⟨its,r,pl,hz⟩:=I.tuple hx
   have hlen:=r.length
   exact truthy_tuple pl (by simp only [List.size_toArray]; omega) ⟨H,I.tok _,by rw[d5a r]; exact q⟩
  ·subst e'
   obtain⟨hz,hS,vs,r,m⟩:kvs.length<=sizeLine/\(p == sysModules)=false/\∃ vs,KV kvs vs/\s.heap.DictOf (a3q X.prog X.w) p vs:=I.hok p _ hx
   have hlen:kvs.length=vs.length:=Paired.length r
   exact wpAny_truthy_dict hS m (by omega) ⟨H,I.tok _,by rw[e7i r]; exact q⟩
 | _=>exact (show False from e).elim
theorem e6k{x:V}{us:List Value}(r:a5s [x] us) : ∃ u,us=[u]/\a8c x u:=by
 cases r with
 | cons r1 r2=>cases r2; exact⟨_,rfl,r1⟩
theorem g4h{x y:V}{us:List Value}(r:a5s [x,y] us) : ∃ u w',us=[u,w']/\a8c x u/\a8c y w':=by
 cases r with
 | cons r1 r2 =>
  cases r2 with
  | cons r3 r4=>cases r4; exact⟨_,_,rfl,r1,r3⟩
end
structure g3y (h:Heap) (x dx C:Addr) (mA:Str->Option Value):Prop where
 obj:h.get? x=some (W.instObj C dx)
 ns:h.Ns1 dx mA
 ne:dx≠x
theorem f1d{h:Heap}{dx:Addr}{mA:Str->Option Value}(n:h.Ns1 dx mA) : ∃ od,h.get? dx=some od/\∀ name,W.lookIn name od=some (mA name):=by
 obtain⟨o,es,ep,ho,hd,hk,_,hm⟩:=n
 refine⟨o,ho,fun name=>?_⟩
 have e:=hm name
 unfold nsFind findBy at e
 rw[<- Array.find?_toList]at e
 unfold W.lookIn
 rw[hd]
 dsimp only
 split
 ·rename_i y q
  rw[q]at e
  exact congrArg some e
 ·rename_i q
  rw[q]at e
  have a:es.toList.any (·.refKey)=false:=by
   rw[List.any_eq_false]
   intro y hy
   obtain⟨z,t,hkey⟩:=hk y (Array.mem_toList_iff.mp hy)
   simp[DictEntry.refKey,hkey]
  have a' : ¬ es.toList.any (·.refKey)=true:=by rw[a]; exact Bool.false_ne_true
  rw[if_neg a']
  exact congrArg some e
theorem g3y.look{h:Heap}{x dx C:Addr}{mA:Str->Option Value}(I:g3y h x dx C mA) : ∃ od,W.InstAt h x (W.instObj C dx) C (some od)/\∀ name,W.lookIn name od=some (mA name) :=
 let ⟨od,ho,hl⟩:=f1d I.ns
 ⟨od,⟨I.obj,rfl,rfl,ho⟩,hl⟩
section
variable {prog:Program}{w:World}{A:Around}{E:Value->Shared->Prop}{s:Shared}{K:W.Frag}{x dx C f:Addr}{mA:Str->Option Value}{name:Str}{v:Value}
theorem g3b{expr:Bool}{Q:Value->Shared->Prop}(X:K.In s.heap)(I:g3y s.heap x dx C mA)(hg:W.plainGet K C name=true)(hh:W.hasDictIn K C=true)
 (ha:W.findIn K (.ref C) name=some none) (hv:mA name=some v) (hv':W.handedIn v=true) (h:Q v { s with toks:=s.toks+1 }) :
 wpAny (model prog w) A (getAttr (.ref x) name expr) Q E s:=by
 obtain⟨od,J,hl⟩:=I.look
 exact W.get_value X J (W.plainGet_of hg).1 (W.findObj_own hh ha rfl (by rw[hl,hv])) hv' h
theorem f7y{pl:Sem Bool}{Q:Value × List Value->Shared->Prop}(X:K.In s.heap)(I:g3y s.heap x dx C mA)(hg:W.plainGet K C name=true)
 (hf:W.findIn K (.ref C) name=some (some (.ref f))) (ht:W.isFn K (.ref f)=true) (hv:mA name=none) (h:Q (.ref f,[.ref x]) s) :
 wpAny (model prog w) A (getMethod (.ref x) name pl) Q E s:=by
 obtain⟨od,J,hl⟩:=I.look
 exact W.method_fn X J (W.plainGet_of hg).1 (W.plainGet_of hg).2 hf (beq_iff_eq.mp ht) (by show (W.lookIn name od).map (·.isSome)=some false; rw[hl,hv]; rfl) h
theorem g1d{ns:List Str}{Q:Unit->Shared->Prop}(X:K.In s.heap)(I:g3y s.heap x dx C mA)
 (hs:W.findIn K (.ref C) "__setattr__" = some (some (.builtin "object.__setattr__"))) (hp:W.plainOver K C=true) (ht:W.takerIn K C name=some none) (hh:W.hasDictIn K C=true)
 (hw:PySem.Within mA ns) (hsz:ns.length<=sizeLine)
 (h : ∀ h',g3y h' x dx C (fun y=>if y=name then some v else mA y)->Heap.SameBut dx s.heap h'->Q () { s with heap:=h',toks:=s.toks+2 }) :
 wpAny (model prog w) A (setAttr (.ref x) name v) Q E s:=by
 obtain⟨od,J,hl⟩:=I.look
 refine W.set_plain X J hs (W.osa_open (s:={ s with toks:=s.toks+1 }) (r:=none) X J hp ht fun b=>?_)
 obtain⟨cd,hc,hd'⟩:=W.any_some hh
 have hx:s.heap.get? x=some ⟨.ref C,some dx,.plain,#[]⟩:=I.obj
 refine wpAny_bind (wpAny_pure (wpAny_bind (wpAny_bind (wpAny_loadPart hx (wpAny_bind (W.Looks.here (s:={ s with toks:=s.toks+1 }) (W.looks_clsIn X hc) ?_))))))
 rw[hd']
 refine wpAny_pure (a:=some dx) (wpAny_bind (wpAny_pure (wpAny_bind ?_)))
 refine wpAny_nsSet1 (s:={ s with toks:=s.toks+1 }) I.ns fun h' hn2 hs2=>?_
 obtain⟨oD,esD,epD,hoD,hdD,hcD⟩:=hn2.count (PySem.Within.cons name v hw)
 refine wpAny_bind (wpAny_lookBehind hoD (by rw[hdD]; exact pastItsLine_dict (Nat.le_trans hcD (by rw[List.length_cons]; omega))) ?_)
 exact wpAny_pure (h _ ⟨(hs2.2 _ (Ne.symm I.ne)).trans I.obj,hn2,I.ne⟩ hs2)
theorem f7k{R:Result->Shared->Prop}{vs:List Value}{kw:List (Str × Value)}(X:K.In s.heap)(hm:W.makesIn K C=true)
 (hi:W.findIn K (.ref C) "__init__" = some (some (.ref f))) (hf:W.typeIn K (.ref f)=some (.type "function"))
 (h:codeAny (model prog w) (A.under (.builtin "type.__call__" ⟨.ref C :: vs,kw⟩)) (.call (.ref f) ⟨.ref (s.heap.objs.size+1) :: vs,kw⟩) (W.InitBack (s.heap.objs.size+1) R)
   { s with heap:=(s.heap.push W.emptyDict).push (W.instObj C s.heap.objs.size) }) :
 codeAny (model prog w) A (.call (.ref C) ⟨vs,kw⟩) R s:=by
 obtain⟨hh,g,d,t,os⟩:=s
 exact W.make_core (W.makes_of X hm) (W.looks_findIn X hi) (fun self=>W.bind_fn X self hf) (.inl rfl) h
theorem f1c{R:Result->Shared->Prop}(X:K.In s.heap)(hm:W.makesIn K C=true)
 (hi:W.findIn K (.ref C) "__init__" = some (some (.builtin "object.__init__")))
 (hb : ∀ self,W.Looks (model prog w) s.heap (bindSpecial (.builtin "object.__init__") self) (.builtin "object.__init__",[self]))
 (h:codeAny (model prog w) (A.under (.builtin "type.__call__" ⟨[.ref C],[]⟩)) (.call (.builtin "object.__init__") ⟨[.ref (s.heap.objs.size+1)],[]⟩) (W.InitBack (s.heap.objs.size+1) R)
   { s with heap:=(s.heap.push W.emptyDict).push (W.instObj C s.heap.objs.size) }) :
 codeAny (model prog w) A (.call (.ref C) ⟨[],[]⟩) R s:=by
 obtain⟨hh,g,d,t,os⟩:=s
 exact W.make_core (W.makes_of X hm) (W.looks_findIn X hi) hb (.inr ⟨rfl,rfl⟩) h
end
def c7g(f:Str)(v:V):List (Str × V)->List (Str × V)
 | []=>[(f,v)]
 | (g,x) :: r=>if g=f then (g,v) :: r else (g,x) :: c7g f v r
theorem d0q(f g:Str)(v:V) : ∀ fs:List (Str × V),(c7g f v fs).lookup g=if g=f then some v else fs.lookup g
 | []=>by
  show List.lookup g [(f,v)]=_
  by_cases h:g=f
  ·have hb:(g == f)=true:=beq_iff_eq.mpr h
   simp only [List.lookup,hb,if_pos h]
  ·have hb:(g == f)=false:=beq_eq_false_iff_ne.mpr h
   simp only [List.lookup,hb,if_neg h]
 | (k,x) :: r=>by
  have ih:=d0q f g v r
  rw[show c7g f v ((k,x) :: r)=(if k=f then (k,v) :: r else (k,x) :: c7g f v r) from rfl]
  by_cases hk:k=f
  ·rw[if_pos hk]
   by_cases h:g=k
   ·have hb:(g == k)=true:=beq_iff_eq.mpr h
    simp only [List.lookup,hb,if_pos (h.trans hk)]
   ·have hb:(g == k)=false:=beq_eq_false_iff_ne.mpr h
    simp only [List.lookup,hb,if_neg (fun e:g=f=>h (e.trans hk.symm))]
  ·rw[if_neg hk]
   by_cases h:g=k
   ·have hb:(g == k)=true:=beq_iff_eq.mpr h
    simp only [List.lookup,hb,if_neg (fun e:g=f=>hk (h.symm.trans e))]
   ·have hb:(g == k)=false:=beq_eq_false_iff_ne.mpr h
    simp only [List.lookup,hb]
    exact ih
theorem d0t(f:Str)(v:V) : ∀ fs:List (Str × V),f∈(c7g f v fs).map (·.1)/\∀ g,g∈fs.map (·.1)->g∈(c7g f v fs).map (·.1)
 | []=>⟨by simp[c7g],fun g h=>by simp at h⟩
 | (k,x) :: r=>by
  obtain⟨i1,i2⟩:=d0t f v r
  rw[show c7g f v ((k,x) :: r)=(if k=f then (k,v) :: r else (k,x) :: c7g f v r) from rfl]
  by_cases hk:k=f
  ·rw[if_pos hk]
   subst hk
   exact⟨by simp,fun g h=>by simpa using h⟩
  ·rw[if_neg hk]
   refine⟨?_,fun g h=>?_⟩
   ·rw[List.map_cons]
    exact List.mem_cons_of_mem _ i1
   ·rw[List.map_cons]at h ⊢
    rcases List.mem_cons.mp h with e | e
    ·exact List.mem_cons.mpr (.inl e)
    ·exact List.mem_cons_of_mem _ (i2 g e)
theorem d0r(f:Str)(v:V) : ∀ fs:List (Str × V),(c7g f v fs).length<=fs.length+1
 | []=>by simp[c7g]
 | (k,x) :: r=>by
  have ih:=d0r f v r
  rw[show c7g f v ((k,x) :: r)=(if k=f then (k,v) :: r else (k,x) :: c7g f v r) from rfl]
  by_cases hk:k=f
  ·rw[if_pos hk,List.length_cons,List.length_cons]; omega
  ·rw[if_neg hk,List.length_cons,List.length_cons]; omega
theorem d8o.some_of{v:V}{o:Option Value}(r:d8o (some v) o) : ∃ u,o=some u/\a8c v u:=by
 cases o with
 | none=>exact (show False from r).elim
 | some u=>exact⟨u,rfl,r⟩
theorem d8o.none_of{o:Option Value}(r:d8o none o):o=none:=by
 cases o with
 | none=>rfl
 | some u=>exact (show False from r).elim
theorem f1n{v:V}{u:Value}(r:a8c v u):W.handedIn u=true:=by
 cases v with
 | non=>cases (show u=Value.none from r); rfl
 | bl b=>cases (show u=Value.bool b from r); rfl
 | int i=>obtain⟨t,e⟩:=(show ∃ t,u=Value.int i t from r); cases e; rfl
 | str x=>obtain⟨t,e⟩:=(show ∃ t,u=Value.str x t from r); cases e; rfl
 | byt b=>obtain⟨t,e⟩:=(show ∃ t,u=Value.bytes b t from r); cases e; rfl
 | flt b=>obtain⟨t,e⟩:=(show ∃ t,u=Value.float b t from r); cases e; rfl
 | ref a=>cases (show u=Value.ref a from r); rfl
 | ty n=>cases (show u=Value.type n from r); rfl
section
variable {P:Program}{w:World}{H H':Hp}{h h':Heap}{a C dx:Addr}{fs fs':List (Str × V)}
theorem d6m(hok:HOk P w H h)(e:H a=some (.ins C dx fs)) : ∃ mA,g3y h a dx C mA/\(∀ f,d8o (fs.lookup f) (mA f))/\PySem.Within mA (fs.map (·.1))/\fs.length<=1000/\H dx=some (.own a):=by
 obtain⟨d,z,ne,ob,mA,n,r,q⟩:=(show a8r P w H h a (.ins C dx fs) from hok a _ e)
 exact⟨mA,⟨ob,n,ne⟩,r,q,z,d⟩
end
structure Cls (K:W.Frag) (C:Addr):Prop where
 pg:W.plainGet K C Str.empty=true
 hd:W.hasDictIn K C=true
 po:W.plainOver K C=true
 sa:W.findIn K (.ref C) "__setattr__" = some (some (.builtin "object.__setattr__"))
theorem Cls.get{K:W.Frag}{C:Addr}(c:Cls K C)(f:Str):W.plainGet K C f=true:=c.pg
def a6i(K:W.Frag)(C:Addr)(f:Str):Prop:=W.findIn K (.ref C) f=some none
theorem a6i.taker{K:W.Frag}{C:Addr}{f:Str}(n:a6i K C f):W.takerIn K C f=some none:=by
 unfold W.takerIn
 rw[show W.findIn K (.ref C) f=some none from n]
 rfl
structure Con (K:W.Frag) (C:Addr) (f:Str) (v:V) (u:Value):Prop where
 at_:W.findIn K (.ref C) f=some (some u)
 rel:a8c v u
 get:W.specialIn K u "__get__" = some none
 cp:W.copiedNames.contains f=false
structure b3d (K:W.Frag) (C:Addr) (m:Str) (f:Addr):Prop where
 at_:W.findIn K (.ref C) m=some (some (.ref f))
 fn:W.isFn K (.ref f)=true
 kp:W.keepIn K (.ref f)=true
section
variable {X:Cx}{pins:List (Addr × Obj)}{σ:St}{H:Hp}{s:Shared}{a C dx:Addr}{fs:List (Str × V)}{f:Str}{v:V}{A:Around}{E:Value->Shared->Prop}
theorem d5f{b:Bool}{Q:Value->Shared->Prop}(I:Inv X pins σ H s)(e:H a=some (.ins C dx fs))(c:Cls X.K C)(n:a6i X.K C f)(l:fs.lookup f=some v)
 (h : ∀ u s',Inv X pins σ H s'->a8c v u->Q u s'):wpAny (model X.prog X.w) A (getAttr (.ref a) f b) Q E s:=by
 obtain⟨mA,O,r,_,_,_⟩:=d6m I.hok e
 obtain⟨u,hu,ru⟩:=d8o.some_of (v:=v) (o:=mA f) (by rw[<- l]; exact r f)
 exact g3b I.kIn O (c.get f) c.hd n hu (f1n ru) (h u _ (I.tok _) ru)
theorem d5e{m:Str}{g:Addr}{pl:Sem Bool}{Q:Value × List Value->Shared->Prop}(I:Inv X pins σ H s)(e:H a=some (.ins C dx fs))(c:Cls X.K C)(k:b3d X.K C m g)(l:fs.lookup m=none)
 (h:Q (.ref g,[.ref a]) s):wpAny (model X.prog X.w) A (getMethod (.ref a) m pl) Q E s:=by
 obtain⟨mA,O,r,_,_,_⟩:=d6m I.hok e
 have hn:mA m=none:=d8o.none_of (by rw[<- l]; exact r m)
 exact f7y I.kIn O (c.get m) k.at_ k.fn hn h
theorem d4t{y:V}{u:Value}{Q:Unit->Shared->Prop}(I:Inv X pins σ H s)(e:H a=some (.ins C dx fs))(c:Cls X.K C)(n:a6i X.K C f)(hl:fs.length < 1000)(ry:a8c y u)
 (h : ∀ s',Inv X pins σ (upd H a (.ins C dx (c7g f y fs))) s'->Q () s'):wpAny (model X.prog X.w) A (setAttr (.ref a) f u) Q E s:=by
 obtain⟨mA,O,r,wi,_,ho⟩:=d6m I.hok e
 have hz:(fs.map (·.1)).length<=sizeLine:=by rw[List.length_map,sizeLine_eq]; omega
 refine g1d I.kIn O c.sa c.po n.taker c.hd wi hz fun h' O' sb=>h _ ?_
 have hd : ∃ o,h'.get? dx=some o:=let ⟨o,_,_,e',_⟩:=O'.ns; ⟨o,e'⟩
 refine I.write (x:=a) (e:=dx) (by rw[e]; exact True.intro) (.inr ho) (fun b q hb z=>(sb.2 b hb).trans z) hd ?_
 refine⟨by rw[a1c O.ne]; exact ho,?_,O.ne,O'.obj,_,O'.ns,fun g=>?_,fun g hg=>?_⟩
 ·have:=d0r f y fs; omega
 ·show d8o ((c7g f y fs).lookup g) (if g=f then some u else mA g)
  rw[d0q]
  by_cases q:g=f
  ·rw[if_pos q,if_pos q]; exact ry
  ·rw[if_neg q,if_neg q]; exact r g
 ·by_cases q:g=f
  ·rw[q]; exact (d0t f y fs).1
  ·refine (d0t f y fs).2 g (wi g fun z=>hg ?_)
   show (if g=f then some u else mA g)=none
   rw[if_neg q]; exact z
theorem Inv.made(I:Inv X pins σ H s):Inv X pins σ (upd (upd H s.heap.objs.size (.own (s.heap.objs.size+1))) (s.heap.objs.size+1) (.ins C s.heap.objs.size []))
 { s with heap:=(s.heap.push W.emptyDict).push (W.instObj C s.heap.objs.size) }:=by
 have e1:(s.heap.push W.emptyDict).get? s.heap.objs.size=some W.emptyDict:=Heap.get?_push_size s.heap rfl
 have e2:((s.heap.push W.emptyDict).push (W.instObj C s.heap.objs.size)).get? (s.heap.objs.size+1)=some (W.instObj C s.heap.objs.size):=by
  have:=Heap.get?_push_size (s.heap.push W.emptyDict) (o:=W.instObj C s.heap.objs.size) rfl
  rwa [Heap.size_push]at this
 have e3:(s.heap.push W.emptyDict).Ns s.heap.objs.size (fun _=>none):=⟨W.emptyDict,#[],_,e1,rfl,(fun e he=>absurd he (by simp)),fun _=>rfl⟩
 have I1:=I.laid (a:=s.heap.objs.size) (o:=.own (s.heap.objs.size+1)) (h':=s.heap.push W.emptyDict) (t':=s.toks) (fun b u q=>Heap.get?_push_of_some _ q) (Nat.le_refl _) ⟨_,e1⟩
 refine I1.laid (a:=s.heap.objs.size+1) (o:=.ins C s.heap.objs.size []) (t':=s.toks) (fun b u q=>Heap.get?_push_of_some _ q) (Nat.le_of_eq (Heap.size_push _ _)) ?_
 have ne:s.heap.objs.size≠s.heap.objs.size+1:=Nat.ne_of_lt (Nat.lt_succ_self _)
 refine⟨by rw[a1c ne,a0v],Nat.zero_le _,ne,e2,fun _=>none,(Heap.Ns1.of_empty e3).at fun o q=>Heap.get?_push_of_some _ q,fun _=>True.intro,fun y hy=>absurd rfl hy⟩
theorem g3v{prog:Program}{w:World}{env:Env}{e:Expr}{f:Str}{pos:Pos}{s:Shared}{Q:Value->Shared->Prop}(hb:attributeBase e f env (eval e env)=eval e env)
 (h:wpAny (model prog w) A (eval e env) (fun o s₁=>wpAny (model prog w) A (getAttr o f true) Q E s₁) E s):wpAny (model prog w) A (eval (.Attribute e f pos) env) Q E s :=
 Attribute_any_ h (by rw[arm_eval_Attribute,hb])
end
def h2r(K:W.Frag)(ta:TE)(f:Str):TE:=fun σ H Q=>ta σ H fun x H1=>∃ a C dx fs v,x=.ref a/\H1 a=some (.ins C dx fs)/\Cls K C/\a6i K C f/\fs.lookup f=some v/\Q v H1
def h2x(K:W.Frag)(ta tv:TE)(f:Str):TS:=fun D σ H=>tv σ H fun y H1=>ta σ H1 fun x H2=>∃ a C dx fs,x=.ref a/\H2 a=some (.ins C dx fs)/\Cls K C/\a6i K C f/\fs.length < 1000 /\
 D.nx σ (upd H2 a (.ins C dx (c7g f y fs)))
def h3q(X:Cx)(op:Operator)(rd:V->V->Hp->VK->Prop):Prop :=
 ∀ (pins:List (Addr × Obj)) (s:Shared) (σ:St) (H:Hp) (x y:V) (u v:Value) (Q:VK),Inv X pins σ H s->a8c x u->a8c y v->rd x y H Q->wpAny (model X.prog X.w) X.A (inplaceOp op u v) (EP X pins σ Q) X.xe s
def e9r(K:W.Frag)(ta tv:TE)(rd:V->V->Hp->VK->Prop)(f:Str):TS:=fun D σ H=>ta σ H fun x H1=>∃ a C dx fs v,x=.ref a/\H1 a=some (.ins C dx fs)/\Cls K C/\a6i K C f/\fs.lookup f=some v /\
 tv σ H1 fun y H2=>rd v y H2 fun z H3=>∃ dx' fs',H3 a=some (.ins C dx' fs')/\fs'.length < 1000/\D.nx σ (upd H3 a (.ins C dx' (c7g f z fs')))
section
variable {X:Cx}{o e value:Expr}{f:Str}{pos pos' tpos:Pos}{ta tv:TE}
theorem g6d(he:PE X e ta)(hb:attributeBase e f X.env (eval e X.env)=eval e X.env):PE X (.Attribute e f pos) (h2r X.K ta f):=by
 intro pins s σ H Q I h
 refine g3v hb (thn (he pins s σ H _ I h) fun u s1 ⟨x,H1,I1,rx,a,C,dx,fs,v,ex,ea,c,n,l,q⟩=>?_)
 subst ex
 obtain rfl:u=Value.ref a:=rx
 exact d5f I1 ea c n l fun u' s2 I2 ru=>⟨v,H1,I2,ru,q⟩
theorem g5x(ha:PE X o ta)(hv:PE X value tv)(hs:swapsWith value (some (.Attribute o f pos')) pos.line X.env=pure false):PS X (.Assign [.Attribute o f pos'] value pos) (h2x X.K ta tv f):=by
 intro pins s σ H D I h
 refine plainObj_wpAny_Assign_Attribute (thn (hv pins s σ H _ I h) fun u s1 ⟨y,H1,I1,ry,q⟩=>thn (ha pins s1 σ H1 _ I1 q) fun ov s2 ⟨x,H2,I2,rx,a,C,dx,fs,ex,ea,c,n,l,q2⟩=>?_) hs
 subst ex
 obtain rfl:ov=Value.ref a:=rx
 exact d4t I2 ea c n l ry fun s3 I3=>⟨σ,_,I3,q2⟩
theorem f0f{op:Operator}{rd:V->V->Hp->VK->Prop}(ha:PE X o ta)(hv:PE X value tv)(hop:h3q X op rd):PS X (.AugAssign (.Attribute o f tpos) op value pos) (e9r X.K ta tv rd f):=by
 intro pins s σ H D I h
 refine wpAny_AugAssign_AttributeAny (thn (ha pins s σ H _ I h) fun ov s1 ⟨x,H1,I1,rx,a,C,dx,fs,v,ex,ea,c,n,l,q⟩=>?_)
 subst ex
 obtain rfl:ov=Value.ref a:=rx
 refine d5f I1 ea c n l fun u s2 I2 ru=>thn (hv pins s2 σ H1 _ I2 q) fun w3 s3 ⟨y,H2,I3,ry,q3⟩=>thn (hop pins s3 σ H2 v y u w3 _ I3 ru ry q3) fun w4 s4 ⟨z,H3,I4,rz,dx',fs',ea',l',q4⟩=>?_
 exact d4t I4 ea' c n l' rz fun s5 I5=>⟨σ,_,I5,q4⟩
def h2y:V->V->Hp->VK->Prop:=fun x y H Q=>∃ i j,x=.int i/\y=.int j/\Q (.int (i+j)) H
theorem g7r:h3q X .Add h2y:=by
 rintro pins s σ H x y u v Q I rx ry ⟨i,j,rfl,rfl,q⟩
 obtain⟨t,rfl⟩:=(show ∃ t,u=Value.int i t from rx)
 obtain⟨t',rfl⟩:=(show ∃ t',v=Value.int j t' from ry)
 exact PyProof.Rows.iadd_int ⟨.int (i+j),H,I.tok _,⟨_,rfl⟩,q⟩
end
section
variable {X:Cx}{pins:List (Addr × Obj)}{σ:St}{H:Hp}{s:Shared}{A:Around}{E:Value->Shared->Prop}{Q:Value->Shared->Prop}{c:Value}{b:Bool}
inductive c7c (K:W.Frag) (H:Hp):V->Value->Prop where
 | non:c7c K H .non (.type "NoneType")
 | bl (x:Bool):c7c K H (.bl x) (.type "bool")
 | int (i:Int):c7c K H (.int i) (.type "int")
 | str (x:Str):c7c K H (.str x) (.type "str")
 | flt (x:UInt64):c7c K H (.flt x) (.type "float")
 | lst {a:Addr} {xs:List V} (e:H a=some (.lst xs)):c7c K H (.ref a) (.type "list")
 | frz {a:Addr} {o:Obj} {xs:List V} (e:H a=some (.frz o (.lst xs))):c7c K H (.ref a) (.type "list")
 | tup {a:Addr} {xs:List V} (e:H a=some (.tup xs)):c7c K H (.ref a) (.type "tuple")
 | dK {a:Addr} {kvs:List (Key × V)} (e:H a=some (.dK kvs)):c7c K H (.ref a) (.type "dict")
 | dT {a:Addr} {kvs:List (List Key × V)} (e:H a=some (.dT kvs)):c7c K H (.ref a) (.type "dict")
 | ins {a C dx:Addr} {fs:List (Str × V)} (e:H a=some (.ins C dx fs)) (cl:Cls K C) (ha:W.findIn K (.ref C) "__class__" = some (some (.builtin "object.__class__")))
  (hn:W.specialIn K (.builtin "object.__class__") "__get__" = some (some (.builtin "getset_descriptor.__get__"))) (htk:W.takesIn K (.builtin "object.__class__")=some true)
  (hm:W.mroIn K C (.type "object")=some true):c7c K H (.ref a) (.ref C)
theorem d9p{x:V}{u t:Value}(I:Inv X pins σ H s)(rx:a8c x u)(ty:c7c X.K H x t)(e:W.kitOne X.K t c=some b)(h : ∀ tk,Q (.bool b) { s with toks:=tk }) :
 wpAny (model X.prog X.w) A (call (.builtin "isinstance") [u,c]) Q E s:=by
 cases ty with
 | non=>cases (show u=Value.none from rx); exact W.kia_one W.kitx_none I.kIn True.intro e (fun z=>nomatch z) h
 | bl y=>cases (show u=Value.bool y from rx); exact W.kia_one W.kitx_bool I.kIn True.intro e (fun z=>nomatch z) h
 | int i=>obtain⟨t,q⟩:=(show ∃ t,u=Value.int i t from rx); cases q; exact W.kia_one W.kitx_int I.kIn True.intro e (fun z=>nomatch z) h
 | str y=>obtain⟨t,q⟩:=(show ∃ t,u=Value.str y t from rx); cases q; exact W.kia_one W.kitx_str I.kIn True.intro e (fun z=>nomatch z) h
 | flt y=>obtain⟨t,q⟩:=(show ∃ t,u=Value.float y t from rx); cases q; exact W.kia_one W.kitx_float I.kIn True.intro e (fun z=>nomatch z) h
 | @lst a xs ea =>
  cases (show u=Value.ref a from rx)
  obtain⟨_,_,n,_,h1⟩:=(show a8r X.prog X.w H s.heap a (.lst xs) from I.hok a _ ea)
  exact W.kia_one W.kitx_list I.kIn ⟨_,h1,rfl⟩ e (fun z=>nomatch z) h
 | @frz a ob xs ea =>
  cases (show u=Value.ref a from rx)
  obtain⟨_,_,_,n,_,h1⟩:=(show a8r X.prog X.w H s.heap a (.frz ob (.lst xs)) from I.hok a _ ea)
  exact W.kia_one W.kitx_list I.kIn ⟨_,h1,rfl⟩ e (fun z=>nomatch z) h
 | @tup a xs ea =>
  cases (show u=Value.ref a from rx)
  obtain⟨_,_,_,p⟩:=(show a8r X.prog X.w H s.heap a (.tup xs) from I.hok a _ ea)
  obtain⟨o,h1,h2,_⟩:=p
  exact W.kia_one W.kitx_tuple I.kIn ⟨o,h1,h2⟩ e (fun z=>nomatch z) h
 | @dK a kvs ea =>
  cases (show u=Value.ref a from rx)
  obtain⟨_,_,vs,_,p⟩:=(show a8r X.prog X.w H s.heap a (.dK kvs) from I.hok a _ ea)
  obtain⟨o,es,ep,h1,h2,_⟩:=p
  exact W.kia_one W.kitx_dict I.kIn ⟨o,h1,h2.1⟩ e (fun z=>nomatch z) h
 | @dT a kvs ea =>
  cases (show u=Value.ref a from rx)
  obtain⟨_,_,xs,_,o,es,ep,h1,h2,_⟩:=(show a8r X.prog X.w H s.heap a (.dT kvs) from I.hok a _ ea)
  exact W.kia_one W.kitx_dict I.kIn ⟨o,h1,h2.1⟩ e (fun z=>nomatch z) h
 | @ins a C dx fs ea cl ha hn htk hm =>
  cases (show u=Value.ref a from rx)
  obtain⟨mA,O,_⟩:=d6m I.hok ea
  obtain⟨od,J,_⟩:=O.look
  exact W.kia_one (W.kitx_own (cl.get _) cl.hd ha hn htk hm) I.kIn J e (fun z=>nomatch z) h
end
structure c2r (k:Nat) (A:Around):Prop where
 hd:A.handled=none
 dp:A.depth+3*k+5 < recursionLimit
 un:A.units+16*k+200 < cLine
theorem c2r.mono{j k:Nat}{A:Around}(r:c2r k A)(h:j<=k):c2r j A:=⟨r.hd,by have:=r.dp; omega,by have:=r.un; omega⟩
theorem c2r.deeper{k:Nat}{A:Around}(r:c2r (k+1) A)(env:Env):c2r k (A.deeper env) :=
 ⟨r.hd,by have:=r.dp; show A.depth+1+3*k+5 < _; omega,by have:=r.un; show A.units+3+16*k+200 < _; omega⟩
theorem e7f {A:Around} {C:Addr} {us:List Value} {kw:List (Str × Value)}:(A.under (.builtin "type.__call__" ⟨.ref C :: us,kw⟩)).depth=A.depth+1:=by
 first | rfl | simp[Around.under,Code.weight,Code.isCreation,Code.isGuard,Code.isCaller,Code.frames,Code.isFrame,guardIds]
theorem e7e {A:Around} {C:Addr} {us:List Value} {kw:List (Str × Value)}:(A.under (.builtin "type.__call__" ⟨.ref C :: us,kw⟩)).units=A.units+1:=by
 first | rfl | simp[Around.under,Code.cUnits,Code.frames,Code.isFrame]
theorem c2r.make {k:Nat} {A:Around} (r:c2r (k+1) A) (C:Addr) (us:List Value) (kw:List (Str × Value)):c2r k (A.under (.builtin "type.__call__" ⟨.ref C :: us,kw⟩)) :=
 ⟨r.hd,by have:=r.dp; rw[e7f]; omega,by have:=r.un; rw[e7e]; omega⟩
theorem c2r.depth{k:Nat}{A:Around}(r:c2r k A):A.depth < recursionLimit:=by have:=r.dp; omega
theorem c2r.units{k:Nat}{A:Around}(r:c2r k A):A.units+64 < cLine:=by have:=r.un; omega
def g0q:TA:=fun _ H Q=>Q [] H
def e6o(ta:TE)(tr:TA):TA:=fun σ H Q=>ta σ H fun x H1=>tr σ H1 fun xs H2=>Q (x :: xs) H2
section
variable {X:Cx}{e:Expr}{es:List Expr}{te:TE}{t:TA}{pos:Pos}
theorem f9m:PA X [] g0q:=fun _ _ _ _ H Q I h=>Calls.spliced_nil ⟨[],H,I,.nil,h⟩
theorem g2g(ha:PE X e te)(hr:PA X es t)(hs:starEach (e :: es) X.env=(false,eval e X.env) :: starEach es X.env:=by rfl):PA X (e :: es) (e6o te t):=by
 intro pos pins s σ H Q I h
 rw[hs]
 show wpAny _ _ (spliced ((false,eval e X.env) :: backTo pos (starEach es X.env))) _ _ s
 refine Calls.spliced_cons (thn (ha pins s σ H _ I h) fun u s1 ⟨x,H1,I1,r1,q1⟩=>?_)
 exact thn (hr pos pins s1 σ H1 _ I1 q1) fun us s2 ⟨xs,H2,I2,r2,q2⟩=>⟨x :: xs,H2,I2,.cons r1 r2,q2⟩
end
abbrev Sp:=List V->Hp->VK->XK->Prop
abbrev CXT:=List Env->Hp->Shared->XK->Value->Shared->Prop
structure g0m (P:Program) (w:World) (K:W.Frag) (mg:Str->Option Value) (base:Heap) (A:Around) (outer:List Env) (s:Shared) (H:Hp):Prop where
 frames:A.frames=some outer
 mod:Mod K mg base
 bs : ∀ b o,base.get? b=some o->s.heap.get? b=some o/\H b=none
 bsz:base.objs.size<=s.heap.objs.size
 funs:s.heap.FunFrames base outer
 frf : ∀ b∈frs outer,H b=none
 hok:HOk P w H s.heap
 bare:AllBare s.gens
def CE(outer:List Env)(P:Program)(w:World)(H:Hp)(s:Shared)(Q:VK)(u:Value)(s':Shared):Prop :=
 ∃ v H',s'.os=s.os/\AllBare s'.gens/\Un (frs outer) [] H H' s.heap s'.heap/\HOk P w H' s'.heap/\a8c v u/\Q v H'
def CR(CX:CXT)(outer:List Env)(P:Program)(w:World)(H:Hp)(s:Shared)(Q:VK)(E:XK)(r:Result)(s':Shared):Prop :=
 match r with
 | .ok (.ret u)=>CE outer P w H s Q u s'
 | .ok _=>False
 | .error e=>CX outer H s E e s'
structure b8g (P:Program) (w:World) (K:W.Frag) (mg:Str->Option Value) (base:Heap) (CX:CXT) (k:Nat) (f:Addr) (fd:FuncData) (ps:List Str) (sp:Sp):Prop where
 len : ∀ vs H Q E,sp vs H Q E->vs.length=ps.length
 run : ∀ (A:Around) (outer:List Env) (s:Shared) (H:Hp) (args:Args) (us:List Value) (vs:List V) (Q:VK) (E:XK),c2r k A->g0m P w K mg base A outer s H->BindsTo s fd args (ps.zip us)->a5s vs us->sp vs H Q E ->
  codeAny (model P w) A (.call (.ref f) args) (CR CX outer P w H s Q E) s
theorem g0m.make{P:Program}{w:World}{K:W.Frag}{mg:Str->Option Value}{base:Heap}{A:Around}{outer:List Env}{s:Shared}{H:Hp}(e:g0m P w K mg base A outer s H)(C:Addr)(us:List Value)(kw:List (Str × Value)) :
 g0m P w K mg base (A.under (.builtin "type.__call__" ⟨.ref C :: us,kw⟩)) outer s H:=⟨by first | exact e.frames | (simpa [Around.under,Code.envs,Code.isFrame,pushEnvs] using e.frames),e.mod,e.bs,e.bsz,e.funs,e.frf,e.hok,e.bare⟩
section
variable {X:Cx}{pins:List (Addr × Obj)}{σ:St}{H:Hp}{s s':Shared}
theorem Inv.env0(I:Inv X pins σ H s):g0m X.prog X.w X.K X.mg X.base X.A X.stack s H :=
 ⟨I.ok.frames,I.ok.mod,I.bs,Nat.le_trans I.ok.bsz I.sz,I.stack,I.stkFree,I.hok,I.bare⟩
theorem Inv.after{Q:VK}{u:Value}(I:Inv X pins σ H s)(h:CE X.stack X.prog X.w H s Q u s'):EP X pins σ Q u s':=by
 obtain⟨v,H',os,bare,un,hok,r,q⟩:=h
 obtain⟨hh,g,d,t,os'⟩:=s'
 obtain rfl:os'=s.os:=os
 exact⟨v,H',I.call (h':=hh) (g':=g) (d':=d) (t':=t) (ch:=[]) un hok bare (fun b z=>absurd z (by simp)),r,q⟩
end
def e9d(sp:Sp)(dvs:List V)(E:XK)(t:TA):TE:=fun σ H Q=>t σ H fun vs H1=>sp (vs++dvs) H1 Q E
def e9c(C:Addr)(m:Str)(sp:Sp)(dvs:List V)(E:XK)(ta:TE)(t:TA):TE:=fun σ H Q=>ta σ H fun x H1=>∃ a dx fs,x=.ref a/\H1 a=some (.ins C dx fs)/\fs.lookup m=none /\
 t σ H1 fun vs H2=>sp (x :: (vs++dvs)) H2 Q E
def g4p(C:Addr)(sp:Sp)(dvs:List V)(E:XK)(t:TA):TE:=fun σ H Q=>t σ H fun vs H1=>∀ x dx,H1 x=none->H1 dx=none->dx≠x ->
 sp (.ref x :: (vs++dvs)) (upd (upd H1 dx (.own x)) x (.ins C dx [])) (fun v H2=>v=.non/\Q (.ref x) H2) E
def a1h(K:W.Frag)(fd:FuncData)(ps:List Str)(ds:List Value):Prop :=
 ∀ (s:Shared) (us:List Value),K.In s.heap->(us++ds).length=ps.length->BindsTo s fd ⟨us,[]⟩ (ps.zip (us++ds))
theorem a1h.all{K:W.Frag}{fd:FuncData}{ps:List Str}(h : ∀ us:List Value,us.length=ps.length->bindArgs fd ⟨us,[]⟩=pure (ps.zip us)):a1h K fd ps []:=fun s us _ hl=>by
 rw[List.append_nil]at hl ⊢
 exact .of_eq (h us hl)
def c8y(CX:CXT)(X:Cx)(E:XK):Prop:=∀ (pins:List (Addr × Obj)) (σ:St) (H:Hp) (s:Shared) (e:Value) (s':Shared),Inv X pins σ H s->CX X.stack H s E e s'->X.xe e s'
section
variable {X:Cx}{CX:CXT}{k:Nat}{f C:Addr}{fd:FuncData}{ps:List Str}{sp:Sp}{dvs:List V}{ds:List Value}{E:XK}{x m:Str}{p pos apos:Pos}{e o:Expr}{es:List Expr}{ta:TE}{t:TA}
theorem e4s{pins:List (Addr × Obj)}{σ:St}{H:Hp}{s:Shared}{Q:VK}{us:List Value}{vs:List V}(F:b8g X.prog X.w X.K X.mg X.base CX k f fd ps sp)(hr:c2r k X.A)(hb:a1h X.K fd ps ds)(hd:a5s dvs ds)(hx:c8y CX X E)
 (I:Inv X pins σ H s) (r:a5s vs us) (h:sp (vs++dvs) H Q E):wpAny (model X.prog X.w) X.A (call (.ref f) us) (EP X pins σ Q) X.xe s:=by
 have r2:a5s (vs++dvs) (us++ds):=r.append hd
 have hl:(us++ds).length=ps.length:=by rw[<- r2.length]; exact F.len _ _ _ _ h
 refine wpAny_call (codeAny_mono (F.run X.A X.stack s H ⟨us,[]⟩ (us++ds) (vs++dvs) Q E hr I.env0 (hb s us I.kIn hl) r2 h) fun r s' hq=>?_)
 cases r with
 | error e=>exact hx pins σ H s e s' I hq
 | ok fl =>
  cases fl with
  | ret u=>exact I.after hq
  | next=>exact False.elim hq
  | brk=>exact False.elim hq
  | cont=>exact False.elim hq
theorem g2e(F:b8g X.prog X.w X.K X.mg X.base CX k f fd ps sp)(hr:c2r k X.A)(hg:Gl X x)(hm:X.mg x=some (.ref f))(hk:W.keepIn X.K (.ref f)=true)(hb:a1h X.K fd ps ds)(hd:a5s dvs ds)(hx:c8y CX X E)
 (ha:PA X (e :: es) t) (hdb:(x == ("__debug__" : Str))=false:=by decide) (he:starEach (e :: es) X.env=(false,eval e X.env) :: starEach es X.env:=by rfl) (hpl:(backTo pos (starEach es X.env)).any (·.1)=false:=by rfl) :
 PE X (.Call (.Name x p) (e :: es) [] pos) (e9d sp dvs E t):=by
 intro pins s σ H Q I h
 refine wpAny_Call_Name_kw (d0s I hg hm ?_ hdb)
 refine W.callWith_K (h₀:=X.base) I.ok.mod.kin hk (thn (ha pos pins s σ H _ I h) fun us s1 ⟨vs,H1,I1,r,q⟩=>⟨I1.kIn,?_⟩) he hpl
 exact e4s F hr hb hd hx I1 r q
theorem f0m{pl:Sem Bool}(he:PE X o ta)(c:Cls X.K C)(hm:b3d X.K C m f)(F:b8g X.prog X.w X.K X.mg X.base CX k f fd ps sp)(hr:c2r k X.A)(hb:a1h X.K fd ps ds)(hd:a5s dvs ds)(hx:c8y CX X E)(ha:PA X (e :: es) t)
 (hst:starEach (e :: es) X.env=(false,eval e X.env) :: starEach es X.env:=by rfl) (hpl:(backTo pos (starEach es X.env)).any (·.1)=false:=by rfl)
 (ht:eval (.Call (.Attribute o m apos) (e :: es) [] pos) X.env=(do
   let ov <- eval o X.env
   standAt apos.atName
   let (f,first) <- holding [ov] (getMethod ov m pl)
   callWith pos f first (backTo pos (starEach (e :: es) X.env)) (backToKw pos (keywordEach [] X.env))):=by rfl) :
 PE X (.Call (.Attribute o m apos) (e :: es) [] pos) (e9c C m sp dvs E ta t):=by
 intro pins s σ H Q I h
 refine W.methodCall_KW (pl:=pl) (thn (he pins s σ H _ I h) fun u s1 ⟨x,H1,I1,rx,a,dx,fs,ex,ea,l,q⟩=>?_) ht
 subst ex
 obtain rfl:u=Value.ref a:=rx
 refine d5e I1 ea c hm l ?_
 refine W.callWith_K (first:=[.ref a]) (h₀:=X.base) I.ok.mod.kin hm.kp (thn (ha pos pins s1 σ H1 _ I1 q) fun us s2 ⟨vs,H2,I2,r,q2⟩=>⟨I2.kIn,?_⟩) hst hpl
 exact e4s (us:=.ref a :: us) (vs:=.ref a :: vs) F hr hb hd hx I2 (.cons rfl r) q2
theorem f6s{pl:Sem Bool}(he:PE X o ta)(c:Cls X.K C)(hm:b3d X.K C m f)(F:b8g X.prog X.w X.K X.mg X.base CX k f fd ps sp)(hr:c2r k X.A)(hb:a1h X.K fd ps ds)(hd:a5s dvs ds)(hx:c8y CX X E)
 (ht:eval (.Call (.Attribute o m apos) [] [] pos) X.env=(do
   let ov <- eval o X.env
   standAt apos.atName
   let (f,first) <- holding [ov] (getMethod ov m pl)
   callWith pos f first (backTo pos (starEach [] X.env)) (backToKw pos (keywordEach [] X.env))):=by rfl) :
 PE X (.Call (.Attribute o m apos) [] [] pos) (e9c C m sp dvs E ta g0q):=by
 intro pins s σ H Q I h
 refine W.methodCall_KW (pl:=pl) (thn (he pins s σ H _ I h) fun u s1 ⟨x,H1,I1,rx,a,dx,fs,ex,ea,l,q⟩=>?_) ht
 subst ex
 obtain rfl:u=Value.ref a:=rx
 refine d5e I1 ea c hm l ?_
 exact W.callWith_K0 (first:=[.ref a]) I1.kIn hm.kp (e4s (us:=[.ref a]) (vs:=[.ref a]) F hr hb hd hx I1 (.cons rfl .nil) q)
structure Mk (K:W.Frag) (C f:Addr):Prop where
 makes:W.makesIn K C=true
 init:W.findIn K (.ref C) "__init__" = some (some (.ref f))
 fn:W.isFn K (.ref f)=true
 kp:W.keepIn K (.ref C)=true
theorem f6a{pins:List (Addr × Obj)}{σ:St}{H:Hp}{s:Shared}{Q:VK}{us:List Value}{vs:List V}(M:Mk X.K C f)(F:b8g X.prog X.w X.K X.mg X.base CX k f fd ps sp)(hr:c2r (k+1) X.A)(hb:a1h X.K fd ps ds)(hd:a5s dvs ds)
 (hx:c8y CX X E) (I:Inv X pins σ H s) (r:a5s vs us)
 (h : ∀ x dx,H x=none->H dx=none->dx≠x->sp (.ref x :: (vs++dvs)) (upd (upd H dx (.own x)) x (.ins C dx [])) (fun v H2=>v=.non/\Q (.ref x) H2) E) :
 wpAny (model X.prog X.w) X.A (call (.ref C) us) (EP X pins σ Q) X.xe s:=by
 have hq:=h (s.heap.objs.size+1) s.heap.objs.size (I.hok.fresh (Nat.le_succ _)) (I.hok.fresh (Nat.le_refl _)) (Nat.ne_of_lt (Nat.lt_succ_self _))
 have I2:=Inv.made (C:=C) I
 have r2:a5s (V.ref (s.heap.objs.size+1) :: (vs++dvs)) (Value.ref (s.heap.objs.size+1) :: (us++ds)):=.cons rfl (r.append hd)
 have hl:(Value.ref (s.heap.objs.size+1) :: us++ds).length=ps.length:=by
  have e:=r2.length
  rw[F.len _ _ _ _ hq]at e
  exact e.symm
 refine wpAny_call (f7k (f:=f) I.kIn M.makes M.init (beq_iff_eq.mp M.fn) (codeAny_mono (F.run _ X.stack _ _ ⟨Value.ref (s.heap.objs.size+1) :: us,[]⟩ (Value.ref (s.heap.objs.size+1) :: (us++ds)) _ _ E (hr.make C us [])
  (I2.env0.make C us []) (hb _ (Value.ref (s.heap.objs.size+1) :: us) I2.kIn hl) r2 hq) fun r s' hq'=>?_))
 cases r with
 | error e=>exact hx pins σ _ _ e s' I2 hq'
 | ok fl =>
  cases fl with
  | ret u =>
   obtain⟨v,H',I3,rv,ev,q3⟩:=I2.after hq'
   subst ev
   exact⟨rv,⟨V.ref (s.heap.objs.size+1),H',I3,rfl,q3⟩⟩
  | next=>exact False.elim hq'
  | brk=>exact False.elim hq'
  | cont=>exact False.elim hq'
theorem g2a(M:Mk X.K C f)(F:b8g X.prog X.w X.K X.mg X.base CX k f fd ps sp)(hr:c2r (k+1) X.A)(hg:Gl X x)(hm:X.mg x=some (.ref C))(hb:a1h X.K fd ps ds)(hd:a5s dvs ds)(hx:c8y CX X E)
 (ha:PA X (e :: es) t) (hdb:(x == ("__debug__" : Str))=false:=by decide) (he:starEach (e :: es) X.env=(false,eval e X.env) :: starEach es X.env:=by rfl) (hpl:(backTo pos (starEach es X.env)).any (·.1)=false:=by rfl) :
 PE X (.Call (.Name x p) (e :: es) [] pos) (g4p C sp dvs E t):=by
 intro pins s σ H Q I h
 refine wpAny_Call_Name_kw (d0s I hg hm ?_ hdb)
 refine W.callWith_K (h₀:=X.base) I.ok.mod.kin M.kp (thn (ha pos pins s σ H _ I h) fun us s1 ⟨vs,H1,I1,r,q⟩=>⟨I1.kIn,?_⟩) he hpl
 exact f6a M F hr hb hd hx I1 r q
end
section
variable {X:Cx}{CX:CXT}{k:Nat}{f C:Addr}{fd:FuncData}{ps ks:List Str}{sp:Sp}{E:XK}{x m:Str}{p pos apos kpos:Pos}{e o:Expr}{es:List Expr}{kws:List Keyword}{te ta:TE}{t tk:TA}{nm:Option Str}
structure h3p (K:W.Frag) (fd:FuncData) (ps ks:List Str) (g:List Value->List Value->List Value) (gV:List V->List V->List V):Prop where
 to : ∀ (s:Shared) (us ws:List Value),K.In s.heap->(g us ws).length=ps.length->BindsTo s fd ⟨us,ks.zip ws⟩ (ps.zip (g us ws))
 rel : ∀ {vs:List V} {us:List Value} {zs:List V} {ws:List Value},a5s vs us->a5s zs ws->a5s (gV vs zs) (g us ws)
variable {g:List Value->List Value->List Value}{gV:List V->List V->List V}
end
structure a0u (N P:List Str) (sc:Scope):Prop where
 kind:sc.kind=.function
 co:sc.isCoroutine=false
 gen:sc.isGenerator=false
 nd:N.Nodup
 pre:N.take P.length=P
 par : ∀ x∈P,sc.names.lookup x=some .local\/sc.names.lookup x=some .cell
 nofree : ∀ y∈sc.names,y.2 ≠ .free
theorem e0j{kindOf:Str->Option NameKind}{x:Str} : ∀ {binds:List (Str × Value)} {m:Str->Option Value},(∀ v,(x,v)∉binds)->bindL kindOf binds m x=m x
 | [],_,_=>rfl
 | (n,v) :: r,m,h=>by
  unfold bindL
  rw[e0j fun w hw=>h w (List.mem_cons_of_mem _ hw)]
  split
  ·have:x≠n:=by rintro rfl; exact h v List.mem_cons_self
   simp[this]
  ·rfl
theorem e0l{kindOf:Str->Option NameKind}{x:Str} : ∀ {binds:List (Str × Value)} {m:Str->Option Value},(∀ v,(x,v)∉binds)->bindC kindOf binds m x=m x
 | [],_,_=>rfl
 | (n,v) :: r,m,h=>by
  unfold bindC
  rw[e0l fun w hw=>h w (List.mem_cons_of_mem _ hw)]
  split
  ·rfl
  ·have:x≠n:=by rintro rfl; exact h v List.mem_cons_self
   simp[this]
theorem e0k{kindOf:Str->Option NameKind}{x:Str}{v:Value} : ∀ {P:List Str} {vs:List Value} {i:Nat} {m:Str->Option Value},P.Nodup->P[i]? = some x->vs[i]? = some v->kindOf x=some .local ->
 bindL kindOf (P.zip vs) m x=some v
 | [],_,_,_,_,h,_,_=>by simp at h
 | _ :: _,[],_,_,_,_,h,_=>by simp at h
 | p :: P,w :: vs,0,m,nd,h1,h2,hk=>by
  simp at h1 h2; subst h1; subst h2
  show bindL kindOf ((p,w) :: P.zip vs) m p=_
  unfold bindL
  rw[e0j fun v hv=>(List.nodup_cons.mp nd).1 (List.of_mem_zip hv).1,if_pos hk]
  simp
 | p :: P,w :: vs,i+1,m,nd,h1,h2,hk=>by
  show bindL kindOf ((p,w) :: P.zip vs) m x=_
  unfold bindL
  exact e0k (i:=i) (List.nodup_cons.mp nd).2 (by simpa using h1) (by simpa using h2) hk
theorem e0m{kindOf:Str->Option NameKind}{x:Str}{v:Value} : ∀ {P:List Str} {vs:List Value} {i:Nat} {m:Str->Option Value},P.Nodup->P[i]? = some x->vs[i]? = some v->kindOf x≠some .local ->
 bindC kindOf (P.zip vs) m x=some v
 | [],_,_,_,_,h,_,_=>by simp at h
 | _ :: _,[],_,_,_,_,h,_=>by simp at h
 | p :: P,w :: vs,0,m,nd,h1,h2,hk=>by
  simp at h1 h2; subst h1; subst h2
  show bindC kindOf ((p,w) :: P.zip vs) m p=_
  unfold bindC
  rw[e0l fun v hv=>(List.nodup_cons.mp nd).1 (List.of_mem_zip hv).1,if_neg hk]
  simp
 | p :: P,w :: vs,i+1,m,nd,h1,h2,hk=>by
  show bindC kindOf ((p,w) :: P.zip vs) m x=_
  unfold bindC
  exact e0m (i:=i) (List.nodup_cons.mp nd).2 (by simpa using h1) (by simpa using h2) hk
def d3t(N:List Str)(vs:List V):St:=vs.map some++List.replicate (N.length - vs.length) none
def g0e(CX:CXT)(P:Program)(w:World)(K:W.Frag)(mg:Str->Option Value)(base:Heap)(N:List Str)(qual:Str)(scope:Scope)(f:Addr)(cd:Value)(A:Around)(outer:List Env)(s:Shared)(H:Hp)(E:XK):Cx where
 prog:=P
 w:=w
 K:=K
 mg:=mg
 base:=base
 A:=A.deeper (envOfC qual scope s.heap.objs.size f cd)
 N:=N
 s₀:=s
 H₀:=H
 env:=envOfC qual scope s.heap.objs.size f cd
 outer:=outer
 stack:=envOfC qual scope s.heap.objs.size f cd :: outer
 ex:=[]
 calm:=true
 fn:=fun _=>true
 pn:=[]
 xe:=fun e s'=>wpAny (model P w) (A.deeper (envOfC qual scope s.heap.objs.size f cd)) (leaving (envOfC qual scope s.heap.objs.size f cd) e) (fun _ s''=>CX outer H s E e s'') (fun e' s''=>CX outer H s E e' s'') s'
theorem e5x{sc:Scope}{n:Nat}{x:Str}(h:sc.names.lookup x=some .cell) : ∃ c,(cellsFrom n sc.names []).lookup x=some c:=by
 have q:=W.cellsFrom_some sc.names n [] (.inl h)
 exact Option.isSome_iff_exists.mp q
theorem f1j{CX:CXT}{P:Program}{w:World}{K:W.Frag}{mg:Str->Option Value}{base:Heap}{N ps:List Str}{qual:Str}{scope:Scope}{f:Addr}{cd:Value}{A:Around}{outer:List Env}{s s1:Shared}{H:Hp}{E:XK}{us:List Value}{vs:List V}
 (S:a0u N ps scope) (hd:A.handled=none) (e0:g0m P w K mg base A outer s H) (hl:vs.length=ps.length) (r:a5s vs us)
 (x:InCallC s s.heap.objs.size (bindL (envOfC qual scope s.heap.objs.size f cd).kindOf (ps.zip us) fun _=>none) (cellsFrom (s.heap.objs.size+1) scope.names []) (bindC (envOfC qual scope s.heap.objs.size f cd).kindOf (ps.zip us) fun _=>none) s1) :
 Inv (g0e CX P w K mg base N qual scope f cd A outer s H E) [] (d3t N vs) H s1:=by
 have hpl:ps.length<=N.length:=by have:=congrArg List.length S.pre; rw[List.length_take]at this; omega
 obtain⟨h1,tk,rfl,hk⟩:=x.done
 have noA : ∀ b:Addr,b∉(g0e CX P w K mg base N qual scope f cd A outer s H E).ex:=fun b z=>absurd (show b∈([]:List Addr) from z) (by simp)
 refine⟨⟨e0.mod,S.kind,rfl,rfl,Nat.le_refl _,fun y z c h1 h2=>?_,fun y hy=>?_,fun y c _ h=>?_,fun _=>hd,Around.frames_deeper e0.frames,.inr ⟨rfl,rfl⟩,fun b z=>absurd z (noA b),e0.bs,e0.bsz,fun b _ _=>noA b,fun b z=>absurd z (noA b),e0.funs,e0.frf⟩,
  rfl,e0.bare,Un.kept hk,⟨_,x.toInCall.ns,fun i y v h1 h2 h3=>?_⟩,fun y c h=>⟨_,x.cell y c h⟩,e0.hok.fresh (Nat.le_refl _),fun y c h=>?_,fun p hp=>absurd (show p∈([]:List (Addr × Obj)) from hp) (by simp),e0.hok.kept hk,?_⟩
 ·exact name_of_addr x.apart (PySem.mem_of_lookup h1) (PySem.mem_of_lookup h2)
 ·have hy:scope.names.lookup y=some .cell\/scope.names.lookup y=some .free:=hy
  rcases hy with hy | hy
  ·exact e5x hy
  ·exact absurd rfl (S.nofree _ (PySem.mem_of_lookup hy))
 ·exact Nat.le_of_lt (x.above y c (PySem.mem_of_lookup h))
 ·have hi:i < vs.length:=by
   unfold d3t at h2
   by_cases hi:i < vs.length
   ·exact hi
   ·rw[List.getElem?_append_right (by simpa using hi)]at h2
    rw[List.getElem?_replicate]at h2
    split at h2 <;> cases h2
  have ha:vs[i]? = some v:=by
   unfold d3t at h2
   rw[List.getElem?_append_left (by simpa using hi),List.getElem?_map]at h2
   cases e:vs[i]? with
   | none=>rw[e]at h2; cases h2
   | some a=>rw[e]at h2; cases h2; rfl
  obtain⟨u,hu,rv⟩:=r.get ha
  have hp:ps[i]? = some y:=by
   rw[<- S.pre,List.getElem?_take_of_lt (by omega)]; exact h1
  have ndP:ps.Nodup:=by rw[<- S.pre]; exact S.nd.sublist (List.take_sublist _ _)
  refine⟨u,rv,?_⟩
  rcases S.par y (List.mem_of_getElem? hp) with k | k
  ·exact .inl ⟨k,e0k ndP hp hu k⟩
  ·obtain⟨c,e⟩:=e5x (n:=s.heap.objs.size+1) k
   refine .inr ⟨.inl k,c,e,?_⟩
   have q:=x.cell y c e
   rw[e0m ndP hp hu (by show scope.names.lookup y≠_; rw[k]; decide)]at q
   exact q
 ·exact e0.hok.fresh (Nat.le_of_lt (x.above y c (PySem.mem_of_lookup h)))
 ·unfold d3t
  show _=N.length
  rw[List.length_append,List.length_map,List.length_replicate]
  omega
theorem g8f{CX:CXT}{P:Program}{w:World}{K:W.Frag}{mg:Str->Option Value}{base:Heap}{k:Nat}{f:Addr}{name qual:Str}{params:Arguments}{body:List Stmt}{scope:Scope}{dV kV doc pm cdv ct oc:Value}{an od:Option Addr}
 {osl:Array (Option Value)} {N ps:List Str} {sp:Sp} (lk:K.lookup f=some ⟨oc,od,.func (W.fnOf name qual params body scope dV kV doc pm an cdv ct),osl⟩) (hcd:W.codeIn K cdv qual=true) (S:a0u N ps scope)
 (len : ∀ vs H Q E,sp vs H Q E->vs.length=ps.length)
 (hbody : ∀ (A:Around) (outer:List Env) (s:Shared) (H:Hp) (vs:List V) (Q:VK) (E:XK),c2r k (A.deeper (envOfC qual scope s.heap.objs.size f cdv))->sp vs H Q E ->
   ∃ t,PSs (g0e CX P w K mg base N qual scope f cdv A outer s H E) body t/\t { nx:=fun _ H'=>Q .non H',rt:=Q } (d3t N vs) H) :
 b8g P w K mg base CX (k+1) f (W.fnOf name qual params body scope dV kV doc pm an cdv ct) ps sp:=by
 refine⟨len,fun A outer s H args us vs Q E hr e0 hb r hsp=>?_⟩
 have hl:=len _ _ _ _ hsp
 have KX:K.In s.heap:=e0.mod.kin.keeps fun b o e=>(e0.bs b o e).1
 have lim:s.heap.NoLimit:=e0.mod.nolimit.keeps fun b o e=>(e0.bs b o e).1
 have hkind : ∀ y∈ps.zip us,scope.names.lookup y.1=some .local\/(scope.names.lookup y.1=some .cell/\((cellsFrom (s.heap.objs.size+1) scope.names []).lookup y.1).isSome=true):=fun ⟨n,v⟩ hy=>by
  rcases S.par n (List.of_mem_zip hy).1 with q | q
  ·exact .inl q
  ·exact .inr ⟨q,W.cellsFrom_some _ _ _ (.inl q)⟩
 refine codeAny_call_function hr.depth (KX _ _ lk) rfl S.co S.gen rfl (W.codeRec_of KX hcd) (hb _ _ _ _ ?_)
 refine wpAny_newFunctionEnv_cells S.kind hkind fun env he s1 x=>?_
 subst he
 refine⟨lim.keeps x.toInCall.keep,codeAny_func ?_⟩
 obtain⟨t,ht,hq⟩:=hbody A outer s H vs Q E (hr.deeper _) hsp
 have I:Inv (g0e CX P w K mg base N qual scope f cdv A outer s H E) [] (d3t N vs) H s1:=f1j S hr.hd e0 hl r x
 refine wpAny_mono (ht [] s1 (d3t N vs) H _ I hq) (fun fl s' hs=>?_) fun e s' hs=>hs
 have fin : ∀ {σ':St} {H':Hp} {v:V} {u:Value},Inv (g0e CX P w K mg base N qual scope f cdv A outer s H E) [] σ' H' s'->a8c v u->Q v H'->CE outer P w H s Q u s' :=
  fun {σ' H' v u} J rv q=>⟨v,H',J.os,J.bare,J.base,J.hok,rv,q⟩
 cases fl with
 | ret u =>
  obtain⟨v,σ',H',J,rv,q⟩:=hs
  exact fin J rv q
 | next =>
  obtain⟨σ',H',J,q⟩:=hs
  exact fin (v:=V.non) (u:=Value.none) J rfl q
 | brk =>
  obtain⟨_,_,_,q⟩:=hs
  exact False.elim q
 | cont =>
  obtain⟨_,_,_,q⟩:=hs
  exact False.elim q
section
variable {X:Cx}{x:Str}{p pos:Pos}{e:Expr}{es:List Expr}{t:TA}{id T:String}{r:List V->Hp->VK->Prop}
def tCB(r:List V->Hp->VK->Prop)(t:TA):TE:=fun σ H Q=>t σ H fun vs H1=>r vs H1 Q
theorem f6y (hc:b4i X (.builtin id) r) (hg:Gl X x) (hm:X.mg x=none) (hv:bootBuiltins x=some (.builtin id)) (ha:PA X (e :: es) t) (hn:x ≠ "__name__":=by decide) (hdb:(x == ("__debug__" : Str))=false:=by decide)
 (he:starEach (e :: es) X.env=(false,eval e X.env) :: starEach es X.env:=by rfl) (hpl:(backTo pos (starEach es X.env)).any (·.1)=false:=by rfl):PE X (.Call (.Name x p) (e :: es) [] pos) (tCB r t):=by
 intro pins s σ H Q I h
 refine wpAny_Call_Name_kw (c2y I hg hm hv ?_ hn hdb)
 exact PyProof.Rows.callWith_builtin1 (thn (ha pos pins s σ H _ I h) fun us s1 ⟨vs,H1,I1,r1,q1⟩=>hc pins s1 σ H1 vs us Q I1 r1 q1) he hpl
theorem f0o (hc:b4i X (.type T) r) (hg:Gl X x) (hm:X.mg x=none) (hv:bootBuiltins x=some (.type T)) (ha:PA X (e :: es) t) (hn:x ≠ "__name__":=by decide) (hdb:(x == ("__debug__" : Str))=false:=by decide)
 (he:starEach (e :: es) X.env=(false,eval e X.env) :: starEach es X.env:=by rfl) (hpl:(backTo pos (starEach es X.env)).any (·.1)=false:=by rfl):PE X (.Call (.Name x p) (e :: es) [] pos) (tCB r t):=by
 intro pins s σ H Q I h
 refine wpAny_Call_Name_kw (c2y I hg hm hv ?_ hn hdb)
 exact PyProof.Rows.callWith_type1 (thn (ha pos pins s σ H _ I h) fun us s1 ⟨vs,H1,I1,r1,q1⟩=>hc pins s1 σ H1 vs us Q I1 r1 q1) he hpl
end
section
variable {κ:Type}[DecidableEq κ]
def b4v(kvs:List (κ × V))(k:κ):Option V:=(kvs.find? fun kv=>decide (kv.1=k)).map (·.2)
def c8u(kvs:List (κ × V))(k:κ)(v:V):List (κ × V) :=
 if (kvs.any fun kv=>decide (kv.1=k))=true then kvs.map (fun kv=>if kv.1=k then (kv.1,v) else kv) else kvs++[(k,v)]
theorem b0s{p:κ × V}{r:List (κ × V)}{k:κ}(e:p.1=k):b4v (p :: r) k=some p.2:=by simp[b4v,List.find?_cons,e]
theorem b0t{p:κ × V}{r:List (κ × V)}{k:κ}(e : ¬ p.1=k):b4v (p :: r) k=b4v r k:=by simp[b4v,List.find?_cons,e]
theorem c5e(k:κ) : ∀ kvs:List (κ × V),(kvs.any fun kv=>decide (kv.1=k))=(b4v kvs k).isSome
 | []=>rfl
 | p :: r=>by
  rw[List.any_cons]
  by_cases e:p.1=k
  ·simp only [b0s e,decide_eq_true e,Bool.true_or,Option.isSome_some]
  ·rw[b0t e,decide_eq_false e,Bool.false_or]; exact c5e k r
theorem e4i(k j:κ)(y:V) : ∀ kvs:List (κ × V),b4v (kvs.map fun kv=>if kv.1=k then (kv.1,y) else kv) j=(b4v kvs j).map fun x=>if j=k then y else x
 | []=>rfl
 | p :: r=>by
  have ih:=e4i k j y r
  rw[List.map_cons]
  by_cases h:p.1=k
  ·rw[if_pos h]
   by_cases e:p.1=j
   ·rw[b0s (p:=(p.1,y)) e,b0s e,Option.map_some,if_pos (e.symm.trans h)]
   ·rw[b0t (p:=(p.1,y)) e,b0t e,ih]
  ·rw[if_neg h]
   by_cases e:p.1=j
   ·rw[b0s (p:=p) e,b0s e,Option.map_some,if_neg (fun z=>h (e.trans z))]
   ·rw[b0t (p:=p) e,b0t e,ih]
theorem d8q(k j:κ)(y:V) : ∀ kvs:List (κ × V),b4v kvs k=none->b4v (kvs++[(k,y)]) j=if j=k then some y else b4v kvs j
 | [],_=>by
  by_cases e:k=j
  ·rw[if_pos e.symm]; exact b0s (p:=(k,y)) e
  ·rw[if_neg (fun z=>e z.symm)]; exact b0t (p:=(k,y)) e
 | p :: r,hn=>by
  rw[List.cons_append]
  have hk : ¬ p.1=k:=fun z=>by rw[b0s z]at hn; cases hn
  rw[b0t hk]at hn
  have ih:=d8q k j y r hn
  by_cases e:p.1=j
  ·rw[b0s e,b0s e,if_neg (fun z=>hk (e.trans z))]
  ·rw[b0t e,b0t e,ih]
theorem b1w(kvs:List (κ × V))(k j:κ)(y:V):b4v (c8u kvs k y) j=if j=k then some y else b4v kvs j:=by
 unfold c8u
 by_cases a:(kvs.any fun kv=>decide (kv.1=k))=true
 ·rw[if_pos a,e4i]
  rw[c5e]at a
  by_cases e:j=k
  ·obtain⟨x,hx⟩:=Option.isSome_iff_exists.mp a
   rw[if_pos e,e,hx,Option.map_some,if_pos rfl]
  ·rw[if_neg e]
   cases b4v kvs j with
   | none=>rfl
   | some x=>rw[Option.map_some,if_neg e]
 ·rw[if_neg a]
  refine d8q k j y kvs ?_
  rw[c5e]at a
  cases q:b4v kvs k with
  | none=>rfl
  | some x=>rw[q]at a; exact (a rfl).elim
theorem b5g(kvs:List (κ × V))(k:κ)(v:V):(c8u kvs k v).length<=kvs.length+1:=by
 unfold c8u
 split
 ·rw[List.length_map]; omega
 ·rw[List.length_append,List.length_cons,List.length_nil]; omega
theorem f6h{kvs:List (κ × V)}{k:κ}(v:V)(h:b4v kvs k=none):c8u kvs k v=kvs++[(k,v)]:=by
 unfold c8u
 rw[c5e,h]
 exact if_neg (by decide)
theorem d8o.isSome_eq{o:Option V}{u:Option Value}(r:d8o o u):o.isSome=u.isSome:=by
 cases o with
 | none=>cases u with
  | none=>rfl
  | some _=>exact (show False from r).elim
 | some _=>cases u with
  | none=>exact (show False from r).elim
  | some _=>rfl
theorem d8o.getD{o:Option V}{u:Option Value}{d:V}{d':Value}(r:d8o o u)(rd:a8c d d'):a8c (o.getD d) (u.getD d'):=by
 cases o with
 | none=>cases u with
  | none=>exact rd
  | some _=>exact (show False from r).elim
 | some _=>cases u with
  | none=>exact (show False from r).elim
  | some _=>exact r
theorem KV.val{kvs:List (κ × V)}{vs:List (κ × Value)}(r:KV kvs vs)(k:κ):d8o (b4v kvs k) (valueAt vs k):=by
 unfold KV at r
 induction r with
 | nil=>exact True.intro
 | @cons p q ps qs h t ih =>
  obtain⟨h1,h2⟩:=h
  by_cases e:p.1=k
  ·have e':q.1=k:=h1.symm.trans e
   have b:valueAt (q :: qs) k=some q.2:=by simp[valueAt,List.find?_cons,e']
   rw[b0s e,b]; exact h2
  ·have e' : ¬ q.1=k:=fun z=>e (h1.trans z)
   have b:valueAt (q :: qs) k=valueAt qs k:=by simp[valueAt,List.find?_cons,e']
   rw[b0t e,b]; exact ih
theorem KV.any{kvs:List (κ × V)}{vs:List (κ × Value)}(r:KV kvs vs)(k:κ):(kvs.any fun kv=>decide (kv.1=k))=vs.any fun kv=>decide (kv.1=k):=by
 unfold KV at r
 induction r with
 | nil=>rfl
 | cons h t ih=>rw[List.any_cons,List.any_cons,ih,h.1]
theorem KV.repl{kvs:List (κ × V)}{vs:List (κ × Value)}(r:KV kvs vs)(k:κ){y:V}{u:Value}(ry:a8c y u) :
 KV (kvs.map fun kv=>if kv.1=k then (kv.1,y) else kv) (vs.map fun kv=>if kv.1=k then (kv.1,u) else kv):=by
 unfold KV at r ⊢
 induction r with
 | nil=>exact .nil
 | @cons p q ps qs h t ih =>
  rw[List.map_cons,List.map_cons]
  refine .cons ?_ ih
  obtain⟨h1,h2⟩:=h
  by_cases e:p.1=k
  ·rw[if_pos e,if_pos (h1.symm.trans e)]; exact⟨h1,ry⟩
  ·rw[if_neg e,if_neg (fun z=>e (h1.trans z))]; exact⟨h1,h2⟩
theorem KV.put{kvs:List (κ × V)}{vs:List (κ × Value)}(r:KV kvs vs)(k:κ){y:V}{u:Value}(ry:a8c y u):KV (c8u kvs k y) (stored vs k u):=by
 unfold c8u stored
 rw[r.any k]
 by_cases e:(vs.any fun kv=>decide (kv.1=k))=true
 ·rw[if_pos e,if_pos e]; exact r.repl k ry
 ·rw[if_neg e,if_neg e]; exact Paired.snoc r ⟨rfl,ry⟩
theorem KV.length{kvs:List (κ × V)}{vs:List (κ × Value)}(r:KV kvs vs):kvs.length=vs.length:=Paired.length r
end
theorem d6l{P:Program}{w:World}{k:Key}{u:Value}(r:a8c (kV k) u):(a3q P w).is k u=true:=by
 cases k with
 | inl i=>obtain⟨t,e⟩:=(show ∃ t,u=Value.int i t from r); subst e; exact c3r P w i t
 | inr x=>obtain⟨t,e⟩:=(show ∃ t,u=Value.str x t from r); subst e; exact d0n P w x t
theorem d9o{P:Program}{w:World} : ∀ {ks:List Key} {us:List Value},a5s (ks.map kV) us->ItemsAre (a3q P w) ks us
 | [],_,r=>by rw[List.map_nil]at r; cases r; exact .nil
 | k :: ks,_,r=>by
  rw[List.map_cons]at r
  cases r with
  | cons h t=>exact .cons (d6l h) (d9o t)
abbrev KT(H:Hp):List (List Key × V)->List (List Key × Addr × Value)->Prop:=Paired fun p q=>p.1=q.1/\H q.2.1=some (.tup (p.1.map kV))/\a8c p.2 q.2.2
theorem KT.val{H:Hp}{kvs:List (List Key × V)}{xs:List (List Key × Addr × Value)}(r:KT H kvs xs)(k:List Key):d8o (b4v kvs k) ((atKey xs k).map (·.2)):=by
 induction r with
 | nil=>exact True.intro
 | @cons p q ps qs h t ih =>
  obtain⟨h1,_,h2⟩:=h
  by_cases e:p.1=k
  ·have e':q.1=k:=h1.symm.trans e
   have b:atKey (q :: qs) k=some q.2:=by simp[atKey,List.find?_cons,e']
   rw[b0s e,b]; exact h2
  ·have e' : ¬ q.1=k:=fun z=>e (h1.trans z)
   have b:atKey (q :: qs) k=atKey qs k:=by simp[atKey,List.find?_cons,e']
   rw[b0t e,b]; exact ih
theorem KT.repl{H:Hp}{kvs:List (List Key × V)}{xs:List (List Key × Addr × Value)}(r:KT H kvs xs)(k:List Key){y:V}{u:Value}(ry:a8c y u) :
 KT H (kvs.map fun kv=>if kv.1=k then (kv.1,y) else kv) (xs.map (putAt k u)):=by
 induction r with
 | nil=>exact .nil
 | @cons p q ps qs h t ih =>
  rw[List.map_cons,List.map_cons]
  refine .cons ?_ ih
  obtain⟨h1,h2,h3⟩:=h
  unfold putAt
  by_cases e:p.1=k
  ·rw[if_pos e,if_pos (h1.symm.trans e)]; exact⟨h1,h2,ry⟩
  ·rw[if_neg e,if_neg (fun z=>e (h1.trans z))]; exact⟨h1,h2,h3⟩
theorem KT.put{H:Hp}{kvs:List (List Key × V)}{xs:List (List Key × Addr × Value)}(r:KT H kvs xs)(k:List Key){b:Addr}{y:V}{u:Value}(hb:H b=some (.tup (k.map kV)))(ry:a8c y u) :
 KT H (c8u kvs k y) (storedH xs k b u):=by
 have e:(kvs.any fun kv=>decide (kv.1=k))=(atKey xs k).isSome:=by
  rw[c5e,(r.val k).isSome_eq,Option.isSome_map]
 unfold c8u storedH
 rw[e]
 by_cases q:(atKey xs k).isSome=true
 ·rw[if_pos q,if_pos q]; exact r.repl k ry
 ·rw[if_neg q,if_neg q]; exact Paired.snoc r ⟨rfl,hb,ry⟩
theorem KT.keeps{H H':Hp}{kvs:List (List Key × V)}{xs:List (List Key × Addr × Value)}(r:KT H kvs xs)(ht : ∀ b ys,H b=some (.tup ys)->H' b=some (.tup ys)):KT H' kvs xs :=
 Paired.mapP r fun _ _ z=>⟨z.1,ht _ _ z.2.1,z.2.2⟩
section
variable {P:Program}{w:World}{H:Hp}{h:Heap}{a:Addr}
theorem g5o{u:HO}(ok:HOk P w H h)(e:Rd H a u):a8r P w H h a u:=e.ok ok
theorem e3j{kvs:List (Key × V)}(ok:HOk P w H h)(e:Rd H a (.dK kvs)):kvs.length<=sizeLine/\(a == sysModules)=false/\∃ vs,KV kvs vs/\h.DictOf (a3q P w) a vs :=
 show a8r P w H h a (.dK kvs) from g5o ok e
theorem h1p{kvs:List (Key × V)}(ok:HOk P w H h)(e:H a=some (.dK kvs)):kvs.length<=sizeLine/\(a == sysModules)=false/\∃ vs,KV kvs vs/\h.DictOf (a3q P w) a vs:=e3j ok (.inl e)
theorem d4z{ks:List Key}(ok:HOk P w H h)(e:H a=some (.tup (ks.map kV))):(tupleKind (a3q P w)).is h ks a:=by
 obtain⟨_,its,r,o,h1,h2,n,h3⟩:=(show a8r P w H h a (.tup (ks.map kV)) from ok a _ e)
 exact⟨o,its.toArray,n,h1,h2,h3,by simpa using d9o r⟩
theorem e3g{kvs:List (List Key × V)}(ok:HOk P w H h)(e:Rd H a (.dT kvs)):kvs.length<=sizeLine/\(a == sysModules)=false /\
 ∃ xs,KT H kvs xs/\h.DictOfH (tupleKind (a3q P w)) a xs:=by
 obtain⟨z,y,xs,r,o,es,ep,h1,h2,h3,h4,h5⟩:=(show a8r P w H h a (.dT kvs) from g5o ok e)
 refine⟨z,y,xs,r,o,es,ep,h1,h2,h3,h4,fun x hx=>?_,h5⟩
 have all : ∀ {l:List (List Key × V)} {m:List (List Key × Addr × Value)},KT H l m->∀ x∈m,(tupleKind (a3q P w)).is h x.1 x.2.1:=by
  intro l m q
  induction q with
  | nil=>intro x hx; exact nomatch hx
  | @cons p q ps qs hq t ih =>
   intro x hx
   rcases List.mem_cons.mp hx with e | hx
   ·subst e
    exact d4z ok (by rw[<- hq.1]; exact hq.2.1)
   ·exact ih x hx
 exact all r x hx
theorem h1o{kvs:List (List Key × V)}(ok:HOk P w H h)(e:H a=some (.dT kvs)):kvs.length<=sizeLine/\(a == sysModules)=false /\
 ∃ xs,KT H kvs xs/\h.DictOfH (tupleKind (a3q P w)) a xs:=e3g ok (.inl e)
end
def c9w(H:Hp)(a:Addr)(y:V)(r:Option V):Prop :=
 (∃ kvs k,Rd H a (.dK kvs)/\y=kV k/\r=b4v kvs k)\/∃ kvs k b,Rd H a (.dT kvs)/\y=.ref b/\H b=some (.tup (k.map kV))/\r=b4v kvs k
def f5k(H:Hp)(a:Addr)(y v:V)(H':Hp):Prop :=
 (∃ kvs k,H a=some (.dK kvs)/\y=kV k/\kvs.length < sizeLine/\H'=upd H a (.dK (c8u kvs k v))) \/
 ∃ kvs k b,H a=some (.dT kvs)/\y=.ref b/\H b=some (.tup (k.map kV))/\kvs.length < sizeLine/\H'=upd H a (.dT (c8u kvs k v))
theorem c9w.k{H:Hp}{a:Addr}{kvs:List (Key × V)}{k:Key}(e:H a=some (.dK kvs)):c9w H a (kV k) (b4v kvs k):=.inl ⟨kvs,k,.inl e,rfl,rfl⟩
theorem c9w.t{H:Hp}{a b:Addr}{kvs:List (List Key × V)}{k:List Key}(e:H a=some (.dT kvs))(eb:H b=some (.tup (k.map kV))):c9w H a (.ref b) (b4v kvs k):=.inr ⟨kvs,k,b,.inl e,rfl,eb,rfl⟩
theorem f5k.k{H:Hp}{a:Addr}{kvs:List (Key × V)}{k:Key}{v:V}(e:H a=some (.dK kvs))(hl:kvs.length < sizeLine):f5k H a (kV k) v (upd H a (.dK (c8u kvs k v))):=.inl ⟨kvs,k,e,rfl,hl,rfl⟩
theorem f5k.t{H:Hp}{a b:Addr}{kvs:List (List Key × V)}{k:List Key}{v:V}(e:H a=some (.dT kvs))(eb:H b=some (.tup (k.map kV)))(hl:kvs.length < sizeLine) :
 f5k H a (.ref b) v (upd H a (.dT (c8u kvs k v))):=.inr ⟨kvs,k,b,e,rfl,eb,hl,rfl⟩
section
variable {X:Cx}{pins:List (Addr × Obj)}{σ:St}{H:Hp}{s:Shared}{a:Addr}{y v:V}{u r:Value}{o:Option V}{A:Around}{E:Value->Shared->Prop}
theorem Inv.big(I:Inv X pins σ H s):sysModules < s.heap.objs.size:=by
 have h:mainGlobals < s.heap.objs.size:=(I.mod.glob.keeps I.bk).lt
 exact Nat.lt_trans (by decide) h
theorem f3d{Q:Value->Shared->Prop}(hu:A.units+1 < cLine)(I:Inv X pins σ H s)(g:c9w H a y (some v))(ry:a8c y u)(h : ∀ w' s',Inv X pins σ H s'->a8c v w'->Q w' s') :
 wpAny (model X.prog X.w) A (getItem (.ref a) u) Q E s:=by
 rcases g with ⟨kvs,k,e,ey,l⟩ | ⟨kvs,k,b,e,ey,eb,l⟩
 ·subst ey
  obtain⟨z,hd,vs,rel,dd⟩:=e3j I.hok e
  obtain⟨w',hw,rw'⟩:=d8o.some_of (v:=v) (o:=valueAt vs k) (by rw[l]; exact rel.val k)
  exact wpAny_getItem_of (d6l ry) dd.mapOf hw (h w' _ (I.tok _) rw')
 ·subst ey
  cases (show u=Value.ref b from ry)
  obtain⟨z,hd,xs,rel,dd⟩:=e3g I.hok e
  obtain⟨w',hw,rw'⟩:=d8o.some_of (v:=v) (o:=(atKey xs k).map (·.2)) (by rw[l]; exact rel.val k)
  obtain⟨p,hp,hp2⟩:=Option.map_eq_some_iff.mp hw
  refine wpAny_getItem_heap (tupleKind_room_in1 hu) (d4z I.hok eb) dd hp ?_
  rw[hp2]
  exact h w' _ (I.tok _) rw'
theorem h5z{Q:Value->Shared->Prop}(hu:A.units+1 < cLine)(I:Inv X pins σ H s)(g:c9w H a y o)(ry:a8c y u)(h : ∀ s',Inv X pins σ H s'->Q (.bool o.isSome) s') :
 wpAny (model X.prog X.w) A (compareOp .In u (.ref a)) Q E s:=by
 rcases g with ⟨kvs,k,e,ey,l⟩ | ⟨kvs,k,b,e,ey,eb,l⟩
 ·subst ey
  obtain⟨z,hd,vs,rel,dd⟩:=e3j I.hok e
  refine wpAny_in_of (d6l ry) hd dd.mapOf ?_
  rw[<- (rel.val k).isSome_eq,<- l]
  exact h _ (I.tok _)
 ·subst ey
  cases (show u=Value.ref b from ry)
  obtain⟨z,hd,xs,rel,dd⟩:=e3g I.hok e
  refine wpAny_in_heap (tupleKind_room_in1 hu) (d4z I.hok eb) hd dd ?_
  have q:=(rel.val k).isSome_eq
  rw[Option.isSome_map]at q
  rw[<- q,<- l]
  exact h _ (I.tok _)
theorem g3m{Q:Value->Shared->Prop}(hu:A.units+1 < cLine)(I:Inv X pins σ H s)(g:c9w H a y o)(ry:a8c y u)(h : ∀ s',Inv X pins σ H s'->Q (.bool (!o.isSome)) s') :
 wpAny (model X.prog X.w) A (compareOp .NotIn u (.ref a)) Q E s:=by
 rcases g with ⟨kvs,k,e,ey,l⟩ | ⟨kvs,k,b,e,ey,eb,l⟩
 ·subst ey
  obtain⟨z,hd,vs,rel,dd⟩:=e3j I.hok e
  refine wpAny_notIn_of (d6l ry) hd dd.mapOf ?_
  rw[<- (rel.val k).isSome_eq,<- l]
  exact h _ (I.tok _)
 ·subst ey
  cases (show u=Value.ref b from ry)
  obtain⟨z,hd,xs,rel,dd⟩:=e3g I.hok e
  refine wpAny_notIn_heap (tupleKind_room_in1 hu) (d4z I.hok eb) hd dd ?_
  have q:=(rel.val k).isSome_eq
  rw[Option.isSome_map]at q
  rw[<- q,<- l]
  exact h _ (I.tok _)
theorem f3b{h':Heap}{t':Nat}{ob:HO}(I:Inv X pins σ H s)(mu:Mut (H a))(hs:Heap.SameBut a s.heap h')(he : ∃ q,h'.get? a=some q)(new:a8r X.prog X.w (upd H a ob) h' a ob) :
 Inv X pins σ (upd H a ob) { s with heap:=h',toks:=t' } :=
 I.write (x:=a) (e:=a) mu (.inl rfl) (fun b q hb z=>(hs.2 b hb).trans z) he new
theorem g8k{P:Program}{w:World}{H':Hp}{h':Heap}{kvs:List (Key × V)}{vs:List (Key × Value)}(z:kvs.length<=sizeLine)(hd:(a == sysModules)=false)(rel:KV kvs vs)(dd:h'.DictOf (a3q P w) a vs) :
 a8r P w H' h' a (.dK kvs):=⟨z,hd,vs,rel,dd⟩
theorem f3c{H':Hp}{Q:Unit->Shared->Prop}(hu:A.units+1 < cLine)(I:Inv X pins σ H s)(g:f5k H a y v H')(ry:a8c y u)(rv:a8c v r)(h : ∀ s',Inv X pins σ H' s'->Q () s') :
 wpAny (model X.prog X.w) A (setItem (.ref a) u r) Q E s:=by
 rcases g with ⟨kvs,k,e,ey,l,eH⟩ | ⟨kvs,k,b,e,ey,eb,l,eH⟩
 ·subst ey eH
  obtain⟨z,hd,vs,rel,dd⟩:=h1p I.hok e
  have hz:vs.length<=sizeLine:=by rw[<- rel.length]; exact z
  have hl:(c8u kvs k v).length<=sizeLine:=by have:=b5g kvs k v; omega
  refine wpAny_setItem_pairs (hsz:=hz) (d6l ry) dd fun h' dd' hs=>h _ ?_
  have he : ∃ q,h'.get? a=some q:=let ⟨q,_,_,hq,_⟩:=dd'; ⟨q,hq⟩
  exact f3b I (by rw[e]; exact True.intro) hs he (g8k hl hd (rel.put k rv) dd')
 ·subst ey eH
  cases (show u=Value.ref b from ry)
  obtain⟨z,hd,xs,rel,dd⟩:=h1o I.hok e
  have hz:xs.length<=sizeLine:=by rw[<- Paired.length rel]; exact z
  have hl:(c8u kvs k v).length<=sizeLine:=by have:=b5g kvs k v; omega
  refine wpAny_setItem_heap (hsz:=hz) (tupleKind_room_in1 hu) (d4z I.hok eb) dd fun h' dd' hs=>h _ ?_
  obtain⟨q,es,ep,hq,h2,h3,h4,_,h5⟩:=dd'
  refine f3b I (by rw[e]; exact True.intro) hs ⟨q,hq⟩ ⟨hl,hd,_,(rel.put k eb rv).keeps fun c ys ec=>?_,q,es,ep,hq,h2,h3,h4,h5⟩
  rw[a1c (h0m ec e (fun z=>nomatch z))]
  exact ec
end
def g8y(i:Expr):Prop:=∀ ov iv,subscripted i false ov iv=operate [ov,iv] (getItem ov iv)
theorem e9e{prog:Program}{w:World}{A:Around}{E:Value->Shared->Prop}{s:Shared}{env:Env}{value slice:Expr}{pos:Pos}{T id:String}{Q:Value->Shared->Prop}
 (hl:typeLookup (.type T) "__getitem__" = pure (some (.builtin id))) (hs:g8y slice)
 (h:wpAny (model prog w) A (eval value env) (fun o s₁=>wpAny (model prog w) A (eval slice env) (fun i s₂=>s₂.TypeIs o T/\wpAny (model prog w) A (getItem o i) Q E s₂) E s₁) E s) :
 wpAny (model prog w) A (eval (.Subscript value slice pos) env) Q E s:=by
 refine Subscript_ (wpAny_mono h (fun o s₁ h₁=>wpAny_mono h₁ (fun i s₂ h₂=>?_) fun _ _ x=>x) fun _ _ x=>x)
 obtain⟨hT,h₂⟩:=h₂
 unfold subscriptTail
 refine wpAny_bind ?_
 rw[getitemInPython_of_ne hT.not_modules]
 refine wpAny_bind (wpAny_specialOf hT hl ?_)
 have fin:wpAny (model prog w) A (subscripted slice false o i) (fun r s₃=>wpAny (model prog w) A (letTemporaryGo value o r >>= fun _=>pure r) Q E s₃) E s₂:=by
  rw[hs o i]
  exact wpAny_operating (wpAny_mono h₂ (fun r s₃ h₃=>wpAny_bind (wpAny_letTemporaryGo (wpAny_pure h₃))) fun _ _ x=>x)
 first
  | exact wpAny_pure (wpAny_bind fin)
  | exact wpAny_bind (wpAny_pure (wpAny_bind fin))
  | exact wpAny_bind fin
theorem e3k {X:Cx} {pins:List (Addr × Obj)} {σ:St} {H:Hp} {s:Shared} {a:Addr} {y:V} {o:Option V} (I:Inv X pins σ H s) (g:c9w H a y o):s.TypeIs (.ref a) "dict":=by
 rcases g with ⟨kvs,k,e,_,_⟩ | ⟨kvs,k,b,e,_,_,_⟩
 ·obtain⟨_,_,vs,_,dd⟩:=e3j I.hok e
  exact dd.typeIs
 ·obtain⟨_,_,xs,_,dd⟩:=e3g I.hok e
  exact dd.typeIs
def g4t(td ty:TE):TE:=fun σ H Q=>td σ H fun x H1=>ty σ H1 fun y H2=>∃ a v,x=.ref a/\c9w H2 a y (some v)/\Q v H2
def g5n(td ty tv:TE):TS:=fun D σ H=>tv σ H fun v H1=>td σ H1 fun x H2=>ty σ H2 fun y H3=>∃ a H4,x=.ref a/\f5k H3 a y v H4/\D.nx σ H4
section
variable {X:Cx}{o i e value:Expr}{pos pos' tpos:Pos}{td ty tv:TE}
theorem g2b(hu:X.A.units+1 < cLine)(ho:PE X o td)(hi:PE X i ty)(hs:g8y i):PE X (.Subscript o i pos) (g4t td ty):=by
 intro pins s σ H Q I h
 refine e9e PySem.F.slot_dict_getitem.lookup hs (thn (ho pins s σ H _ I h) fun u s1 ⟨x,H1,I1,rx,q1⟩=>thn (hi pins s1 σ H1 _ I1 q1) fun iv s2 ⟨y,H2,I2,ry,a,v,ex,g,q2⟩=>?_)
 subst ex
 obtain rfl:u=Value.ref a:=rx
 exact⟨e3k I2 g,f3d hu I2 g ry fun w' s3 I3 rw'=>⟨v,H2,I3,rw',q2⟩⟩
theorem g1t(hu:X.A.units+1 < cLine)(ho:PE X o td)(hi:PE X i ty)(hv:PE X value tv)(hs:swapsWith value (some (.Subscript o i pos')) pos.line X.env=pure false) :
 PS X (.Assign [.Subscript o i pos'] value pos) (g5n td ty tv):=by
 intro pins s σ H D I h
 refine wpAny_Assign_Subscript (thn (hv pins s σ H _ I h) fun r s1 ⟨v,H1,I1,rv,q1⟩=>thn (ho pins s1 σ H1 _ I1 q1) fun u s2 ⟨x,H2,I2,rx,q2⟩=>thn (hi pins s2 σ H2 _ I2 q2) fun iv s3 ⟨y,H3,I3,ry,a,H4,ex,g,q3⟩=>?_) hs
 subst ex
 obtain rfl:u=Value.ref a:=rx
 exact f3c hu I3 g ry rv fun s4 I4=>⟨σ,H4,I4,q3⟩
end
theorem f8n{P:Program}{w:World}{H:Hp}(h:Heap)(hb:sysModules < h.objs.size):a8r P w H (h.push { cls:=.type "dict",data:=.dict #[] }) h.objs.size (.dK []) :=
 ⟨Nat.zero_le _,beq_eq_false_iff_ne.mpr (Ne.symm (Nat.ne_of_lt hb)),[],.nil,Heap.DictOf.new h⟩
theorem f8m{P:Program}{w:World}{H:Hp}(h:Heap)(hb:sysModules < h.objs.size):a8r P w H (h.push { cls:=.type "dict",data:=.dict #[] }) h.objs.size (.dT []) :=
 ⟨Nat.zero_le _,beq_eq_false_iff_ne.mpr (Ne.symm (Nat.ne_of_lt hb)),[],.nil,_,#[],0,Heap.get?_push_size _ rfl,⟨rfl,rfl,rfl⟩,rfl,rfl,List.nodup_nil⟩
def g4s:TE:=fun _ H Q=>∀ p,H p=none->Q (.ref p) (upd H p (.dK []))
def g4r:TE:=fun _ H Q=>∀ p,H p=none->Q (.ref p) (upd H p (.dT []))
section
variable {X:Cx}{pos:Pos}
theorem f6v:PE X (.Dict [] [] pos) g4s:=fun pins s σ H Q I h =>
 wpAny_Dict_empty ⟨.ref s.heap.objs.size,_,I.laid (a:=s.heap.objs.size) (o:=.dK []) (t':=s.toks) (fun _ _ q=>Heap.get?_push_of_some _ q) (Nat.le_refl _) (f8n s.heap I.big),rfl,h _ (I.hok.fresh (Nat.le_refl _))⟩
theorem f6u:PE X (.Dict [] [] pos) g4r:=fun pins s σ H Q I h =>
 wpAny_Dict_empty ⟨.ref s.heap.objs.size,_,I.laid (a:=s.heap.objs.size) (o:=.dT []) (t':=s.toks) (fun _ _ q=>Heap.get?_push_of_some _ q) (Nat.le_refl _) (f8m s.heap I.big),rfl,h _ (I.hok.fresh (Nat.le_refl _))⟩
end
structure M1 (X:Cx) (o:Expr) (m:Str) (apos:Pos) (e:Expr) (cpos:Pos):Prop where
 base:attributeBase o m X.env (eval o X.env)=eval o X.env
 few:((backTo cpos (starEach [e] X.env)).all (fun x=>!x.1) && (backToKw cpos (keywordEach [] X.env)).all (fun x=>x.1.isSome)
  && decide (([e]:List Expr).length+([]:List Keyword).length+(if ([]:List Keyword).isEmpty then 0 else 1) < 30))=true
 line:(apos.endLine == cpos.line)=true
 trees:backTo cpos (starEach [e] X.env)=[(false,eval e X.env)]
structure M2 (X:Cx) (o:Expr) (m:Str) (apos:Pos) (e f:Expr) (cpos:Pos):Prop where
 base:attributeBase o m X.env (eval o X.env)=eval o X.env
 few:((backTo cpos (starEach [e,f] X.env)).all (fun x=>!x.1) && (backToKw cpos (keywordEach [] X.env)).all (fun x=>x.1.isSome)
  && decide (([e,f]:List Expr).length+([]:List Keyword).length+(if ([]:List Keyword).isEmpty then 0 else 1) < 30))=true
 line:(apos.endLine == cpos.line)=true
 trees:backTo cpos (starEach [e,f] X.env)=[(false,eval e X.env),(false,eval f X.env)]
def IsD(H:Hp)(a:Addr):Prop:=(∃ kvs,Rd H a (.dK kvs))\/∃ kvs,Rd H a (.dT kvs)
theorem g7p{X:Cx}{pins:List (Addr × Obj)}{σ:St}{H:Hp}{s:Shared}{a:Addr}(I:Inv X pins σ H s)(d:IsD H a) :
 s.TypeIs (.ref a) "dict"/\(∀ b,Value.ref a=.ref b->∃ ob,s.heap.get? b=some ob/\ob.dict=none)/\(a == sysModules)=false:=by
 rcases d with ⟨kvs,e⟩ | ⟨kvs,e⟩
 ·obtain⟨_,hd,vs,_,dd⟩:=e3j I.hok e
  refine⟨dd.typeIs,fun b q=>?_,hd⟩
  cases q
  obtain⟨ob,_,_,h1,h2,_⟩:=dd
  exact⟨ob,h1,h2.2.1⟩
 ·obtain⟨_,hd,xs,_,dd⟩:=e3g I.hok e
  refine⟨dd.typeIs,fun b q=>?_,hd⟩
  cases q
  obtain⟨ob,_,_,h1,h2,_⟩:=dd
  exact⟨ob,h1,h2.2.1⟩
section
variable {X:Cx}{pins:List (Addr × Obj)}{σ:St}{H:Hp}{s:Shared}{a:Addr}{y d:V}{u r:Value}{o:Option V}{A:Around}{E:Value->Shared->Prop}
theorem g8l{Q:Value->Shared->Prop}(hu:A.units+1 < cLine)(I:Inv X pins σ H s)(g:c9w H a y o)(ry:a8c y u)(h : ∀ w' s',Inv X pins σ H s'->a8c (o.getD .non) w'->Q w' s') :
 wpAny (model X.prog X.w) A (call (.builtin "dict.get") [.ref a,u]) Q E s:=by
 rcases g with ⟨kvs,k,e,ey,l⟩ | ⟨kvs,k,b,e,ey,eb,l⟩
 ·subst ey
  obtain⟨z,hd,vs,rel,dd⟩:=e3j I.hok e
  refine call_meetsIn PySem.F.slot_dict_get dd.typeIs PySem.F.entry_dict_get (PySem.F.args_dict_get_2 _ _) (meets_dict_get (a3q X.prog X.w) a (d6l ry) hd) ⟨_,dd.mapOf,h _ _ (I.tok _) ?_⟩
  rw[l]
  exact (rel.val k).getD rfl
 ·subst ey
  cases (show u=Value.ref b from ry)
  obtain⟨z,hd,xs,rel,dd⟩:=e3g I.hok e
  refine call_meetsIn PySem.F.slot_dict_get dd.typeIs PySem.F.entry_dict_get (PySem.F.args_dict_get_2 _ _) (meetsH_dict_get (tupleKind (a3q X.prog X.w)) a b hd) ⟨tupleKind_room_in1 hu,k,xs,d4z I.hok eb,dd,h _ _ (I.tok _) ?_⟩
  rw[l]
  exact (rel.val k).getD rfl
end
def f9d(td ty:TE):TE:=fun σ H Q=>td σ H fun x H1=>∃ a,x=.ref a/\IsD H1 a/\ty σ H1 fun y H2=>∃ o,c9w H2 a y o/\Q (o.getD .non) H2
section
variable {X:Cx}{o e f:Expr}{apos cpos:Pos}{td ty tx:TE}
theorem f6w (hu:X.A.units+1 < cLine) (ho:PE X o td) (he:PE X e ty) (m:M1 X o "get" apos e cpos):PE X (.Call (.Attribute o "get" apos) [e] [] cpos) (f9d td ty):=by
 intro pins s σ H Q I h
 refine wpAny_Call_method m.base m.few m.line PySem.F.plainAttrs_dict PySem.F.slot_dict_get PySem.F.type_dict_get (thn (ho pins s σ H _ I h) fun u s1 ⟨x,H1,I1,rx,a,ex,d,q1⟩=>?_)
 subst ex
 obtain rfl:u=Value.ref a:=rx
 obtain⟨t1,t2,_⟩:=g7p I1 d
 refine⟨t1,t2,?_⟩
 rw[m.trees]
 refine Calls.callWith_builtin rfl (Calls.evalArgs_plain (Calls.spliced_cons (thn (he pins s1 σ H1 _ I1 q1) fun iv s2 ⟨y,H2,I2,ry,ov,g,q2⟩=>Calls.spliced_nil ?_)))
 exact g8l hu I2 g ry fun w' s3 I3 rw'=>⟨_,H2,I3,rw',q2⟩
end
end L2
namespace HT
open PySem PyProof.Rows
section
variable {prog:Program}{w:World}{A:Around}{E:Value->Shared->Prop}{s:Shared}
def sIx(n d:Nat):Option Int->Nat
 | none=>d
 | some v=>if v < 0 then (v+(n:Int)).toNat else min v.toNat n
theorem g5m(n d:Nat)(hd:d<=n)(o:Option Int):sIx n d o<=n:=by
 cases o with
 | none=>exact hd
 | some v =>
  show (if v < 0 then (v+(n:Int)).toNat else min v.toNat n)<=n
  by_cases hv:v < 0
  ·rw[if_pos hv]; omega
  ·rw[if_neg hv]; exact Nat.min_le_right _ _
theorem f3r(v:Int)(n d:Nat):(if v < 0 then max (v+(n:Int)) 0 else min v (n:Int))=((sIx n d (some v):Nat):Int):=by
 show (if v < 0 then max (v+(n:Int)) 0 else min v (n:Int))=(((if v < 0 then (v+(n:Int)).toNat else min v.toNat n):Nat):Int)
 by_cases hv:v < 0
 ·simp only [if_pos hv]; omega
 ·simp only [if_neg hv]; omega
theorem e8o(lo hi:Option Int)(n:Nat):Builtin.Slice.sliceAdjust lo hi 1 (n:Int)=(((sIx n 0 lo:Nat):Int),((sIx n n hi:Nat):Int)):=by
 have h1 : ¬ ((1:Int) < 0):=by omega
 unfold Builtin.Slice.sliceAdjust
 simp only [h1,if_false]
 refine Prod.ext ?_ ?_
 ·cases lo with
  | none=>rfl
  | some v=>exact f3r v n 0
 ·cases hi with
  | none=>rfl
  | some v=>exact f3r v n n
theorem e7a(i j:Nat):Builtin.Slice.slicePlaces (i:Int) (j:Int) 1=j - i:=by
 unfold Builtin.Slice.slicePlaces
 have h1:(1:Int) > 0:=by omega
 simp only [h1,if_true,Int.ediv_one]
 split <;> omega
theorem d4s{v:Value}{o:Option Int}{Q:Option Int->Shared->Prop}(p:IsPart v o)(h:Q o s):wpAny (model prog w) A (Builtin.Slice.slicePartIndex v) Q E s:=by
 cases p with
 | none=>exact slicePart_none h
 | int i t=>exact slicePart_int h
theorem c0f{sl:Addr}{vl vu:Value}{lo hi:Option Int}{n:Nat}{Q:Int × Int × Nat->Shared->Prop}(hs:s.heap.IsSliceOf sl vl vu .none)(pl:IsPart vl lo)(pu:IsPart vu hi)
 (h:Q (((sIx n 0 lo:Nat):Int),1,sIx n n hi - sIx n 0 lo) s):wpAny (model prog w) A (Builtin.Slice.sliceApplied (.ref sl) (pure (n:Int))) Q E s:=by
 obtain⟨os,hos,hcs,hds⟩:=id hs
 unfold Builtin.Slice.sliceApplied Builtin.Slice.sliceFields
 refine wpAny_bind (wpAny_bind (wpAny_field hos hds (x:=vl) rfl (wpAny_bind (wpAny_field hos hds (x:=vu) rfl (wpAny_bind (wpAny_field hos hds (x:=.none) rfl (wpAny_pure ?_)))))))
 refine wpAny_bind (slicePart_none ?_)
 show wpAny _ _ (if ((1:Int) == 0)=true then _ else _) _ _ s
 rw[if_neg (by decide)]
 refine wpAny_bind (d4s pl (wpAny_bind (d4s pu (wpAny_bind (wpAny_pure ?_)))))
 show wpAny _ _ (match Builtin.Slice.sliceAdjust lo hi 1 (n:Int) with | (lo,hi)=>pure (lo,(1:Int),Builtin.Slice.slicePlaces lo hi 1)) _ _ s
 rw[e8o lo hi n]
 show wpAny _ _ (pure (((sIx n 0 lo:Nat):Int),(1:Int),Builtin.Slice.slicePlaces ((sIx n 0 lo:Nat):Int) ((sIx n n hi:Nat):Int) 1)) _ _ s
 rw[e7a]
 exact wpAny_pure h
theorem f6p(xs:Array Value)(i k:Nat):((List.range k).filterMap fun (m:Nat)=>xs[((i:Int)+(m:Int)*1).toNat]?).toArray=((xs.toList.drop i).take k).toArray:=by
 have e:(fun (m:Nat)=>xs[((i:Int)+(m:Int)*1).toNat]?)=fun m=>xs[i+m]?:=by
  funext m
  have:((i:Int)+(m:Int)*1).toNat=i+m:=by omega
  rw[this]
 rw[e]
 have:=pick_run xs i k
 rw[List.filterMap_map]at this
 have e2:((fun x=>xs[x]?) ∘ fun x=>i+x)=fun m=>xs[i+m]?:=rfl
 rw[e2]at this
 rw[this]
theorem getItem_tuple_cut{t sl:Addr}{items:Array Value}{vl vu:Value}{lo hi:Option Int}{Q:Value->Shared->Prop}(ht:IsTup s.heap t items)(hs:s.heap.IsSliceOf sl vl vu .none)(pl:IsPart vl lo)(pu:IsPart vu hi)
 (hw : ¬ (sIx items.size 0 lo=0/\sIx items.size items.size hi=items.size))
 (h:Q (.ref s.heap.objs.size) { s with heap:=s.heap.push { cls:=.type "tuple",data:=.seq ((items.toList.drop (sIx items.size 0 lo)).take (sIx items.size items.size hi - sIx items.size 0 lo)).toArray } })
 (hsz:items.size<=sizeLine):wpAny (model prog w) A (getItem (.ref t) (.ref sl)) Q E s:=by
 have htake:sizeOk (.seq ((items.toList.drop (sIx items.size 0 lo)).take (sIx items.size items.size hi - sIx items.size 0 lo)).toArray):=by
  show ((items.toList.drop (sIx items.size 0 lo)).take (sIx items.size items.size hi - sIx items.size 0 lo)).toArray.size<=sizeLine
  rw[List.size_toArray,List.length_take,List.length_drop,Array.length_toList]
  omega
 have hj:sIx items.size items.size hi<=items.size:=g5m _ _ (Nat.le_refl _) hi
 obtain⟨os,hos,hcs,hds⟩:=id hs
 have hTs:s.TypeIs (.ref sl) "slice":=⟨os,hos,hcs⟩
 unfold getItem
 try with_reducible refine wpAny_holding ?_
 first | refine wpAny_bind (wpAny_pure ?_) | skip
 refine wpAny_bind (wpAny_sequenceKey ht.typeIs (by decide) ?_)
 refine wpAny_bind (wpAny_callSpecial?_slot (name:=Str.ofString "__getitem__") ht.typeIs PyProof.Rows.slot_tuple_getitem
  (wpAny_call_entry PyProof.Rows.slot_tuple_getitem ht.typeIs entry_tuple_getitem ?_ (args_tuple_getitem _ _)))
 show wpAny _ _ (Builtin.Tuple.tupleItemsOf (.ref t) >>= _) _ _ s
 refine wpAny_bind (tupleItemsOf_ ht ?_)
 refine wpAny_bind (wpAny_typeOf hTs ?_)
 rw[if_pos (by decide)]
 refine wpAny_bind (c0f hs pl pu ?_)
 have hno : ¬ ((((sIx items.size 0 lo:Nat):Int) == 0 && (1:Int) == 1 && (sIx items.size items.size hi - sIx items.size 0 lo) == items.size)=true):=by
  intro q
  rw[Bool.and_eq_true,Bool.and_eq_true]at q
  have q1:((sIx items.size 0 lo:Nat):Int)=0:=eq_of_beq q.1.1
  have q2:sIx items.size items.size hi - sIx items.size 0 lo=items.size:=eq_of_beq q.2
  exact hw ⟨by omega,by omega⟩
 show wpAny _ _ (if (((sIx items.size 0 lo:Nat):Int) == 0 && (1:Int) == 1 && (sIx items.size items.size hi - sIx items.size 0 lo) == items.size)=true then _ else _) _ _ s
 rw[if_neg hno,f6p]
 first
  | exact wpAny_bind (m:=Builtin.Tuple.tupleExact _) (wpAny_newObj_type (wpAny_pure ⟨_,rfl,wpAny_pure h⟩) htake)
  | exact wpAny_bind (m:=Builtin.Tuple.tupleExact _) (wpAny_newObj_type (wpAny_bind (wpAny_pure (wpAny_pure ⟨_,rfl,wpAny_pure h⟩))) htake)
  | exact wpAny_bind (wpAny_bind (m:=Builtin.Tuple.tupleExact _) (wpAny_newObj_type (wpAny_pure (wpAny_pure ⟨_,rfl,wpAny_pure h⟩)) htake))
  | exact wpAny_bind (wpAny_bind (m:=Builtin.Tuple.tupleExact _) (wpAny_newObj_type (wpAny_pure ⟨_,rfl,wpAny_pure h⟩) htake))
end
end HT
namespace L2
open PySem PySem.Spec PyProof.Rows
abbrev TO:=St->Hp->(Option Int->Hp->Prop)->Prop
def PO(X:Cx)(e:Option Expr)(t:TO):Prop :=
 ∀ (pins:List (Addr × Obj)) (s:Shared) (σ:St) (H:Hp) (Q:Option Int->Hp->Prop),Inv X pins σ H s->t σ H Q ->
  wpAny (model X.prog X.w) X.A (evalPart e X.env) (fun u s'=>∃ o H',Inv X pins σ H' s'/\IsPart u o/\Q o H') X.xe s
def e9b:TO:=fun _ H Q=>Q none H
def g4o(t:TE):TO:=fun σ H Q=>t σ H fun x H1=>∃ i,x=.int i/\Q (some i) H1
section
variable {X:Cx}{e:Expr}{te:TE}{lo hi:Option Expr}{tl th:TO}{pos p2:Pos}
theorem g1v:PO X none e9b:=by
 intro pins s σ H Q I h
 rw[evalPart_none]
 exact wpAny_pure ⟨none,H,I,.none,h⟩
theorem g1u(h:PE X e te):PO X (some e) (g4o te):=by
 intro pins s σ H Q I hw
 rw[evalPart_some]
 refine thn (h pins s σ H _ I hw) fun u s1 ⟨x,H1,I1,r1,q1⟩=>?_
 obtain⟨i,rfl,q⟩:=q1
 obtain⟨t,rfl⟩:=r1
 exact⟨some i,H1,I1,.int i t,q⟩
def SlR(X:Cx)(r:V->Option Int->Option Int->Hp->VK->Prop):Prop :=
 ∀ (pins:List (Addr × Obj)) (s:Shared) (σ:St) (H:Hp) (x:V) (v vl vu:Value) (lo hi:Option Int) (sl:Addr) (Q:VK),Inv X pins σ H s->a8c x v->s.heap.IsSliceOf sl vl vu .none->IsPart vl lo->IsPart vu hi->r x lo hi H Q ->
  ∃ T id,typeLookup (.type T) "__getitem__" = pure (some (.builtin id))/\s.TypeIs v T/\wpAny (model X.prog X.w) X.A (getItem v (.ref sl)) (EP X pins σ Q) X.xe s
def tSl(r:V->Option Int->Option Int->Hp->VK->Prop)(te:TE)(tl th:TO):TE:=fun σ H Q=>te σ H fun x H1=>tl σ H1 fun l H2=>th σ H2 fun u H3=>r x l u H3 Q
theorem f6r{r:V->Option Int->Option Int->Hp->VK->Prop}(hr:SlR X r)(he:PE X e te)(hl:PO X lo tl)(hu:PO X hi th):PE X (.Subscript e (.Slice lo hi none p2) pos) (tSl r te tl th):=by
 intro pins s σ H Q I h
 refine Subscript_ (thn (he pins s σ H _ I h) fun v s1 ⟨x,H1,I1,r1,q1⟩=>?_)
 refine wpAny_Slice (thn (hl pins s1 σ H1 _ I1 q1) fun vl s2 ⟨l,H2,I2,pl,q2⟩=>thn (hu pins s2 σ H2 _ I2 q2) fun vu s3 ⟨u,H3,I3,pu,q3⟩=>?_)
 rw[evalPart_none]
 refine wpAny_pure ?_
 have I4:Inv X pins σ H3 { s3 with heap:=s3.heap.push { cls:=.type "slice",data:=.fields #[vl,vu,.none] } }:=I3.kept (t':=s3.toks) fun b ob q=>Heap.get?_push_of_some _ q
 obtain⟨T,id,hT,ht,hg⟩:=hr pins { s3 with heap:=s3.heap.push { cls:=.type "slice",data:=.fields #[vl,vu,.none] } } σ H3 x v vl vu l u s3.heap.objs.size Q I4 r1 (Heap.IsSliceOf.new ..) pl pu q3
 show wpAny (model X.prog X.w) X.A (subscriptTail e (.Slice lo hi none p2) v (.ref s3.heap.objs.size)) (EP X pins σ Q) X.xe { s3 with heap:=s3.heap.push { cls:=.type "slice",data:=.fields #[vl,vu,.none] } }
 exact tail_any (ops:=[.ref s3.heap.objs.size,v]) ht hT hg (by with_unfolding_all rfl)
def d5g(xs:List V)(lo hi:Option Int):List V:=(xs.drop (HT.sIx xs.length 0 lo)).take (HT.sIx xs.length xs.length hi - HT.sIx xs.length 0 lo)
theorem d1x(xs:List V)(lo hi:Option Int):(d5g xs lo hi).length<=xs.length:=by
 unfold d5g
 rw[List.length_take,List.length_drop]
 omega
def h4v(K:W.Frag):V->Option Int->Option Int->Hp->VK->Prop:=fun x lo hi H Q=>∃ a xs,x=.ref a/\SqT K H a xs /\
 ¬ (HT.sIx xs.length 0 lo=0/\HT.sIx xs.length xs.length hi=xs.length)/\∀ p,H p=none->Q (.ref p) (upd H p (.tup (d5g xs lo hi)))
theorem g5k:SlR X (h4v X.K):=by
 intro pins s σ H x v vl vu lo hi sl Q I rx hs pl pu h
 obtain⟨a,xs,rfl,hx,hw,q⟩:=h
 cases rx
 obtain⟨its,r,ht,hz⟩:=I.tuple hx
 have hlen:its.toArray.size=xs.length:=by rw[List.size_toArray]; exact r.length.symm
 refine⟨"tuple",_,PyProof.Rows.slot_tuple_getitem.lookup,ht.typeIs,?_⟩
 refine HT.getItem_tuple_cut ht hs pl pu (by rw[hlen]; exact hw) ?_ (by rw[hlen]; exact hz)
 rw[hlen]
 refine⟨.ref s.heap.objs.size,_,I.laid (t':=s.toks) (o:=.tup (d5g xs lo hi)) (fun b ob q=>Heap.get?_push_of_some _ q) (Nat.le_refl _) ?_,rfl,q _ (I.hok.fresh (Nat.le_refl _))⟩
 exact⟨Nat.le_trans (d1x xs lo hi) hz,_,(r.drop (HT.sIx xs.length 0 lo)).take (HT.sIx xs.length xs.length hi - HT.sIx xs.length 0 lo),IsTup.new _ _⟩
end
def ixN(n:Nat)(i:Int):Option Nat:=if 0<=i then (if i < n then some i.toNat else none) else if -(n:Int)<=i then some (i+n).toNat else none
def atI{α:Type}(xs:List α)(i:Int):Option α:=(ixN xs.length i).bind fun j=>xs[j]?
theorem g2q{n:Nat}{i:Int}{j:Nat}(h:ixN n i=some j):seqIndex? i n=some j/\j < n/\-(n:Int)<=i/\i < n:=by
 unfold ixN at h
 by_cases h0:0<=i
 ·rw[if_pos h0]at h
  by_cases h1:i < n
  ·rw[if_pos h1]at h
   have e:i.toNat=j:=Option.some.inj h
   exact⟨by rw[seqIndex_of h0 h1,e],by omega,by omega,h1⟩
  ·rw[if_neg h1]at h; cases h
 ·rw[if_neg h0]at h
  by_cases h1 : -(n:Int)<=i
  ·rw[if_pos h1]at h
   have e:(i+n).toNat=j:=Option.some.inj h
   exact⟨by rw[seqIndex_neg (by omega) h1,e],by omega,h1,by omega⟩
  ·rw[if_neg h1]at h; cases h
theorem f4u{α:Type}{xs:List α}{i:Int}{v:α}(h:atI xs i=some v) : ∃ j,seqIndex? i xs.length=some j/\xs[j]? = some v/\j < xs.length/\-(xs.length:Int)<=i/\i < xs.length:=by
 unfold atI at h
 cases e:ixN xs.length i with
 | none=>rw[e]at h; cases h
 | some j =>
  rw[e]at h
  obtain⟨h1,h2,h3,h4⟩:=g2q e
  exact⟨j,h1,h,h2,h3,h4⟩
theorem a1f{α:Type}{xs:List α}{j:Nat}{v:α}(h:xs[j]? = some v):atI xs (j:Int)=some v:=by
 have hj:j < xs.length:=(List.getElem?_eq_some_iff.mp h).1
 have e:ixN xs.length (j:Int)=some j:=by
  unfold ixN
  rw[if_pos (by omega),if_pos (by omega)]; simp
 unfold atI; rw[e]; exact h
def f4v(b:Expr):Prop:=∀ o i,subscripted b false o i=operate [o,i] (getItem o i)
def IxR(X:Cx)(r:R2):Prop :=
 ∀ (value slice:Expr) (pins:List (Addr × Obj)) (s:Shared) (σ:St) (H:Hp) (x y:V) (v u:Value) (Q:VK),Inv X pins σ H s->a8c x v->a8c y u->r x y H Q ->
  subscripted slice false v u=operate [v,u] (getItem v u)->wpAny (model X.prog X.w) X.A (subscriptTail value slice v u) (EP X pins σ Q) X.xe s
def MtR(X:Cx)(id:String)(r:V->List V->Hp->VK->Prop):Prop :=
 ∀ (pins:List (Addr × Obj)) (s:Shared) (σ:St) (H:Hp) (x:V) (xs:List V) (v:Value) (us:List Value) (Q:VK),Inv X pins σ H s->a8c x v->a5s xs us->r x xs H Q ->
  wpAny (model X.prog X.w) X.A (call (.builtin id) (v :: us)) (EP X pins σ Q) X.xe s
section
variable {X:Cx}{a b:Expr}{ta tb:TE}{pos:Pos}
theorem IxR.or{r r':R2}(h:IxR X r)(h':IxR X r'):IxR X (fun x y H Q=>r x y H Q\/r' x y H Q):=by
 intro value slice pins s σ H x y v u Q I rx ry q hs
 rcases q with q | q
 ·exact h value slice pins s σ H x y v u Q I rx ry q hs
 ·exact h' value slice pins s σ H x y v u Q I rx ry q hs
theorem h0d{r:R2}(hr:IxR X r)(ha:PE X a ta)(hb:PE X b tb)(hs:f4v b):PE X (.Subscript a b pos) (tOp r ta tb):=by
 intro pins s σ H Q I h
 exact Subscript_ (h1u ha hb I h fun v u s2 x y H2 I2 rx ry q=>hr a b pins s2 σ H2 x y v u Q I2 rx ry q (hs _ _))
def h4z(K:W.Frag):R2:=fun x y H Q=>∃ p xs i v,x=.ref p/\y=.int i/\SqL K H p xs/\atI xs i=some v/\Q v H
def h4y(K:W.Frag):R2:=fun x y H Q=>∃ p xs i v,x=.ref p/\y=.int i/\SqT K H p xs/\atI xs i=some v/\Q v H
theorem g2p:IxR X (h4z X.K):=by
 intro value slice pins s σ H x y v u Q I rx ry h hs
 obtain⟨p,xs,i,z,rfl,rfl,hq,he,q⟩:=h
 cases rx
 obtain⟨t,rfl⟩:=ry
 obtain⟨its,r,pl,hz⟩:=I.list hq
 obtain⟨j,h1,h2,h3,h4,h5⟩:=f4u he
 obtain⟨w,ew,rw'⟩:=r.get h2
 have hl:=r.length
 have hn:=e5c
 have fin:EP X pins σ Q w s:=⟨z,H,I,rw',q⟩
 by_cases h0:0<=i
 ·have hj:i.toNat=j:=by
   rw[seqIndex_of h0 h5]at h1
   exact Option.some.inj h1
  exact item_listR pl.isList h0 (by omega) (by rw[hj]; simpa using ew) fin hs
 ·have hj:(i+(its.toArray.size:Int)).toNat=j:=by
   rw[seqIndex_neg (by omega) h4]at h1
   rw[List.size_toArray,<- hl]
   exact Option.some.inj h1
  exact subscriptTail_builtinR (x:=w) pl.isList.typeIs slot_list_getitem.lookup
   (wpAny_getItem_list_neg (Q:=fun r s'=>r=w/\EP X pins σ Q r s') pl.isList (by omega) (by rw[List.size_toArray] <;> omega) (by omega) (by rw[hj]; simpa using ew) ⟨rfl,fin⟩) hs
theorem g7n:IxR X (h4y X.K):=by
 intro value slice pins s σ H x y v u Q I rx ry h hs
 obtain⟨p,xs,i,z,rfl,rfl,hq,he,q⟩:=h
 cases rx
 obtain⟨t,rfl⟩:=ry
 obtain⟨its,r,pl,hz⟩:=I.tuple hq
 obtain⟨j,h1,h2,h3,h4,h5⟩:=f4u he
 obtain⟨w,ew,rw'⟩:=r.get h2
 have hl:=r.length
 have hn:=e5c
 have fin:EP X pins σ Q w s:=⟨z,H,I,rw',q⟩
 exact subscriptTail_builtinR (x:=w) pl.typeIs slot_tuple_getitem.lookup
  (getItem_tuple (j:=j) (Q:=fun r s'=>r=w/\EP X pins σ Q r s') pl (by omega) (by omega) (by rw[List.size_toArray,<- hl]; exact h1) (by simpa using ew) ⟨rfl,fin⟩) hs
theorem d9b(lo hi:Option Int)(n:Nat):(sliceBounds lo hi none n).1=((HT.sIx n 0 lo:Nat):Int)/\(sliceBounds lo hi none n).2.1=((HT.sIx n n hi:Nat):Int)/\(sliceBounds lo hi none n).2.2=1:=by
 refine⟨?_,?_,rfl⟩
 ·cases lo with
  | none=>simp[sliceBounds,HT.sIx]
  | some i =>
   simp only [sliceBounds,HT.sIx,Option.getD_none,show (1:Int) > 0 by decide,if_true]
   by_cases h:i < 0
   ·simp only [h,if_true] <;> omega
   ·simp only [h,if_false] <;> omega
 ·cases hi with
  | none=>simp[sliceBounds,HT.sIx]
  | some i =>
   simp only [sliceBounds,HT.sIx,Option.getD_none,show (1:Int) > 0 by decide,if_true]
   by_cases h:i < 0
   ·simp only [h,if_true] <;> omega
   ·simp only [h,if_false] <;> omega
theorem d5x(its:List Value)(lo hi:Option Int):slicePick its.toArray lo hi none=((its.drop (HT.sIx its.length 0 lo)).take (HT.sIx its.length its.length hi - HT.sIx its.length 0 lo)).toArray:=by
 obtain⟨h1,h2,h3⟩:=d9b lo hi its.toArray.size
 unfold slicePick
 rw[h1,h2,h3]
 simp only [sliceRange_one,pick_run,List.size_toArray] <;> rfl
def h4w(K:W.Frag):V->Option Int->Option Int->Hp->VK->Prop:=fun x lo hi H Q=>∃ a xs,x=.ref a/\SqL K H a xs/\∀ p,H p=none->Q (.ref p) (upd H p (.lst (d5g xs lo hi)))
theorem g1a:SlR X (h4w X.K):=by
 intro pins s σ H x v vl vu lo hi sl Q I rx hs pl pu h
 obtain⟨a,xs,rfl,hx,q⟩:=h
 cases rx
 obtain⟨its,r,ht,hz⟩:=I.list hx
 have hlen:=r.length
 refine⟨"list",_,slot_list_getitem.lookup,ht.isList.typeIs,?_⟩
 refine wpAny_getItem_list_slice ht.isList hs pl pu .none (by simp) ?_ (by rw[List.size_toArray] <;> omega)
 rw[d5x,<- hlen]
 refine⟨.ref s.heap.objs.size,_,I.laid (t':=s.toks) (o:=.lst (d5g xs lo hi)) (fun b ob q=>Heap.get?_push_of_some _ q) (Nat.le_refl _) ?_,rfl,q _ (I.hok.fresh (Nat.le_refl _))⟩
 exact⟨Nat.le_trans (d1x xs lo hi) hz,_,0,(r.drop (HT.sIx xs.length 0 lo)).take (HT.sIx xs.length xs.length hi - HT.sIx xs.length 0 lo),Heap.get?_push_size _ rfl⟩
def c5t:V->Bool
 | .non=>true
 | .bl _=>true
 | .int _=>true
 | .str _=>true
 | _=>false
def eqV:V->V->Bool
 | .non,.non=>true
 | .bl a,.bl b=>a == b
 | .bl a,.int b=>(if a then 1 else 0) == b
 | .int a,.bl b=>a == (if b then 1 else 0)
 | .int a,.int b=>a == b
 | .str a,.str b=>a == b
 | _,_=>false
theorem g8h{A:Around}{s:Shared}{y x:V}{u v:Value}(ry:a8c y u)(rx:a8c x v)(fy:c5t y=true)(fx:c5t x=true):SeqAt.EqAt A s u v (eqV y x):=by
 cases y with
 | non =>
  cases ry
  cases x with
  | non=>cases rx; exact SeqAt.EqAt.same _
  | bl b=>cases rx; exact SeqAt.EqAt.none_bool b
  | int b=>obtain⟨t,rfl⟩:=rx; exact SeqAt.EqAt.none_int b t
  | str b=>obtain⟨t,rfl⟩:=rx; exact SeqAt.EqAt.none_str b t
  | _=>exact absurd (show false=true from fx) Bool.false_ne_true
 | bl a =>
  cases ry
  cases x with
  | non=>cases rx; exact SeqAt.EqAt.bool_none a
  | bl b=>cases rx; exact SeqAt.EqAt.bool_bool a b
  | int b=>obtain⟨t,rfl⟩:=rx; exact SeqAt.EqAt.bool_int a b t
  | str b=>obtain⟨t,rfl⟩:=rx; exact SeqAt.EqAt.bool_str a b t
  | _=>exact absurd (show false=true from fx) Bool.false_ne_true
 | int a =>
  obtain⟨t',rfl⟩:=ry
  cases x with
  | non=>cases rx; exact SeqAt.EqAt.int_none a t'
  | bl b=>cases rx; exact SeqAt.EqAt.int_bool a t' b
  | int b=>obtain⟨t,rfl⟩:=rx; exact SeqAt.EqAt.int_int a t' b t
  | str b=>obtain⟨t,rfl⟩:=rx; exact SeqAt.EqAt.int_str a t' b t
  | _=>exact absurd (show false=true from fx) Bool.false_ne_true
 | str a =>
  obtain⟨t',rfl⟩:=ry
  cases x with
  | non=>cases rx; exact SeqAt.EqAt.str_none a t'
  | bl b=>cases rx; exact SeqAt.EqAt.str_bool a t' b
  | int b=>obtain⟨t,rfl⟩:=rx; exact SeqAt.EqAt.str_int a t' b t
  | str b=>obtain⟨t,rfl⟩:=rx; exact SeqAt.EqAt.str_str a t' b t
  | _=>exact absurd (show false=true from fx) Bool.false_ne_true
 | _=>exact absurd (show false=true from fy) Bool.false_ne_true
def eqU(x:V)(u:Value):Bool:=match u with
 | .none=>eqV .non x
 | .bool b=>eqV (.bl b) x
 | .int i _=>eqV (.int i) x
 | .str z _=>eqV (.str z) x
 | _=>false
theorem f2x{x y:V}{u:Value}(r:a8c y u)(f:c5t y=true):eqU x u=eqV y x:=by
 cases y with
 | non=>cases r; rfl
 | bl b=>cases r; rfl
 | int i=>obtain⟨t,rfl⟩:=r; rfl
 | str z=>obtain⟨t,rfl⟩:=r; rfl
 | _=>exact absurd (show false=true from f) Bool.false_ne_true
theorem d2t{x:V} : ∀ {xs:List V} {us:List Value},a5s xs us->xs.all c5t=true->us.any (eqU x)=xs.any fun y=>eqV y x
 | _,_,.nil,_=>rfl
 | y :: xs,u :: us,.cons r t,f=>by
  rw[List.all_cons,Bool.and_eq_true]at f
  rw[List.any_cons,List.any_cons,f2x r f.1,d2t t f.2]
theorem c1z{A:Around}{s:Shared}{x:V}{v:Value}(rx:a8c x v)(fx:c5t x=true) : ∀ {xs:List V} {us:List Value},a5s xs us->xs.all c5t=true->∀ u∈us,SeqAt.EqAt A s u v (eqU x u)
 | _,_,.nil,_=>fun u hu=>by cases hu
 | y :: xs,u :: us,.cons r t,f=>fun u' hu=>by
  rw[List.all_cons,Bool.and_eq_true]at f
  rcases List.mem_cons.mp hu with rfl | hu
  ·rw[f2x r f.1]; exact g8h r rx f.1 fx
  ·exact c1z rx fx t f.2 u' hu
def inV(x:V)(xs:List V):Bool:=xs.any fun y=>eqV y x
def rIn(K:W.Frag)(neg:Bool):R2:=fun x y H Q=>∃ p xs,y=.ref p/\(SqL K H p xs\/SqT K H p xs)/\c5t x=true/\xs.all c5t=true/\Q (.bl (if neg then !inV x xs else inV x xs)) H
theorem f0p:OpR X (compareOp .In) (rIn X.K false):=by
 intro pins s σ H x y v u Q I rx ry h
 obtain⟨p,xs,rfl,hq,fx,fs,q⟩:=h
 cases ry
 rcases hq with hq | hq
 ·obtain⟨its,r,pl,hz⟩:=I.list hq
  refine SeqAt.in_listAt (eqU x) pl.isList (fun w hw=>c1z rx fx r fs w (by simpa using hw)) ⟨.bl _,H,I,rfl,?_⟩
  rw[show its.toArray.any (eqU x)=its.any (eqU x) by simp,d2t r fs]
  exact q
 ·obtain⟨its,r,pl,hz⟩:=I.tuple hq
  refine SeqAt.in_tupleAt (eqU x) pl (fun w hw=>c1z rx fx r fs w (by simpa using hw)) ⟨.bl _,H,I,rfl,?_⟩
  rw[show its.toArray.any (eqU x)=its.any (eqU x) by simp,d2t r fs]
  exact q
theorem d9k:OpR X (compareOp .NotIn) (rIn X.K true):=by
 intro pins s σ H x y v u Q I rx ry h
 obtain⟨p,xs,rfl,hq,fx,fs,q⟩:=h
 cases ry
 rcases hq with hq | hq
 ·obtain⟨its,r,pl,hz⟩:=I.list hq
  refine SeqAt.notIn_listAt (eqU x) pl.isList (fun w hw=>c1z rx fx r fs w (by simpa using hw)) ⟨.bl _,H,I,rfl,?_⟩
  rw[show its.toArray.any (eqU x)=its.any (eqU x) by simp,d2t r fs]
  exact q
 ·obtain⟨its,r,pl,hz⟩:=I.tuple hq
  refine SeqAt.notIn_tupleAt (eqU x) pl (fun w hw=>c1z rx fx r fs w (by simpa using hw)) ⟨.bl _,H,I,rfl,?_⟩
  rw[show its.toArray.any (eqU x)=its.any (eqU x) by simp,d2t r fs]
  exact q
theorem e0g:b4i X (.builtin "len") (fun xs H Q=>∃ p ys,xs=[.ref p]/\(SqL X.K H p ys\/SqT X.K H p ys)/\Q (.int ys.length) H):=by
 intro pins s σ H xs us Q I r h
 obtain⟨p,ys,rfl,hq,q⟩:=h
 obtain⟨u,rfl,rx⟩:=e6k r
 cases rx
 have hn:=e5c
 rcases hq with hq | hq
 ·obtain⟨its,r',pl,hz⟩:=I.list hq
  have hlen:=r'.length
  exact Calls.call_len_list pl.isList (by simp only [List.size_toArray] <;> omega) ⟨.int ys.length,H,I.tok _,⟨s.toks+1,by rw[List.size_toArray,hlen]⟩,q⟩
 ·obtain⟨its,r',pl,hz⟩:=I.tuple hq
  have hlen:=r'.length
  exact len_tuple pl (by simp only [List.size_toArray] <;> omega) ⟨.int ys.length,H,I.tok _,⟨s.toks+1,by rw[List.size_toArray,hlen]⟩,q⟩
theorem e0f:b4i X (.type "list") (fun xs H Q=>∃ p ys,xs=[.ref p]/\(SqL X.K H p ys\/SqT X.K H p ys)/\∀ l,H l=none->Q (.ref l) (upd H l (.lst ys))):=by
 intro pins s σ H xs us Q I r h
 obtain⟨p,ys,rfl,hq,q⟩:=h
 obtain⟨u,rfl,rx⟩:=e6k r
 cases rx
 have fin : ∀ (its:List Value),a5s ys its->ys.length<=sizeLine->∀ (h':Heap) (c':Nat),(∀ b o',s.heap.get? b=some o'->h'.get? b=some o') ->
  h'.get? s.heap.objs.size=some { cls:=.type "list",dict:=none,data:=.seq its.toArray c',slots:=#[] }->EP X pins σ Q (.ref s.heap.objs.size) { s with heap:=h' }:=fun its r' hz h' c' kp e =>
  ⟨.ref s.heap.objs.size,_,I.laid (t':=s.toks) kp (Nat.le_refl _) (show a8r X.prog X.w _ h' _ (.lst ys) from ⟨hz,its,c',r',e⟩),rfl,q _ (I.hok.fresh (Nat.le_refl _))⟩
 rcases hq with hq | hq
 ·obtain⟨its,r',pl,hz⟩:=I.list hq
  have hlen:=r'.length
  obtain⟨o,ho,hc,n,hd⟩:=pl.isList
  exact call_list_seq p (.inl rfl) ho hc hd (fun h' c' kp e=>fin its r' hz h' c' kp e) (by simp only [List.size_toArray] <;> omega)
 ·obtain⟨its,r',pl,hz⟩:=I.tuple hq
  have hlen:=r'.length
  obtain⟨o,ho,hc,n,hd⟩:=pl
  exact call_list_seq p (.inr rfl) ho hc hd (fun h' c' kp e=>fin its r' hz h' c' kp e) (by simp only [List.size_toArray] <;> omega)
theorem d7n:b4i X (.type "tuple") (fun xs H Q=>∃ p ys,xs=[.ref p]/\((SqL X.K H p ys/\∀ l,H l=none->Q (.ref l) (upd H l (.tup ys)))\/(SqT X.K H p ys/\Q (.ref p) H))):=by
 intro pins s σ H xs us Q I r h
 obtain⟨p,ys,rfl,h⟩:=h
 obtain⟨u,rfl,rx⟩:=e6k r
 cases rx
 rcases h with ⟨hq,q⟩ | ⟨hq,q⟩
 ·obtain⟨its,r',pl,hz⟩:=I.list hq
  have hlen:=r'.length
  refine call_tuple_list pl.isList (fun h' kp=>?_) (by simp only [List.size_toArray] <;> omega)
  have I1:Inv X pins σ H { s with heap:=h' }:=I.kept (t':=s.toks) kp
  have I2:Inv X pins σ (upd H h'.objs.size (.tup ys)) { s with heap:=h'.push { cls:=.type "tuple",data:=.seq its.toArray } } :=
   I1.laid (t':=s.toks) (fun b o e=>Heap.get?_push_of_some _ e) (Nat.le_refl _) (show a8r X.prog X.w _ _ _ (.tup ys) from ⟨hz,its,r',IsTup.new _ _⟩)
  exact⟨.ref h'.objs.size,_,I2,rfl,q _ (I1.hok.fresh (Nat.le_refl _))⟩
 ·obtain⟨its,r',pl,hz⟩:=I.tuple hq
  exact call_tuple_same pl ⟨.ref p,H,I,rfl,q⟩
def tyV(K:W.Frag)(T:String)(x:V)(H:Hp):Prop:=match x with
 | .str _=>T = "str"
 | .int _=>T = "int"
 | .ref p=>(T = "list"/\∃ xs,SqL K H p xs)\/(T = "tuple"/\∃ o,K.lookup p=some o/\o.cls=.type "tuple"/\o.dict=none) \/
  (T = "dict"/\((∃ kvs,H p=some (.dK kvs))\/∃ kvs,H p=some (.dT kvs)))\/(T = "set"/\∃ S n,H p=some (.set S n))
 | _=>False
theorem f8z{pins:List (Addr × Obj)}{σ:St}{H:Hp}{s:Shared}{T:String}{x:V}{v:Value}(I:Inv X pins σ H s)(r:a8c x v)(ty:tyV X.K T x H) :
 s.TypeIs v T/\∀ a,v=.ref a->∃ ob,s.heap.get? a=some ob/\ob.dict=none:=by
 cases x with
 | str z =>
  obtain⟨t,rfl⟩:=r
  cases (show T = "str" from ty)
  exact⟨typeIs_str s z t,fun _ e=>nomatch e⟩
 | int i =>
  obtain⟨t,rfl⟩:=r
  cases (show T = "int" from ty)
  exact⟨typeIs_int s i t,fun _ e=>nomatch e⟩
 | ref p =>
  cases r
  rcases ty with ⟨rfl,xs,hq⟩ | ⟨rfl,o,hk,hc,hd⟩ | ⟨rfl,hk⟩ | ⟨rfl,S,n,hk⟩
  ·obtain⟨its,_,pl,_⟩:=I.list hq
   refine⟨pl.isList.typeIs,fun a e=>?_⟩
   cases e
   obtain⟨o,n,e,c,hd,_⟩:=pl
   exact⟨o,e,hd⟩
  ·refine⟨⟨o,I.kIn p o hk,hc⟩,fun a e=>?_⟩
   cases e
   exact⟨o,I.kIn _ o hk,hd⟩
  ·have z : ∃ o,s.heap.get? p=some o/\o.ExactDict:=by
    rcases hk with ⟨kvs,hk⟩ | ⟨kvs,hk⟩
    ·obtain⟨_,_,_,_,o,_,_,e,ex,_⟩:=I.hok p _ hk
     exact⟨o,e,ex⟩
    ·obtain⟨_,_,_,_,o,_,_,e,ex,_⟩:=I.hok p _ hk
     exact⟨o,e,ex⟩
   obtain⟨o,e,ex⟩:=z
   refine⟨⟨o,e,ex.1⟩,fun a e2=>?_⟩
   cases e2
   exact⟨o,e,ex.2.1⟩
  ·obtain⟨o,_,_,_,e,ex,_⟩:=I.hok p _ hk
   refine⟨⟨o,e,ex.1⟩,fun a e2=>?_⟩
   cases e2
   exact⟨o,e,ex.2.1⟩
 | _=>exact False.elim ty
def g9h(K:W.Frag)(T:String)(r:V->List V->Hp->VK->Prop)(to:TE):TE:=fun σ H Q=>to σ H fun x H1=>tyV K T x H1/\r x [] H1 Q
def tBM(K:W.Frag)(T:String)(r:V->List V->Hp->VK->Prop)(to:TE)(t:TA):TE:=fun σ H Q=>to σ H fun x H1=>tyV K T x H1/\t σ H1 fun xs H2=>r x xs H2 Q
variable {o e:Expr}{es:List Expr}{to:TE}{t:TA}{name:Str}{apos cpos:Pos}{T id:String}{r:V->List V->Hp->VK->Prop}
theorem g6e (pa:PlainAttrs T) (slot:Slot T name id) (hty:typeOf (.builtin id)=pure (.type "method_descriptor")) (hm:MtR X id r) (ho:PE X o to)
 (hbase:attributeBase o name X.env (eval o X.env)=eval o X.env:=by rfl) (hline:(apos.endLine == cpos.line)=true:=by rfl):PE X (.Call (.Attribute o name apos) [] [] cpos) (g9h X.K T r to):=by
 intro pins s σ H Q I h
 refine wpAny_Call_method0_late hbase hline (thn (ho pins s σ H _ I h) fun v s1 ⟨x,H1,I1,r1,ty,q1⟩=>?_)
 obtain⟨h1,h2⟩:=f8z I1 r1 ty
 exact⟨T,id,pa,slot,hty,h1,h2,Calls.callWith_builtin rfl (PySem.evalArgs_none (hm pins s1 σ H1 x [] v [] Q I1 r1 .nil q1))⟩
theorem h0e (pa:PlainAttrs T) (slot:Slot T name id) (hty:typeOf (.builtin id)=pure (.type "method_descriptor")) (hm:MtR X id r) (ho:PE X o to) (ha:PA X (e :: es) t)
 (hbase:attributeBase o name X.env (eval o X.env)=eval o X.env:=by rfl)
 (hfew:((backTo cpos (starEach (e :: es) X.env)).all (fun x=>!x.1) && (backToKw cpos (keywordEach [] X.env)).all (fun x=>x.1.isSome)
   && decide ((e :: es).length+([]:List Keyword).length+(if ([]:List Keyword).isEmpty then 0 else 1) < 30))=true:=by rfl)
 (hline:(apos.endLine == cpos.line)=true:=by rfl) (hs:starEach (e :: es) X.env=(false,eval e X.env) :: starEach es X.env:=by rfl) (hplain:(backTo cpos (starEach es X.env)).any (·.1)=false:=by rfl) :
 PE X (.Call (.Attribute o name apos) (e :: es) [] cpos) (tBM X.K T r to t):=by
 intro pins s σ H Q I h
 refine wpAny_Call_method_late hbase hfew hline rfl (thn (ho pins s σ H _ I h) fun v s1 ⟨x,H1,I1,r1,ty,q1⟩=>?_)
 obtain⟨h1,h2⟩:=f8z I1 r1 ty
 refine⟨T,id,pa,slot,hty,h1,h2,?_⟩
 have hA:=ha cpos pins s1 σ H1 _ I1 q1
 rw[hs]at hA ⊢
 refine Calls.callWith_builtin (by show (false || (backTo cpos (starEach es X.env)).any (·.1))=false; rw[hplain] <;> rfl) (Calls.evalArgs_plain ?_)
 exact thn hA fun us s2 ⟨vs,H2,I2,r2,q2⟩=>hm pins s2 σ H2 x vs v us Q I2 r1 r2 q2
/- xs.append(e),list.index on a module's tuple .. are MtR facts of 06m -/
end
def MtM(X:Cx)(id:String)(r:V->List V->Hp->VK->Prop):Prop :=
 ∀ (pins:List (Addr × Obj)) (s:Shared) (σ:St) (H:Hp) (x:V) (xs:List V) (v:Value) (us:List Value) (Q:VK),Inv X pins σ H s->a8c x v->a5s xs us->r x xs H Q ->
  wpAny (model X.prog X.w) X.A (call (.builtin id) (v :: us)) (EP X pins σ Q) X.xe s
theorem a5s.one : ∀ {x:V} {us:List Value},a5s [x] us->∃ u,us=[u]/\a8c x u
 | _,_,.cons r .nil=>⟨_,rfl,r⟩
theorem a5s.zero : ∀ {us:List Value},a5s [] us->us=[]
 | _,.nil=>rfl
theorem a5s.reverse{xs:List V}{us:List Value}(h:a5s xs us):a5s xs.reverse us.reverse:=by
 induction h with
 | nil=>exact .nil
 | cons r t ih=>rw[List.reverse_cons,List.reverse_cons]; exact a5s.append ih (.cons r .nil)
theorem a5s.rep{xs:List V}{us:List Value}(h:a5s xs us) : ∀ k:Nat,a5s (List.replicate k xs).flatten (List.replicate k us).flatten
 | 0=>.nil
 | k+1=>by
  rw[List.replicate_succ,List.replicate_succ,List.flatten_cons,List.flatten_cons]
  exact a5s.append h (a5s.rep h k)
theorem e0c(its:List Value) : ∀ (k:Nat) (acc:List Value),
 List.foldl (fun x1 x2=>x1++x2) acc.toArray (List.replicate k its.toArray)=(acc++(List.replicate k its).flatten).toArray
 | 0,acc=>by simp
 | k+1,acc=>by
  have e:acc.toArray++its.toArray=(acc++its).toArray:=by simp
  have e2:(acc++its)++(List.replicate k its).flatten=acc++(List.replicate (k+1) its).flatten:=by
   rw[List.replicate_succ,List.flatten_cons,List.append_assoc]
  rw[<- e2,<- e0c its k (acc++its),<- e,List.replicate_succ,List.foldl_cons]
section
variable {X:Cx}{pins:List (Addr × Obj)}{σ:St}{H:Hp}{s:Shared}{l b:Addr}{xs ys zs:List V}
theorem Inv.lset{its its':List Value}{n:Nat}{f:Array Value->Array Value}{t':Nat}(I:Inv X pins σ H s)(hH:H l=some (.lst xs))
 (e:s.heap.get? l=some { cls:=.type "list",data:=.seq its.toArray n }) (hf:f its.toArray=its'.toArray) (hv:a5s ys its') (hz:ys.length<=sizeLine) :
 Inv X pins σ (upd H l (.lst ys)) { s with heap:=s.heap.update l (Obj.mapSeq f),toks:=t' }:=by
 have q:=PySem.IsL.update e f
 rw[hf]at q
 refine I.write (x:=l) (e:=l) (by rw[hH]; exact trivial) (.inl rfl) (fun b' u hb hu=>(Heap.get?_update_other s.heap (Obj.mapSeq f) (Ne.symm hb)).trans hu) ⟨_,q⟩ ?_
 exact⟨hz,its',_,hv,q⟩
theorem Inv.lnew{its:List Value}{t':Nat}(I:Inv X pins σ H s)(hv:a5s ys its)(hz:ys.length<=sizeLine) :
 Inv X pins σ (upd H s.heap.objs.size (.lst ys)) { s with heap:=s.heap.push { cls:=.type "list",data:=.seq its.toArray },toks:=t' } :=
 I.laid (fun _ _ q=>Heap.get?_push_of_some _ q) (Nat.le_refl _) ⟨hz,its,0,hv,Heap.get?_push_size _ rfl⟩
theorem Inv.fresh(I:Inv X pins σ H s):H s.heap.objs.size=none:=I.hok.fresh (Nat.le_refl _)
theorem Inv.lstM(I:Inv X pins σ H s)(hH:H l=some (.lst xs)):xs.length<=sizeLine/\∃ (its:List Value) (n:Nat),a5s xs its/\xs.length=its.length/\s.heap.get? l=some { cls:=.type "list",data:=.seq its.toArray n }:=by
 obtain⟨z,its,n,r,e⟩:=I.hok l _ hH
 exact⟨z,its,n,r,r.length,e⟩
theorem c9o{n:Nat}(h:n<=sizeLine):Builtin.List.listTooLong n=false:=by
 unfold Builtin.List.listTooLong
 exact decide_eq_false (by omega)
end
section
variable {X:Cx}
def g1i:V->List V->Hp->VK->Prop:=fun x vs H Q=>∃ l xs y,x=.ref l/\vs=[y]/\H l=some (.lst xs)/\xs.length < sizeLine/\Q .non (upd H l (.lst (xs++[y])))
theorem f0z:MtM X "list.append" g1i:=by
 intro pins s σ H x vs v us Q I rx rv h
 obtain⟨l,xs,y,rfl,rfl,hH,hz,q⟩:=h
 cases rx
 obtain⟨u,rfl,ru⟩:=rv.one
 obtain⟨z,its,n,r,hl,e⟩:=I.lstM hH
 refine call_meets F.slot_list_append ⟨_,e,rfl⟩ F.entry_list_append (F.args_list_append_2 _ _) (PySem.list_append l its.toArray n u (by rw[List.size_toArray]; omega)) ⟨e,?_⟩
 refine⟨.non,_,I.lset (its':=its++[u]) hH e (by simp) (r.append (.cons ru .nil)) ?_,rfl,q⟩
 rw[List.length_append,List.length_singleton]
 omega
def g1h:V->List V->Hp->VK->Prop:=fun x vs H Q=>∃ l b xs zs,x=.ref l/\vs=[.ref b]/\H l=some (.lst xs)/\H b=some (.lst zs)/\xs.length+zs.length<=sizeLine/\Q .non (upd H l (.lst (xs++zs)))
theorem f0y:MtM X "list.extend" g1h:=by
 intro pins s σ H x vs v us Q I rx rv h
 obtain⟨l,b,xs,zs,rfl,rfl,hH,hB,hz,q⟩:=h
 cases rx
 obtain⟨u,rfl,ru⟩:=rv.one
 cases ru
 obtain⟨z,its,n,r,hl,e⟩:=I.lstM hH
 obtain⟨z2,its2,n2,r2,hl2,e2⟩:=I.lstM hB
 have hsz:its.toArray.size+its2.toArray.size<=sizeLine:=by rw[List.size_toArray,List.size_toArray]; omega
 have hlong : ¬ (!its.toArray.isEmpty && Builtin.List.listTooLong (its.toArray.size+its2.toArray.size))=true:=by
  rw[c9o hsz,Bool.and_false]
  exact Bool.false_ne_true
 refine call_meets F.slot_list_extend ⟨_,e,rfl⟩ F.entry_list_extend (F.args_list_extend_2 _ _)
  (AutoSeq1.list_extend_list_list_0 l its.toArray n b its2.toArray n2 hlong (by rw[List.size_toArray]; omega) (by omega)) ⟨e,e2,?_⟩
 refine⟨.non,_,I.lset (its':=its++its2) hH e (by simp) (r.append r2) ?_,rfl,q⟩
 rw[List.length_append]
 omega
def f6b:V->List V->Hp->VK->Prop:=fun x vs H Q=>∃ l xs,x=.ref l/\vs=[]/\H l=some (.lst xs)/\Q .non (upd H l (.lst xs.reverse))
theorem e7c:MtM X "list.reverse" f6b:=by
 intro pins s σ H x vs v us Q I rx rv h
 obtain⟨l,xs,rfl,rfl,hH,q⟩:=h
 cases rx
 have hus:=rv.zero
 subst hus
 obtain⟨z,its,n,r,hl,e⟩:=I.lstM hH
 refine call_meets F.slot_list_reverse ⟨_,e,rfl⟩ F.entry_list_reverse (F.args_list_reverse_1 _) (AutoSeq1.list_reverse_list_0 l its.toArray n (by rw[List.size_toArray]; omega)) ⟨e,?_⟩
 refine⟨.non,_,I.lset (its':=its.reverse) hH e (by simp) r.reverse ?_,rfl,q⟩
 rw[List.length_reverse]
 omega
def h4x:R2:=fun x y H Q=>∃ l k xs,x=.ref l/\y=.int k/\H l=some (.lst xs)/\-(2 ^ 63)<=k/\k < 2 ^ 63/\xs.length*k.toNat<=sizeLine /\
 ∀ p,H p=none->Q (.ref p) (upd H p (.lst (List.replicate k.toNat xs).flatten))
theorem g2o{α:Type}(xs:List α)(k:Nat):(List.replicate k xs).flatten.length=k*xs.length:=by
 induction k with
 | zero=>simp
 | succ k ih=>rw[List.replicate_succ,List.flatten_cons,List.length_append,ih,Nat.succ_mul,Nat.add_comm]
theorem g6j:OpR X (binaryOp .Mult) h4x:=by
 intro pins s σ H x y v u Q I rx ry h
 obtain⟨l,k,xs,rfl,rfl,hH,h1,h2,hz,q⟩:=h
 cases rx
 obtain⟨t,rfl⟩:=ry
 obtain⟨z,its,n,r,hl,e⟩:=I.lstM hH
 have hlen:its.toArray.size*k.toNat<=sizeLine:=by rw[List.size_toArray,<- hl]; exact hz
 have hcap : ¬ its.toArray.size*k.toNat > (2 ^ 63 - 1) / 8:=by
  have:(sizeLine:Nat)<=(2 ^ 63 - 1) / 8:=by decide
  omega
 have hfit : ¬ (!Builtin.List.listFitsIndex k)=true:=by
  rw[fitsIndex_both h1 h2]
  exact Bool.false_ne_true
 have hlong : ¬ Builtin.List.listTooLong (its.toArray.size*k.toNat)=true:=by
  rw[c9o hlen]
  exact Bool.false_ne_true
 have hnew:List.foldl (fun x1 x2=>x1++x2) #[] (List.replicate (if its.toArray.isEmpty=true then 0 else k.toNat) its.toArray)=(List.replicate k.toNat its).flatten.toArray:=by
  have f0 : ∀ m:Nat,List.foldl (fun x1 x2=>x1++x2) #[] (List.replicate m its.toArray)=(List.replicate m its).flatten.toArray:=fun m=>by
   have:=e0c its m []
   rw[List.nil_append]at this
   exact this
  rw[f0]
  cases its with
  | nil=>simp
  | cons a r'=>rw[if_neg (by simp)]
 refine wpAny_binaryOp_repeat_ref (T := "list") (U := "int") (by decide) ⟨_,e,rfl⟩ (fun s'=>typeIs_int s' k t) noFill_list_mul F.fills_int_mul F.slot_int_rmul repeat_list F.slot_int_index.lookup
  (call_meets F.slot_int_rmul (typeIs_int s k t) F.entry_int_rmul (F.args_int_rmul_2 _ _) (int___rmul___int_list k t l its.toArray n)
    ⟨e,rfl,⟨_,e,rfl⟩,call_meets F.slot_list_mul ⟨_,e,rfl⟩ F.entry_list_mul (F.args_list_mul_2 _ _) (AutoListH.list___mul___list_int_3 l its.toArray n k t hfit hcap hlong) ⟨e,?_⟩⟩)
 rw[hnew]
 exact⟨.ref _,_,I.lnew (t':=s.toks) (r.rep k.toNat) (by rw[g2o,Nat.mul_comm]; exact hz),rfl,q _ I.fresh⟩
end
section
variable {prog:Program}{w:World}{A:Around}{E:Value->Shared->Prop}{s:Shared}
theorem e8c{a c n:Nat}(hac:a<=c)(hc:c<=n):sliceBounds (some (a:Int)) (some (c:Int)) none n=((a:Int),(c:Int),1):=by
 simp only [sliceBounds,Option.getD_none]
 have h1 : ¬ ((a:Int) < 0):=by omega
 have h2 : ¬ ((c:Int) < 0):=by omega
 simp only [h1,h2,if_false,show (1:Int) > 0 by decide,if_true]
 congr 1
 ·omega
 ·congr 1; omega
set_option maxRecDepth 100000 in
theorem f5y{l b sl:Addr}{items new:Array Value}{n n2:Nat}{vl vu:Value}{a c:Nat}{Q:Unit->Shared->Prop}
 (e:s.heap.get? l=some { cls:=.type "list",data:=.seq items n }) (e2:s.heap.get? b=some { cls:=.type "list",data:=.seq new n2 }) (hne:l≠b)
 (hs:s.heap.IsSliceOf sl vl vu .none) (pl:IsPart vl (some (a:Int))) (pu:IsPart vu (some (c:Int))) (hac:a<=c) (hc:c<=items.size)
 (hsz:items.size+new.size<=sizeLine) (h:Q () { s with heap:=s.heap.update l (Obj.mapSeq fun xs=>xs.extract 0 a++new++xs.extract c xs.size) }) :
 wpAny (model prog w) A (setItem (.ref l) (.ref sl) (.ref b)) Q E s:=by
 have hl:s.heap.IsList l items:=PySem.IsL.isList e
 have hb:s.heap.IsList b new:=PySem.IsL.isList e2
 obtain⟨os,hos,hcs,hds⟩:=id hs
 have hTs:s.TypeIs (.ref sl) "slice":=⟨os,hos,hcs⟩
 have hstep : ¬ ((rawPart none == rawInt 0)=true):=Bool.false_ne_true
 have hsame:Builtin.List.listSameRef (.ref l) (.ref b)=false:=by
  unfold Builtin.List.listSameRef
  exact beq_eq_false_iff_ne.mpr hne
 have hmax:(max (a:Int) (c:Int)).toNat=c:=by omega
 have hz':((fun xs:Array Value=>xs.extract 0 a++new++xs.extract c xs.size) items).size<=sizeLine+1:=by
  simp only [Array.size_append,Array.size_extract]
  omega
 unfold setItem
 try with_reducible refine wpAny_holding ?_
 first | refine wpAny_bind (wpAny_pure ?_) | skip
 refine wpAny_bind (wpAny_sequenceKey hl.typeIs (by decide) ?_)
 refine wpAny_bind (wpAny_callSpecial?_slot (name:=Str.ofString "__setitem__") hl.typeIs slot_list_setitem
  (wpAny_call_entry slot_list_setitem hl.typeIs entry_list_setitem ?_ (args_list_setitem _ _ _)))
 show wpAny _ _ (Builtin.List.listSubscript? (.ref sl) >>= _) _ _ s
 refine wpAny_bind ?_
 unfold Builtin.List.listSubscript?
 refine wpAny_bind (wpAny_specialOf hTs slice_no_index ?_)
 simp only [Option.isNone_none,if_true]
 refine wpAny_pure ?_
 show wpAny _ _ (typeOf (.ref sl) >>= _) _ _ s
 refine wpAny_bind (wpAny_typeOf hTs ?_)
 first
  | rw[if_neg (by decide)]
  | refine W.KFB.if_not (by decide) ?_
 rw[listSliceParts_eq]
 refine wpAny_bind (wpAny_bind (wpAny_field hos hds (x:=.none) rfl (wpAny_bind (wpAny_listPart .none ?_))))
 rw[if_neg hstep]
 refine wpAny_bind (wpAny_field hos hds (x:=vl) rfl (wpAny_bind (wpAny_listPart pl ?_)))
 refine wpAny_bind (wpAny_field hos hds (x:=vu) rfl (wpAny_bind (wpAny_listPart pu (wpAny_pure ?_))))
 first
  | simp only [hsame,Bool.false_eq_true,if_false]
  | refine W.KFB.if_not hsame ?_
  | (dsimp only
     rw[if_neg (by rw[hsame]; exact Bool.false_ne_true)])
 refine wpAny_bind (m:=Builtin.List.listAllItems (.ref b) "must assign iterable to extended slice") ?_
 unfold Builtin.List.listAllItems
 refine wpAny_bind (wpAny_typeOf hb.typeIs ?_)
 first
  | refine W.KFB.if_so (by decide) ?_
  | rw[if_pos (by decide)]
  | simp only [beq_self_eq_true,Bool.true_or,if_true]
 unfold Builtin.List.listItems
 refine wpAny_bind (wpAny_seqItems e2 rfl (wpAny_pure ?_))
 refine wpAny_bind (wpAny_bind (wpAny_seqItems e rfl (wpAny_pure ?_)))
 refine wpAny_bind (wpAny_of_eq ((sliceIndices_raw (some (a:Int)) (some (c:Int)) none items.size (by simp)).trans (congrArg (pure:Int × Int × Int->Sem (Int × Int × Int)) (e8c hac hc))) ?_)
 show wpAny _ _ (if ((1:Int) == 1)=true then _ else _) _ _ s
 rw[if_pos (by decide)]
 refine wpAny_bind (wpAny_rule ?_)
 first
  | simp only [c9o hsz,Bool.false_eq_true,if_false]
  | refine W.KFB.if_not (c9o hsz) ?_
 first | refine wpAny_bind (wpAny_pure ?_) | skip
 show wpAny _ _ (updateSeq l (fun xs=>xs.extract 0 ((a:Int)).toNat++new++xs.extract (max (a:Int) (c:Int)).toNat xs.size) >>= _) _ _ s
 rw[hmax,Int.toNat_natCast]
 refine wpAny_bind (wpAny_updateSeq (hz:=Nat.le_trans (Nat.le_add_right _ _) hsz) (_hz':=hz') e rfl ?_)
 refine wpAny_bind (wpAny_letGo ?_)
 first
  | exact wpAny_bind (wpAny_pure (wpAny_pure ⟨.none,rfl,wpAny_pure h⟩))
  | exact wpAny_pure ⟨.none,rfl,wpAny_pure h⟩
end
end L2
namespace Att
open PySem PySem.W PySem.Calls PyProof.Rows
theorem d0v{P:Params}{h:Heap} : ∀ (ns:List Int) (vs:List Value),WellAll P h vs (ns.map WData.int)->IntsAre vs ns:=by
 intro ns
 induction ns with
 | nil =>
  intro vs w
  rw[List.map_nil]at w
  cases w
  exact .nil
 | cons n ns ih =>
  intro vs w
  rw[List.map_cons]at w
  cases w with
  | cons a b =>
   cases a
   exact .cons _ _ (ih _ b)
theorem e9o{l:OpenLaw}{n:Nat}(hn:l.most=some n){P:Params}{h:Heap}{args:List WData}{vals:List Value}
 (hpre:l.row.toRowW.claim.pre args=true) (hwl:WellAll P h vals args) :
 ∃ a vs ns,vals=[Value.ref a]/\args=[WData.list (ns.map WData.int)]/\h.get? a=some { cls:=.type "list",data:=.seq vs.toArray }/\IntsAre vs ns/\ns.length<=n:=by
 have hsh:WShape.hasAll [] args [.list .int]=true:=(pre_splitW hpre).1
 have hc:l.pre.holds [] { args:=args }=true:=(pre_splitW hpre).2
 obtain⟨d,r,rfl,h1,h2⟩:=hasAllW_cons hsh
 obtain rfl:=hasAllW_nil h2
 obtain⟨xs,rfl,h3⟩:=hasW_list h1
 obtain⟨ns,rfl⟩:=items_int h3
 have hlen:ns.length<=n:=by
  unfold OpenLaw.pre at hc
  have h4:(WTm.not (.lt (.lit (.int (n:Int))) (.len (.arg 0)))).holds [] { args:=[.list (ns.map .int)] }=true:=by
   have h4:=(holds_andW hc).1
   rw[hn]at h4
   exact h4
  have h5:=condW_of h4 (w_not (w_lt w_lit (w_len_list (w_arg rfl))))
  rw[List.length_map]at h5
  refine Nat.le_of_not_lt fun q=>?_
  have q':(n:Int) < ((ns.length:Nat):Int):=by omega
  first
   | (rw[decide_eq_true q']at h5; exact absurd h5 (by decide))
   | (simp at h5; omega)
 cases hwl with
 | cons w1 w2 =>
  cases w2
  cases w1 with
  | list ho hall=>exact⟨_,_,ns,rfl,rfl,ho,d0v ns _ hall,hlen⟩
theorem f0i(l:OpenLaw)(args:List WData):l.row.toRowW.claim.post args (.bool true) args=true :=
 postW_of (r:=l.row.toRowW) (X:=(true == true))
  (show WShape.has [] (.bool true) .bool=true by first | rfl | decide | simp[WShape.has,WShape.arms,WShape.armsAll])
  (show (WTm.eq .res (.lit (.bool true))).value [] { args:=args,res:=some (.bool true),after:=args }=some (.bool (true == true)) from w_eq_bool (w_res rfl) w_lit) rfl
theorem attach_call{l:OpenLaw}{n:Nat}{q:Program}{loose:List Str}{XP:(Str->Option Value)->Heap->Prop}{YP:World->Heap->Prop}{d:DefRec}
 (hn:l.most=some n) (hdf:d.params.defaults=[])
 (call : ∀ (w:World) (s₀ s₁:Shared) (mg mb:Str->Option Value) (fa:Addr) (o:Obj) (pm cd doc:Value) (a:Addr) (vs:List Value) (ns:List Int),
   Ground q loose [] XP w s₀ mg mb s₁.heap->YP w s₁.heap ->
   s₁.heap.get? fa=some o->o.data=.func (docDef d.name d.params d.body d.scope pm cd doc)->s₁.heap.CodeRec cd d.name->mg d.name=some (.ref fa) ->
   s₁.heap.get? a=some { cls:=.type "list",data:=.seq vs.toArray }->IntsAre vs ns->ns.length<=n->s₁.gens = #[] ->
   codeAny (model l.prog w) callerA (.call (.ref fa) ⟨[.ref a],[]⟩) (fun r s'=>r=.ok (.ret (.bool true))/\OldK s₁.heap s'.heap/\s'.os=s₁.os/\AllBare s'.gens) s₁) :
 WalkO q loose XP YP l.row.toRowW d [] (fun f vs=>PySem.call f vs):=by
 intro w s₀ s₁ mg mb G Y fa o pm cd doc dV kV ho hd hcd hD hmg hg args vals as hpre hlay hrd hwl hlo
 obtain rfl:dV=.none:=Dflts.none hD hdf
 obtain rfl:kV=.none:=Dflts.noKw hD
 obtain⟨a,vs,ns,rfl,rfl,hobj,hints,hlen⟩:=e9o hn hpre hwl
 refine enter_call (codeAny_mono (call w s₀ s₁ mg mb fa o pm cd doc a vs ns G Y ho (fd_plain hd) hcd hmg hobj hints hlen hg) fun r s' hq=>?_)
 obtain⟨rfl,h2,h3,h4⟩:=hq
 exact⟨.inl ⟨.bool true,.bool true,[],rfl,fun _=>rfl,.bool true,f0i l _,fun _=>⟨List.Pairwise.nil,fun _ hm=>(nomatch hm)⟩⟩,h2,h3,h4⟩
end Att
namespace L2
open PySem PySem.Spec PyProof.Rows
theorem d8p : ∀ {vs:List Value} {ns:List Int},IntsAre vs ns->a5s (ns.map V.int) vs
 | _,_,.nil=>.nil
 | _,_,.cons n t h=>.cons ⟨t,rfl⟩ (d8p h)
def h1z(H:Hp):Prop:=∀ b,H b=none\/∃ o xs,H b=some (.frz o (.lst xs))
theorem f7n{P:Program}{w:World}{K:W.Frag}{mg mb:Str->Option Value}{CX:CXT}{k:Nat}{fa a:Addr}{fd:FuncData}{x:Str}{sp:Sp}{s₁:Shared}{vs:List Value}{ns:List Int}
 (KX:K.In s₁.heap) (hns:s₁.heap.Ns mainGlobals mg) (hb:s₁.heap.Ns builtinsNs mb) (hbb : ∀ x:Str,x ≠ "__name__"->mb x=bootBuiltins x) (hlim:s₁.heap.NoLimit) (hg:s₁.gens = #[])
 (ha:s₁.heap.get? a=some { cls:=.type "list",data:=.seq vs.toArray }) (hi:IntsAre vs ns) (hl:ns.length<=sizeLine) (hr:c2r k callerA)
 (F : ∀ base:Heap,K.In base->base.Ns mainGlobals mg->b8g P w K mg base CX k fa fd [x] sp) (hbind : ∀ (s:Shared) (u:Value),BindsTo s fd ⟨[u],[]⟩ [(x,u)])
 (hsp : ∀ H:Hp,h1z H->SqL K H a (ns.map V.int)->sp [.ref a] H (fun v _=>v=.bl true) fun _ _ _=>False)
 (hCX : ∀ H e s',CX [] H s₁ (fun _ _ _=>False) e s'->False) :
 codeAny (model P w) callerA (.call (.ref fa) ⟨[.ref a],[]⟩) (fun r s'=>r=.ok (.ret (.bool true))/\OldK s₁.heap s'.heap/\s'.os=s₁.os/\AllBare s'.gens) s₁:=by
 have rv:=d8p hi
 have lenV:=hi.length
 have core : ∀ H:Hp,h1z H->SqL K H a (ns.map V.int)->HOk P w H s₁.heap->(∀ b,H b≠none->b=a)->(H a≠none->K.lookup a=none) ->
  codeAny (model P w) callerA (.call (.ref fa) ⟨[.ref a],[]⟩) (fun r s'=>r=.ok (.ret (.bool true))/\OldK s₁.heap s'.heap/\s'.os=s₁.os/\AllBare s'.gens) s₁:=by
  intro H hO hS hok hA hK
  have base_of : ∀ {b:Addr} {o:Obj},s₁.heap.get? b=some o->H b=none->(f7t s₁.heap H).get? b=some o:=fun e n=>f7s e n
  have noA : ∀ {b:Addr} {o:Obj} {es:Array DictEntry} {ep:Nat},s₁.heap.get? b=some o->o.data=.dict es ep->H b=none:=fun {b o es ep} e d=>by
   cases q:H b with
   | none=>rfl
   | some u =>
    have e':b=a:=hA b (by rw[q]; simp)
    subst e'
    rw[ha]at e; cases e
    have d':Data.seq vs.toArray _=Data.dict es ep:=d
    cases d'
  have nsK : ∀ {b:Addr} {m:Str->Option Value},s₁.heap.Ns b m->(f7t s₁.heap H).Ns b m:=fun {b m} ⟨o,es,ep,e,d,r⟩=>⟨o,es,ep,base_of e (noA e d),d,r⟩
  have hKb:K.In (f7t s₁.heap H):=fun b o e=>base_of (KX b o e) (by
   cases q:H b with
   | none=>rfl
   | some u =>
    have e':b=a:=hA b (by rw[q]; simp)
    subst e'
    rw[hK (by rw[q]; simp)]at e; cases e)
  have hM:Mod K mg (f7t s₁.heap H):=⟨hKb,nsK hns,⟨mb,nsK hb,hbb⟩,let ⟨mc,h1,h2⟩:=hlim; ⟨mc,nsK h1,h2⟩⟩
  have e0:g0m P w K mg (f7t s₁.heap H) callerA [] s₁ H:=⟨rfl,hM,fun b o e=>g2l e,Nat.le_of_eq (f1k _ _),trivial,fun b hb=>absurd (show b∈([]:List Addr) from hb) (by simp),hok,.of_eq hg⟩
  refine codeAny_mono ((F _ hKb (nsK hns)).run callerA [] s₁ H ⟨[.ref a],[]⟩ [.ref a] [.ref a] _ _ hr e0 (hbind s₁ (.ref a)) (.cons rfl .nil) (hsp H hO hS)) fun r s' h=>?_
  cases r with
  | error e=>exact (hCX H e s' h).elim
  | ok fl =>
   cases fl with
   | next=>exact False.elim h
   | brk=>exact False.elim h
   | cont=>exact False.elim h
   | ret u =>
    obtain⟨v,H',os,bare,un,hok',r',q⟩:=h
    have q':v=.bl true:=q
    subst q'
    obtain rfl:u=Value.bool true:=r'
    refine⟨rfl,OldK.of_keep fun b o e=>?_,os,bare⟩
    cases q:H b with
    | none=>exact un.keep b o e q (by intro z; exact absurd (show b∈([]:List Addr) from z) (by simp)) (by simp)
    | some u =>
     rcases hO b with z | ⟨ob,xs,z⟩
     ·rw[q]at z; cases z
     ·have z2:=un.frzs b ob _ z
      obtain⟨e1,_⟩:=hok b _ z
      obtain⟨e2,_⟩:=hok' b _ z2
      rw[e]at e1; cases e1
      exact e2
 cases hk:K.lookup a with
 | some o =>
  have e:=KX a o hk
  rw[ha]at e
  cases e
  refine core (fun _=>none) (fun _=>.inl rfl) (.inr ⟨_,vs.toArray,_,hk,rfl,rfl,rfl,by rw[List.size_toArray,lenV]; exact hl,by simpa using rv⟩) (fun b u z=>by have z':(none:Option HO)=some u:=z; cases z') (fun b z=>absurd rfl z) fun z=>absurd rfl z
 | none =>
  refine core (fun b=>if b=a then some (.frz { cls:=.type "list",data:=.seq vs.toArray } (.lst (ns.map V.int))) else none) (fun b=>?_) (.inl (.inr ⟨{ cls:=.type "list",data:=.seq vs.toArray },if_pos rfl⟩)) (fun b u z=>?_) (fun b z=>?_) fun _=>hk
  ·by_cases hb:b=a
   ·exact .inr ⟨_,_,if_pos hb⟩
   ·exact .inl (if_neg hb)
  ·by_cases hb:b=a
   ·have z':=(if_pos hb).symm.trans z
    cases z'
    subst hb
    exact⟨ha,by rw[List.length_map]; exact hl,vs,_,rv,ha⟩
   ·have z':=(if_neg hb).symm.trans z
    cases z'
  ·by_cases hb:b=a
   ·exact hb
   ·exact absurd (if_neg hb) z
abbrev KOf{K:W.Frag}{h:Heap}(_:K.In h):W.Frag:=K
theorem walk_of{l:W.OpenLaw}{n k:Nat}{q:Program}{loose:List Str}{XP:(Str->Option Value)->Heap->Prop}{YP:World->Heap->Prop}{d:DefRec}{K:Params->W.Frag}{CX:World->CXT}{sp:World->Sp}{x:Str}
 (hn:l.most=some n) (hn2:n<=sizeLine) (hdf:d.params.defaults=[]) (hr:c2r k callerA)
 (hY : ∀ (w:World) (h:Heap),YP w h->(K w.params).In h)
 (F : ∀ (w:World) (mg:Str->Option Value) (fa:Addr) (h:Heap),(K w.params).In h->h.Ns mainGlobals mg->mg d.name=some (.ref fa) ->
   ∃ fd:FuncData,(∀ (s:Shared) (u:Value),BindsTo s fd ⟨[u],[]⟩ [(x,u)]) /\
    ∀ base:Heap,(K w.params).In base->base.Ns mainGlobals mg->b8g l.prog w (K w.params) mg base (CX w) k fa fd [x] (sp w))
 (hsp : ∀ (w:World) (H:Hp) (a:Addr) (ns:List Int),ns.length<=n->h1z H->SqL (K w.params) H a (ns.map V.int)->sp w [.ref a] H (fun v _=>v=.bl true) fun _ _ _=>False)
 (hCX : ∀ (w:World) (H:Hp) (s:Shared) (e:Value) (s':Shared),CX w [] H s (fun _ _ _=>False) e s'->False) :
 W.WalkO q loose XP YP l.row.toRowW d [] (fun f vs=>PySem.call f vs):=by
 refine Att.attach_call hn hdf fun w s₀ s₁ mg mb fa o pm cd doc a vs ns G Y ho hd hcd hmg hobj hints hlen hg=>?_
 have KX:=hY w _ Y
 obtain⟨fd,hb,hF⟩:=F w mg fa _ KX G.T.g hmg
 exact f7n KX G.T.g G.T.b G.T.builtins G.T.nolimit hg hobj hints (Nat.le_trans hlen hn2) hr hF hb (fun H hO hS=>hsp w H a ns hlen hO hS) fun H e s'=>hCX w H s₁ e s'
end L2
/- THE LAST THEOREM (shape; LID,My.* are yours):
 My.Adr: a structure of the addresses that your layer names (classes,functions); My.Txt K t: a structure (Prop) of the equations over K;
 My.txt_mk : {K} {implicit addresses ..} (e1:nsIn K mainGlobals "law" = some (some (.ref f))) (e2:K.lookup f=some ⟨oc,od,.func (fnOf "law" "law" params body scope dV kV doc pm an cdv ct),sl⟩) (e3:codeIn K cdv "law" = true) .. : ∃ t,My.Txt K t
set_option maxRecDepth 100000 in
set_option maxHeartbeats 0 in
theorem PySem.Challenge.cw_LID_holds : PySem.Challenge.rw_LID.Holds := by
 w_on; o_law; k_head; (case hw=>w_witness2)
 k_fill
 refine L2.walk_of (l:=PySem.Challenge.rw_LID) (n:=63) (k:=40) (x := "script") (CX:=fun w=>..) (sp:=fun _=>My.e9i) rfl (by decide) rfl ⟨rfl,by decide,by decide⟩ (fun w h Y=>W.kIn_of Y) ?F ?S ?C
 case F =>
  intro w mg fa h KX G hmg
  have T : ∃ t,My.Txt (L2.KOf KX) t:=by
   dsimp only [L2.KOf]                          -- K must stand as «<heap const> w.params» for k_is
   refine' My.txt_mk ?e1 ?e2 ?e3 ..
   (case e1=>W.k_is)                    -- in the order: a name->its address->its object->its parts
   (case e2=>W.k_is)
   ..
  obtain⟨t,T⟩:=T
  have e0:=hmg.symm.trans (W.mg_of KX G T.law)
  cases e0                                       -- fa is the law's own address
  exact⟨_,fun s u=>.of_eq rfl,fun base kb nb=>My.law_fn T kb nb⟩     -- if «.of_eq rfl» comes too early: refine' ⟨_,?b,fun base kb nb=>My.law_fn T kb nb⟩; exact fun s u=>.of_eq rfl
 case S=>exact fun w H a ns hl hO hS=>..
 case C=>exact ..
(the tactic k_is has no namespace: write k_is) -/
namespace L2
open PySem PySem.Spec PyProof.Rows
def a1s(s:Stmt)(j:Nat):Stmt:=match s with
 | .ClassDef _ _ _ body _ _ _ _ _ _ _=>body.getD j (.Pass ⟨0,0,0,0⟩)
 | _=>.Pass ⟨0,0,0,0⟩
def a0t(s:Stmt):Arguments:=match s with
 | .FunctionDef _ a _ _ _ _ _ _ _ _=>a
 | _=>{ posonlyargs:=[],args:=[],vararg:=none,kwonlyargs:=[],kw_defaults:=[],kwarg:=none,defaults:=[] }
def a0s(s:Stmt):List Stmt:=match s with
 | .FunctionDef _ _ b _ _ _ _ _ _ _=>b
 | _=>[]
def a0f(s:Stmt):Scope:=match s with
 | .FunctionDef _ _ _ _ _ _ sc _ _ _=>sc
 | _=>{ kind:=.function,names:=[],isGenerator:=false,isCoroutine:=false }
abbrev CX0:CXT:=fun _ _ _ _ _ _=>False
abbrev E0:XK:=fun _ _ _=>False
theorem g6g{X:Cx}:c8y CX0 X E0:=fun _ _ _ _ _ _ _ h=>h.elim
structure Fun (K:W.Frag) (x qual:Str) (st:Stmt) (f:Addr) (fd:FuncData):Prop where
 ex : ∃ (oc:Value) (od:Option Addr) (kV doc pm:Value) (an:Option Addr) (cdv ct:Value) (osl:Array (Option Value)),
  fd=W.fnOf x qual (a0t st) (a0s st) (a0f st) .none kV doc pm an cdv ct/\K.lookup f=some ⟨oc,od,.func fd,osl⟩/\W.codeIn K cdv qual=true
 kp:W.keepIn K (.ref f)=true
section
variable {P:Program}{w:World}{K:W.Frag}{mg:Str->Option Value}{base:Heap}
theorem Fun.ok{x qual:Str}{st:Stmt}{f:Addr}{fd:FuncData}{N ps:List Str}{k:Nat}{sp:Sp}(F:Fun K x qual st f fd)(S:a0u N ps (a0f st))(len : ∀ vs H Q E,sp vs H Q E->vs.length=ps.length)
 (hbody : ∀ (cdv:Value) (A:Around) (outer:List Env) (s:Shared) (H:Hp) (vs:List V) (Q:VK) (E:XK),c2r k (A.deeper (envOfC qual (a0f st) s.heap.objs.size f cdv))->sp vs H Q E ->
   ∃ t,PSs (g0e CX0 P w K mg base N qual (a0f st) f cdv A outer s H E).nox (a0s st) t/\t { nx:=fun _ H'=>Q .non H',rt:=Q } (d3t N vs) H):b8g P w K mg base CX0 (k+1) f fd ps sp:=by
 obtain⟨oc,od,kV,doc,pm,an,cdv,ct,osl,rfl,lk,hcd⟩:=F.ex
 refine g8f lk hcd S len fun A outer s H vs Q E hr hsp=>?_
 obtain⟨t,h,q⟩:=hbody cdv A outer s H vs Q E hr hsp
 exact⟨t,h.nox,q⟩
theorem Fun.binds{x qual:Str}{st:Stmt}{f:Addr}{fd:FuncData}{ps:List Str}(F:Fun K x qual st f fd)
 (h : ∀ (kV doc pm:Value) (an:Option Addr) (cdv ct:Value) (us:List Value),us.length=ps.length->bindArgs (W.fnOf x qual (a0t st) (a0s st) (a0f st) .none kV doc pm an cdv ct) ⟨us,[]⟩=pure (ps.zip us)):a1h K fd ps []:=by
 obtain⟨oc,od,kV,doc,pm,an,cdv,ct,osl,rfl,lk,hcd⟩:=F.ex
 exact .all (h kV doc pm an cdv ct)
theorem a1n{x qual:Str}{st:Stmt}{f:Addr}{oc:Value}{od an:Option Addr}{osl:Array (Option Value)}{kV doc pm cdv ct:Value}(l:K.lookup f=some ⟨oc,od,.func (W.fnOf x qual (a0t st) (a0s st) (a0f st) .none kV doc pm an cdv ct),osl⟩)
 (c:W.codeIn K cdv qual=true) (k:W.keepIn K (.ref f)=true):Fun K x qual st f (W.fnOf x qual (a0t st) (a0s st) (a0f st) .none kV doc pm an cdv ct):=⟨⟨oc,od,kV,doc,pm,an,cdv,ct,osl,rfl,l,c⟩,k⟩
end
section
variable {X:Cx}
theorem pv(i:Nat){x:Str}{pos:Pos}(hN:X.N[i]? = some x:=by rfl)(hv:Vis X.env.scope x:=by first | exact Or.inl rfl | exact Or.inr (Or.inl rfl) | exact Or.inr (Or.inr rfl))(hd:(x == ("__debug__" : Str))=false:=by decide)
 (hcd:(x == ("__classdict__" : Str))=false:=by decide):PE X (.Name x pos) (h2i i):=f9i hN hv hd hcd
end
theorem g7o{A B:Prop}(h:B):if false=true then A else B:=by
 rw[if_neg Bool.false_ne_true]
 exact h
theorem f7o{A B:Prop}(h:A):if true=true then A else B:=by
 rw[if_pos rfl]
 exact h
theorem a1v{c A B:Prop}[Decidable c](h1:c->A)(h2 : ¬ c->B):if c then A else B:=by
 by_cases h:c
 ·rw[if_pos h]
  exact h1 h
 ·rw[if_neg h]
  exact h2 h
def a1l(H H':Hp):Prop:=∀ b o,H b=some o->H' b=some o
theorem a1l.refl(H:Hp):a1l H H:=fun _ _ h=>h
theorem a1l.trans{H H1 H2:Hp}(a:a1l H H1)(b:a1l H1 H2):a1l H H2:=fun c o h=>b c o (a c o h)
theorem a1l.free{H H':Hp}(e:a1l H H'){l:Addr}(h:H' l=Option.none):H l=Option.none:=by
 cases q:H l with
 | none=>rfl
 | some o =>
  rw[e l o q]at h
  cases h
theorem a1l.seq{K:W.Frag}{H H':Hp}{a:Addr}{xs:List V}(e:a1l H H')(h:SqL K H a xs):SqL K H' a xs:=by
 rcases h with (h | ⟨o,h⟩) | h
 ·exact .inl (.inl (e _ _ h))
 ·exact .inl (.inr ⟨o,e _ _ h⟩)
 ·exact .inr h
end L2
set_option maxHeartbeats 4000000
namespace HT
open PySem PyProof.Rows
end HT
namespace L2
open PySem PySem.Spec PyProof.Rows
theorem PE.imp{X:Cx}{e:Expr}{t t':TE}(h:PE X e t)(k : ∀ σ H Q,t' σ H Q->t σ H Q):PE X e t':=fun pins s σ H Q I q=>h pins s σ H Q I (k σ H Q q)
theorem OpR.imp{X:Cx}{f:Value->Value->Sem Value}{r r':R2}(h:OpR X f r)(k : ∀ x y H Q,r' x y H Q->r x y H Q):OpR X f r':=fun pins s σ H x y v u Q I rx ry q=>h pins s σ H x y v u Q I rx ry (k x y H Q q)
theorem b4i.imp{X:Cx}{f:Value}{r r':List V->Hp->VK->Prop}(h:b4i X f r)(k : ∀ xs H Q,r' xs H Q->r xs H Q):b4i X f r':=fun pins s σ H xs us Q I rs q=>h pins s σ H xs us Q I rs (k xs H Q q)
theorem IxR.imp{X:Cx}{r r':R2}(h:IxR X r)(k : ∀ x y H Q,r' x y H Q->r x y H Q):IxR X r':=fun value slice pins s σ H x y v u Q I rx ry q hs=>h value slice pins s σ H x y v u Q I rx ry (k x y H Q q) hs
theorem a1l.new{H:Hp}{p:Addr}{o:HO}(h:H p=none):a1l H (upd H p o):=fun b u e=>by rw[a1c (a0l e h)]; exact e
structure Gro (H:Hp) (p:Addr) (o:HO) (H':Hp):Prop where
 nw:H p=none
 sm:a1l H H'
 at_:H' p=some o
theorem Gro.mk'{H:Hp}{p:Addr}{o:HO}(h:H p=none):Gro H p o (upd H p o):=⟨h,a1l.new h,a0v⟩
theorem Gro.lst{K:W.Frag}{H H':Hp}{p:Addr}{xs:List V}(g:Gro H p (.lst xs) H'):SqL K H' p xs:=.of g.at_
theorem Gro.tup{K:W.Frag}{H H':Hp}{p:Addr}{xs:List V}(g:Gro H p (.tup xs) H'):SqT K H' p xs:=.of g.at_
theorem a1l.put{H H':Hp}{p:Addr}{o:HO}(s:a1l H H')(h:H p=none):a1l H (upd H' p o):=fun b u e=>by
 rw[a1c (a0l e h)]
 exact s b u e
def mV(i:Nat):TE:=fun σ H Q=>match σ[i]? with
 | some (some v)=>Q v H
 | _=>False
theorem vv(i:Nat){X:Cx}{x:Str}{pos:Pos}(hN:X.N[i]? = some x:=by rfl)(hv:Vis X.env.scope x:=by first | exact Or.inl rfl | exact Or.inr (Or.inl rfl) | exact Or.inr (Or.inr rfl))(hd:(x == ("__debug__" : Str))=false:=by decide)
 (hcd:(x == ("__classdict__" : Str))=false:=by decide):PE X (.Name x pos) (mV i):=(f9i hN hv hd hcd).imp fun σ H Q q=>by
 unfold mV at q
 split at q
 ·exact⟨_,by assumption,q⟩
 ·exact q.elim
section
variable {X:Cx}{a b:Expr}{ta tb:TE}{pos:Pos}{c2u:List Expr}
def h3f(ta tb:TE):TE:=fun σ H Q=>ta σ H fun x H1=>match x with
 | .bl c=>if c=true then tb σ H1 Q else Q (.bl false) H1
 | _=>False
def mOr(ta tb:TE):TE:=fun σ H Q=>ta σ H fun x H1=>match x with
 | .bl c=>if c=true then Q (.bl true) H1 else tb σ H1 Q
 | _=>False
def h3d(ta:TE):TE:=fun σ H Q=>ta σ H fun x H1=>match x with
 | .bl c=>Q (.bl (!c)) H1
 | _=>False
theorem g7b(ha:PE X a ta)(hb:PE X (.BoolOp .And (b :: c2u) pos) tb):PE X (.BoolOp .And (a :: b :: c2u) pos) (h3f ta tb):=by
 intro pins s σ H Q I h
 refine BoolOp_and (thn (ha pins s σ H _ I h) fun v s1 ⟨x,H1,I1,r1,q1⟩=>?_)
 cases x with
 | bl c =>
  cases r1
  refine wpAny_truthy_bool ?_
  cases c with
  | true=>exact hb pins s1 σ H1 Q I1 q1
  | false=>exact⟨.bl false,H1,I1,rfl,q1⟩
 | _=>exact False.elim q1
theorem h0n(ha:PE X a ta)(hb:PE X (.BoolOp .Or (b :: c2u) pos) tb):PE X (.BoolOp .Or (a :: b :: c2u) pos) (mOr ta tb):=by
 intro pins s σ H Q I h
 refine BoolOp_or (thn (ha pins s σ H _ I h) fun v s1 ⟨x,H1,I1,r1,q1⟩=>?_)
 cases x with
 | bl c =>
  cases r1
  refine wpAny_truthy_bool ?_
  cases c with
  | false=>exact hb pins s1 σ H1 Q I1 q1
  | true=>exact⟨.bl true,H1,I1,rfl,q1⟩
 | _=>exact False.elim q1
theorem g6y(ha:PE X a ta):PE X (.UnaryOp .Not a pos) (h3d ta):=by
 intro pins s σ H Q I h
 refine UnaryOp_ (thn (ha pins s σ H _ I h) fun v s1 ⟨x,H1,I1,r1,q1⟩=>?_)
 cases x with
 | bl c =>
  cases r1
  exact not_of (wpAny_truthy_bool ⟨.bl (!c),H1,I1,rfl,q1⟩)
 | _=>exact False.elim q1
def mB(t:TE):TT:=fun σ H Q=>t σ H fun x H1=>match x with
 | .bl c=>Q c H1
 | _=>False
theorem g6r{e:Expr}{t:TE}(h:PE X e t)(he : ∀ whole,isTrue e X.env whole=(do let v <- whole; standAt e.pos; holding [v] (truthy v)):=by intro _; rfl):PT X e (mB t):=by
 intro pins s σ H Q I hw
 refine isTrue_plain (thn (h pins s σ H _ I hw) fun v s1 ⟨x,H1,I1,r1,q1⟩=>?_) (he _)
 cases x with
 | bl c =>
  cases r1
  exact wpAny_truthy_bool ⟨H1,I1,q1⟩
 | _=>exact False.elim q1
theorem g6t{op:CmpOp}{r:R2}(ho:OpR X (compareOp op) r)(ha:PE X a ta)(hb:PE X b tb)(hm:behindInMarks op b=false):PT X (.Compare a [op] [b] pos) (mB (tOp r ta tb)):=by
 intro pins s σ H Q I h
 refine wpAny_isTrue_Compare1 (thn (ha pins s σ H _ I h) fun v s1 ⟨x,H1,I1,r1,q1⟩=>thn (hb pins s1 σ H1 _ I1 q1) fun u s2 ⟨y,H2,I2,r2,q2⟩ =>
  thn (ho pins s2 σ H2 x y v u _ I2 r1 r2 q2) fun c s3 ⟨z,H3,I3,r3,q3⟩=>?_) hm
 cases z with
 | bl k =>
  cases r3
  exact wpAny_truthy_bool ⟨H3,I3,q3⟩
 | _=>exact False.elim q3
def e5b(r r':R2)(ta tb tc:TE):TE:=fun σ H Q=>ta σ H fun x H1=>tb σ H1 fun y H2=>r x y H2 fun z H3=>match z with
 | .bl k=>if k=true then tc σ H3 fun w' H4=>r' y w' H4 Q else Q (.bl false) H3
 | _=>False
theorem f7j{c:Expr}{tc:TE}{op op':CmpOp}{r r':R2}(ho:OpR X (compareOp op) r)(ho':OpR X (compareOp op') r')(ha:PE X a ta)(hb:PE X b tb)(hc:PE X c tc)
 (hm:lastMarks [op,op'] [b,c]=false:=by with_unfolding_all rfl):PE X (.Compare a [op,op'] [b,c] pos) (e5b r r' ta tb tc):=by
 intro pins s σ H Q I h
 refine Compare_chain (thn (ha pins s σ H _ I h) fun v s1 ⟨x,H1,I1,r1,q1⟩=>chain_link (thn (hb pins s1 σ H1 _ I1 q1) fun u s2 ⟨y,H2,I2,r2,q2⟩ =>
  thn (ho pins s2 σ H2 x y v u _ I2 r1 r2 q2) fun d s3 ⟨z,H3,I3,r3,q3⟩=>?_)) hm
 cases z with
 | bl k =>
  cases r3
  refine wpAny_truthy_bool ?_
  cases k with
  | false=>exact ite_ff ⟨.bl false,H3,I3,rfl,q3⟩
  | true=>exact ite_tt (chain_last (thn (hc pins s3 σ H3 _ I3 q3) fun w' s4 ⟨z',H4,I4,r4,q4⟩=>ho' pins s4 σ H4 y z' u w' Q I4 r2 r4 q4))
 | _=>exact False.elim q3
theorem f7g{c:Expr}{tc:TE}{op op':CmpOp}{r r':R2}(ho:OpR X (compareOp op) r)(ho':OpR X (compareOp op') r')(ha:PE X a ta)(hb:PE X b tb)(hc:PE X c tc)
 (hm:lastMarks [op,op'] [b,c]=false:=by with_unfolding_all rfl):PT X (.Compare a [op,op'] [b,c] pos) (mB (e5b r r' ta tb tc)):=by
 intro pins s σ H Q I h
 refine isTrue_chain (thn (ha pins s σ H _ I h) fun v s1 ⟨x,H1,I1,r1,q1⟩=>test_link (thn (hb pins s1 σ H1 _ I1 q1) fun u s2 ⟨y,H2,I2,r2,q2⟩ =>
  thn (ho pins s2 σ H2 x y v u _ I2 r1 r2 q2) fun d s3 ⟨z,H3,I3,r3,q3⟩=>?_)) hm
 cases z with
 | bl k =>
  cases r3
  refine wpAny_truthy_bool ?_
  cases k with
  | false=>exact ite_ff ⟨H3,I3,q3⟩
  | true =>
   refine ite_tt (test_last (thn (hc pins s3 σ H3 _ I3 q3) fun w' s4 ⟨z',H4,I4,r4,q4⟩=>thn (ho' pins s4 σ H4 y z' u w' _ I4 r2 r4 q4) fun d' s5 ⟨z2,H5,I5,r5,q5⟩=>?_))
   cases z2 with
   | bl k2 =>
    cases r5
    exact wpAny_truthy_bool ⟨H5,I5,q5⟩
   | _=>exact False.elim q5
 | _=>exact False.elim q3
def h0r(K:W.Frag)(t:TE):TT:=fun σ H Q=>t σ H fun x H1=>match x with
 | .non=>Q false H1
 | .bl c=>Q c H1
 | .int i=>Q (i != 0) H1
 | .ref p=>∃ xs,(SqL K H1 p xs\/SqT K H1 p xs)/\Q (!xs.isEmpty) H1
 | _=>False
theorem g6s{e:Expr}{t:TE}(h:PE X e t)(he : ∀ whole,isTrue e X.env whole=(do let v <- whole; standAt e.pos; holding [v] (truthy v)):=by intro _; rfl):PT X e (h0r X.K t):=by
 intro pins s σ H Q I hw
 refine isTrue_plain (thn (h pins s σ H _ I hw) fun v s1 ⟨x,H1,I1,r1,q1⟩=>?_) (he _)
 cases x with
 | non=>exact d8z pins s1 σ H1 _ v Q I1 r1 ⟨false,rfl,q1⟩
 | bl c=>exact d8z pins s1 σ H1 _ v Q I1 r1 ⟨c,rfl,q1⟩
 | int i=>exact d8z pins s1 σ H1 _ v Q I1 r1 ⟨i != 0,rfl,q1⟩
 | ref p =>
  obtain⟨xs,hx,q1⟩:=q1
  rcases hx with hx | hx
  ·exact d8z pins s1 σ H1 _ v Q I1 r1 ⟨_,.inl ⟨xs,hx,rfl⟩,q1⟩
  ·exact d8z pins s1 σ H1 _ v Q I1 r1 ⟨_,.inr (.inl ⟨xs,hx,rfl⟩),q1⟩
 | _=>exact False.elim q1
end
section
variable {X:Cx}{a b:Expr}{ta tb:TE}{pos:Pos}
def gI(C:Int->Int->Prop)(g:Int->Int->V):R2:=fun x y H Q=>match x,y with
 | .int i,.int j=>C i j/\Q (g i j) H
 | _,_=>False
def gI0(g:Int->Int->V):R2:=fun x y H Q=>match x,y with
 | .int i,.int j=>Q (g i j) H
 | _,_=>False
theorem e0b{f:Value->Value->Sem Value}{g:Int->Int->V}(h:OpR X f (rI0 g)):OpR X f (gI0 g):=h.imp fun x y H Q q=>by
 cases x <;> cases y <;> first | exact False.elim q | exact⟨_,_,rfl,rfl,q⟩
theorem g3k{f:Value->Value->Sem Value}{C:Int->Int->Prop}{g:Int->Int->V}(h:OpR X f (rI C g)):OpR X f (gI C g):=h.imp fun x y H Q q=>by
 cases x <;> cases y <;> first | exact False.elim q | exact⟨_,_,rfl,rfl,q.1,q.2⟩
theorem b2z:OpR X (binaryOp .Sub) (gI0 fun i j=>.int (i - j)):=e0b g6h
theorem f8d:OpR X (binaryOp .Mod) (gI (fun _ j=>0 < j) fun i j=>.int (i%j)):=g3k f9n
theorem h1f:OpR X (binaryOp .RShift) (gI (fun _ j=>0<=j) fun i j=>.int (i / 2 ^ j.toNat)):=g3k g6i
theorem d8n:OpR X (compareOp .Lt) (gI0 fun i j=>.bl (decide (i < j))):=e0b h0f
theorem e7v:OpR X (compareOp .LtE) (gI0 fun i j=>.bl (decide (i<=j))):=e0b h0g
theorem f5f:OpR X (compareOp .Gt) (gI0 fun i j=>.bl (decide (j < i))):=e0b h0h
theorem h3i:OpR X (compareOp .GtE) (gI0 fun i j=>.bl (decide (j<=i))):=e0b h0i
def mFd(j:Int)(ta:TE):TE:=fun σ H Q=>ta σ H fun x H1=>match x with
 | .int i=>Q (.int (i / j)) H1
 | _=>False
def mMd(j:Int)(ta:TE):TE:=fun σ H Q=>ta σ H fun x H1=>match x with
 | .int i=>Q (.int (i%j)) H1
 | _=>False
theorem h0p{j:Int}{k:Nat}{p:Pos}(ha:PE X a ta)(hj:0 < j/\j < 1073741824:=by decide):PE X (.BinOp a .FloorDiv (.Constant (.int j) k p) pos) (mFd j ta):=by
 intro pins s σ H Q I h
 refine wpAny_BinOp (thn (ha pins s σ H _ I h) fun v s1 ⟨x,H1,I1,r1,q1⟩=>?_)
 refine thn (e4x pins s1 σ H1 (fun y H2=>y=.int j/\H2=H1) I1 ⟨rfl,rfl⟩) fun u s2 ⟨y,H2,I2,r2,e1,e2⟩=>?_
 subst e1 e2
 cases x with
 | int i=>exact g2i pins s2 σ H2 (.int i) (.int j) v u Q I2 r1 r2 ⟨i,j,rfl,rfl,hj,q1⟩
 | _=>exact False.elim q1
theorem h0o{j:Int}{k:Nat}{p:Pos}(ha:PE X a ta)(hj:0 < j:=by decide):PE X (.BinOp a .Mod (.Constant (.int j) k p) pos) (mMd j ta):=by
 intro pins s σ H Q I h
 refine wpAny_BinOp (thn (ha pins s σ H _ I h) fun v s1 ⟨x,H1,I1,r1,q1⟩=>?_)
 refine thn (e4x pins s1 σ H1 (fun y H2=>y=.int j/\H2=H1) I1 ⟨rfl,rfl⟩) fun u s2 ⟨y,H2,I2,r2,e1,e2⟩=>?_
 subst e1 e2
 cases x with
 | int i=>exact f9n pins s2 σ H2 (.int i) (.int j) v u Q I2 r1 r2 ⟨i,j,rfl,rfl,hj,q1⟩
 | _=>exact False.elim q1
end
section
variable {X:Cx}
theorem g3p{pins:List (Addr × Obj)}{s:Shared}{σ:St}{H:Hp}{l b:Addr}{xs zs:List V}{Q:VK}(I:Inv X pins σ H s)(hl:SqL X.K H l xs)(hb:SqL X.K H b zs)(hz:xs.length+zs.length<=sizeLine)
 (q : ∀ p H',Gro H p (.lst (xs++zs)) H'->Q (.ref p) H'):wpAny (model X.prog X.w) X.A (binaryOp .Add (.ref l) (.ref b)) (EP X pins σ Q) X.xe s:=by
 obtain⟨its,r,pl,_⟩:=I.list hl
 obtain⟨its2,r2,pl2,_⟩:=I.list hb
 have e1:=r.length
 have e2:=r2.length
 obtain⟨⟨cls,dd,data,sl⟩,ho,hc,n,hd⟩:=pl.isList
 obtain⟨⟨cls2,dd2,data2,sl2⟩,ho2,hc2,n2,hd2⟩:=pl2.isList
 simp only at hc hd hc2 hd2
 subst hc hd hc2 hd2
 have ea:its.toArray++its2.toArray=(its++its2).toArray:=by simp
 refine concat_meets ⟨_,ho,rfl⟩ ⟨_,ho2,rfl⟩ noFill_list_add seq_list_add PySem.F.slot_list_add PySem.F.entry_list_add (PySem.F.args_list_add_2 _ _) (list_addW l b its.toArray its2.toArray n n2 dd dd2 sl sl2 (by rw[List.size_toArray,List.size_toArray]; omega)) ⟨ho,ho2,?_⟩
 rw[ea]
 exact⟨.ref _,_,I.lnew (t':=s.toks) (r.append r2) (by rw[List.length_append]; omega),rfl,q _ _ (.mk' I.fresh)⟩
def h3n(K:W.Frag):R2:=fun x y H Q=>match x,y with
 | .int i,.int j=>Q (.int (i+j)) H
 | .ref l,.ref b=>∃ xs zs,SqL K H l xs/\SqL K H b zs/\xs.length+zs.length<=sizeLine/\∀ p H',Gro H p (.lst (xs++zs)) H'->Q (.ref p) H'
 | _,_=>False
theorem h1g:OpR X (binaryOp .Add) (h3n X.K):=by
 intro pins s σ H x y v u Q I rx ry q
 cases x with
 | int i =>
  cases y with
  | int j=>exact g6o pins s σ H _ _ v u Q I rx ry ⟨i,j,rfl,rfl,q⟩
  | _=>exact False.elim q
 | ref l =>
  cases y with
  | ref b =>
   obtain⟨xs,zs,h1,h2,h3,q⟩:=q
   cases rx
   cases ry
   exact g3p I h1 h2 h3 q
  | _=>exact False.elim q
 | _=>exact False.elim q
def h5r:R2:=fun x y H Q=>match x,y with
 | .int i,.int j=>g9d i j/\Q (.int (i*j)) H
 | .ref l,.int k=>∃ xs,H l=some (.lst xs)/\-(2 ^ 63)<=k/\k < 2 ^ 63/\xs.length*k.toNat<=sizeLine/\∀ p H',Gro H p (.lst (List.replicate k.toNat xs).flatten) H'->Q (.ref p) H'
 | _,_=>False
theorem c3y:OpR X (binaryOp .Mult) h5r:=by
 intro pins s σ H x y v u Q I rx ry q
 cases x with
 | int i =>
  cases y with
  | int j=>exact g6l pins s σ H _ _ v u Q I rx ry ⟨i,j,rfl,rfl,q.1,q.2⟩
  | _=>exact False.elim q
 | ref l =>
  cases y with
  | int k =>
   obtain⟨xs,h1,h2,h3,h4,q⟩:=q
   exact g6j pins s σ H _ _ v u Q I rx ry ⟨l,k,xs,rfl,rfl,h1,h2,h3,h4,fun p hp=>q p _ (.mk' hp)⟩
  | _=>exact False.elim q
 | _=>exact False.elim q
def isB(x:V)(c:Bool):Bool:=match x with
 | .bl d=>d == c
 | _=>false
theorem d0d{x:V}{v:Value}{c:Bool}(r:a8c x v)(hf : ∀ f,x ≠ .ty f):plainIs v (.bool c)=true/\(v == Value.bool c)=isB x c:=by
 cases x with
 | non=>cases r; exact⟨rfl,rfl⟩
 | bl d=>cases r; exact⟨rfl,by cases d <;> cases c <;> rfl⟩
 | int _=>obtain⟨t,rfl⟩:=r; exact⟨rfl,rfl⟩
 | str _=>obtain⟨t,rfl⟩:=r; exact⟨rfl,rfl⟩
 | byt _=>obtain⟨t,rfl⟩:=r; exact⟨rfl,rfl⟩
 | flt _=>obtain⟨t,rfl⟩:=r; exact⟨rfl,rfl⟩
 | ref _=>cases r; exact⟨rfl,rfl⟩
 | ty f=>exact absurd rfl (hf f)
def gIs(neg:Bool):R2:=fun x y H Q=>match y with
 | .non=>Q (.bl (if neg then !decide (x=.non) else decide (x=.non))) H
 | .bl c=>(∀ f,x ≠ .ty f)/\Q (.bl (if neg then !isB x c else isB x c)) H
 | _=>False
theorem g3f:OpR X (compareOp .Is) (gIs false):=by
 intro pins s σ H x y v u Q I rx ry q
 cases y with
 | non=>exact g6m pins s σ H x _ v u Q I rx ry ⟨rfl,q⟩
 | bl c =>
  cases ry
  obtain⟨h1,h2⟩:=d0d (c:=c) rx q.1
  exact wpAny_is_plain h1 ⟨.bl _,H,I,by rw[h2]; rfl,q.2⟩
 | _=>exact False.elim q
theorem d6x:OpR X (compareOp .IsNot) (gIs true):=by
 intro pins s σ H x y v u Q I rx ry q
 cases y with
 | non=>exact g2h pins s σ H x _ v u Q I rx ry ⟨rfl,q⟩
 | bl c =>
  cases ry
  obtain⟨h1,h2⟩:=d0d (c:=c) rx q.1
  exact wpAny_isNot_plain h1 ⟨.bl _,H,I,by rw[h2]; rfl,q.2⟩
 | _=>exact False.elim q
end
def a1j(K:W.Frag)(H:Hp)(d:PyData)(x:V):Prop:=∀ (X:Cx) (pins:List (Addr × Obj)) (σ:St) (s:Shared) (u:Value),X.K=K->Inv X pins σ H s->a8c x u->∃ as,Reads s.heap u d as
def b3a(K:W.Frag)(H:Hp)(ds:List PyData)(xs:List V):Prop:=∀ (X:Cx) (pins:List (Addr × Obj)) (σ:St) (s:Shared) (us:List Value),X.K=K->Inv X pins σ H s->a5s xs us->∃ as,ReadsAll s.heap us ds as
section
variable {K:W.Frag}{H:Hp}
theorem a1j.non:a1j K H .none .non:=fun _ _ _ _ _ _ _ r=>by cases r; exact⟨_,.none⟩
theorem a1j.int(i:Int):a1j K H (.int i) (.int i):=fun _ _ _ _ _ _ _ r=>by obtain⟨t,rfl⟩:=r; exact⟨_,.int i t⟩
theorem a1j.str(x:Str):a1j K H (.str x) (.str x):=fun _ _ _ _ _ _ _ r=>by obtain⟨t,rfl⟩:=r; exact⟨_,.str x t⟩
theorem b3a.nil:b3a K H [] []:=fun _ _ _ _ _ _ _ r=>by cases r; exact⟨_,.nil⟩
theorem b3a.cons{d:PyData}{ds:List PyData}{x:V}{xs:List V}(a:a1j K H d x)(b:b3a K H ds xs):b3a K H (d :: ds) (x :: xs):=fun X pins σ s us e I r=>by
 cases r with
 | cons r1 r2 =>
  obtain⟨as,ha⟩:=a X pins σ s _ e I r1
  obtain⟨bs,hb⟩:=b X pins σ s _ e I r2
  exact⟨_,.cons ha hb⟩
theorem a1j.lst{ds:List PyData}{p:Addr}{xs:List V}(h:SqL K H p xs)(b:b3a K H ds xs):a1j K H (.list ds) (.ref p):=fun X pins σ s u e I r=>by
 cases r
 subst e
 obtain⟨its,rv,⟨o,n,ho,hc,_,hd⟩,_⟩:=I.list h
 obtain⟨as,ha⟩:=b X pins σ s its rfl I rv
 exact⟨_,.list ho hc hd (by simpa using ha)⟩
theorem a1j.tup{ds:List PyData}{p:Addr}{xs:List V}(h:SqT K H p xs)(b:b3a K H ds xs):a1j K H (.tuple ds) (.ref p):=fun X pins σ s u e I r=>by
 cases r
 subst e
 obtain⟨its,rv,⟨o,ho,hc,n,hd⟩,_⟩:=I.tuple h
 obtain⟨as,ha⟩:=b X pins σ s its rfl I rv
 exact⟨_,.tuple ho hc hd (by simpa using ha)⟩
theorem b3a.ints : ∀ ns:List Int,b3a K H (ns.map PyData.int) (ns.map V.int)
 | []=>.nil
 | n :: ns=>.cons (.int n) (b3a.ints ns)
end
open SeqAt (shaped)
def gEq(K:W.Frag)(neg:Bool):R2:=fun x y H Q=>match x,y with
 | .int i,.int j=>Q (.bl (if neg then !decide (i=j) else decide (i=j))) H
 | .bl a,.bl b=>Q (.bl (if neg then !(a == b) else a == b)) H
 | _,_=>∃ d e,a1j K H d x/\a1j K H e y/\shaped d=true/\shaped e=true/\Q (.bl (if neg then !d.eqv e else d.eqv e)) H
section
variable {X:Cx}
theorem f2w{pins:List (Addr × Obj)}{s:Shared}{σ:St}{H:Hp}{x y:V}{v u:Value}{Q:VK}{neg:Bool}(hu:X.A.units+64 < cLine)(I:Inv X pins σ H s)(rx:a8c x v)(ry:a8c y u)
 (q : ∃ d e,a1j X.K H d x/\a1j X.K H e y/\shaped d=true/\shaped e=true/\Q (.bl (if neg then !d.eqv e else d.eqv e)) H) :
 wpAny (model X.prog X.w) X.A (compareOp (if neg then .NotEq else .Eq) v u) (EP X pins σ Q) X.xe s:=by
 obtain⟨d,e,hd,he,h1,h2,q⟩:=q
 obtain⟨as,ra⟩:=hd X pins σ s v rfl I rx
 obtain⟨bs,rb⟩:=he X pins σ s u rfl I ry
 cases neg with
 | true=>exact ne_dataH ra rb h1 h2 hu ⟨.bl _,H,I,rfl,q⟩
 | false=>exact eq_dataH ra rb h1 h2 hu ⟨.bl _,H,I,rfl,q⟩
theorem e5l{i j:Int}:decide (V.int i=V.int j)=decide (i=j):=by simp
theorem h5q(hu:X.A.units+64 < cLine):OpR X (compareOp .Eq) (gEq X.K false):=by
 intro pins s σ H x y v u Q I rx ry q
 have D:=fun q'=>f2w (neg:=false) (Q:=Q) hu I rx ry q'
 cases x with
 | int i =>
  cases y with
  | int j=>exact g6n pins s σ H _ _ v u Q I rx ry ⟨rfl,by rw[e5l]; exact q⟩
  | _=>exact D q
 | bl i =>
  cases y with
  | bl j=>exact g6n pins s σ H _ _ v u Q I rx ry ⟨rfl,by rw[e5m]; exact q⟩
  | _=>exact D q
 | _=>exact D q
theorem h5n(hu:X.A.units+64 < cLine):OpR X (compareOp .NotEq) (gEq X.K true):=by
 intro pins s σ H x y v u Q I rx ry q
 have D:=fun q'=>f2w (neg:=true) (Q:=Q) hu I rx ry q'
 cases x with
 | int i =>
  cases y with
  | int j=>exact g6k pins s σ H _ _ v u Q I rx ry ⟨rfl,by rw[e5l]; exact q⟩
  | _=>exact D q
 | bl i =>
  cases y with
  | bl j=>exact g6k pins s σ H _ _ v u Q I rx ry ⟨rfl,by rw[e5m]; exact q⟩
  | _=>exact D q
 | _=>exact D q
def gIn(K:W.Frag)(neg:Bool):R2:=fun x y H Q=>match y with
 | .ref p=>∃ xs,(SqL K H p xs\/SqT K H p xs)/\c5t x=true/\xs.all c5t=true/\Q (.bl (if neg then !inV x xs else inV x xs)) H
 | _=>False
theorem h5p:OpR X (compareOp .In) (gIn X.K false):=f0p.imp fun x y H Q q=>by
 cases y with
 | ref p=>obtain⟨xs,h1,h2,h3,q⟩:=q; exact⟨p,xs,rfl,h1,h2,h3,q⟩
 | _=>exact False.elim q
theorem g3e:OpR X (compareOp .NotIn) (gIn X.K true):=d9k.imp fun x y H Q q=>by
 cases y with
 | ref p=>obtain⟨xs,h1,h2,h3,q⟩:=q; exact⟨p,xs,rfl,h1,h2,h3,q⟩
 | _=>exact False.elim q
def gIx(K:W.Frag):R2:=fun x y H Q=>match x,y with
 | .ref p,.int i=>∃ xs v,(SqL K H p xs\/SqT K H p xs)/\atI xs i=some v/\Q v H
 | _,_=>False
theorem h5o:IxR X (gIx X.K):=(g2p.or g7n).imp fun x y H Q q=>by
 cases x with
 | ref p =>
  cases y with
  | int i =>
   obtain⟨xs,v,h1,h2,q⟩:=q
   rcases h1 with h1 | h1
   ·exact .inl ⟨p,xs,i,v,rfl,rfl,h1,h2,q⟩
   ·exact .inr ⟨p,xs,i,v,rfl,rfl,h1,h2,q⟩
  | _=>exact False.elim q
 | _=>exact False.elim q
theorem e6f{α:Type}{xs:List α}{i:Int}(h0:0<=i)(h1:i < xs.length) : ∃ v,v∈xs/\atI xs i=some v/\xs[i.toNat]? = some v:=by
 have hl:i.toNat < xs.length:=by omega
 refine⟨xs[i.toNat],List.getElem_mem hl,?_,by simp[hl]⟩
 have e:xs[i.toNat]? = some xs[i.toNat]:=by simp[hl]
 have:=a1f e
 rwa [Int.toNat_of_nonneg h0]at this
def gSl(K:W.Frag):V->Option Int->Option Int->Hp->VK->Prop:=fun x lo hi H Q=>match x with
 | .ref a=>∃ xs,SqL K H a xs/\∀ p H',Gro H p (.lst (d5g xs lo hi)) H'->Q (.ref p) H'
 | _=>False
theorem h5m:SlR X (gSl X.K):=by
 intro pins s σ H x v vl vu lo hi sl Q I rx hs pl pu q
 cases x with
 | ref a=>obtain⟨xs,h1,q⟩:=q; exact g1a pins s σ H _ v vl vu lo hi sl Q I rx hs pl pu ⟨a,xs,rfl,h1,fun p hp=>q p _ (.mk' hp)⟩
 | _=>exact False.elim q
def h1j(K:W.Frag):List V->Hp->VK->Prop:=fun xs H Q=>match xs with
 | [.ref p]=>∃ ys,(SqL K H p ys\/SqT K H p ys)/\Q (.int ys.length) H
 | _=>False
theorem h1s:b4i X (.builtin "len") (h1j X.K):=e0g.imp fun xs H Q q=>by
 unfold h1j at q
 split at q
 ·obtain⟨ys,h1,q⟩:=q
  exact⟨_,ys,rfl,h1,q⟩
 ·exact q.elim
def g3i(K:W.Frag):List V->Hp->VK->Prop:=fun xs H Q=>match xs with
 | [.ref p]=>∃ ys,(SqL K H p ys\/SqT K H p ys)/\∀ l H',Gro H l (.lst ys) H'->Q (.ref l) H'
 | _=>False
theorem g8m:b4i X (.type "list") (g3i X.K):=e0f.imp fun xs H Q q=>by
 unfold g3i at q
 split at q
 ·obtain⟨ys,h1,q⟩:=q
  exact⟨_,ys,rfl,h1,fun l hl=>q l _ (.mk' hl)⟩
 ·exact q.elim
def g3j(K:W.Frag):List V->Hp->VK->Prop:=fun xs H Q=>match xs with
 | [x,.ty T]=>∃ t b,c7c K H x t/\W.kitOne K t (.type T)=some b/\Q (.bl b) H
 | [x,.ref C]=>∃ t b,c7c K H x t/\W.kitOne K t (.ref C)=some b/\Q (.bl b) H
 | _=>False
theorem g8n:b4i X (.builtin "isinstance") (g3j X.K):=by
 intro pins s σ H xs us Q I r q
 unfold g3j at q
 split at q
 ·obtain⟨t,b,h1,h2,q⟩:=q
  obtain⟨u,w',rfl,r1,r2⟩:=g4h r
  cases r2
  exact d9p I r1 h1 h2 fun tk=>⟨.bl b,H,I.tok _,rfl,q⟩
 ·obtain⟨t,b,h1,h2,q⟩:=q
  obtain⟨u,w',rfl,r1,r2⟩:=g4h r
  cases r2
  exact d9p I r1 h1 h2 fun tk=>⟨.bl b,H,I.tok _,rfl,q⟩
 ·exact q.elim
theorem bty {x:Str} {T:String} {pos:Pos} (hg:Gl X x) (hm:X.mg x=none) (hv:bootBuiltins x=some (.type T)) (hn:x ≠ "__name__":=by decide) (hd:(x == ("__debug__" : Str))=false:=by decide):PE X (.Name x pos) (tC (.ty T)) :=
 g2f hg hm hv rfl hn hd
end
def b0z:Expr->Bool
 | .Starred _ _=>true
 | _=>false
theorem a2h{e:Expr}{es:List Expr}{env:Env}(h:b0z e=false):starEach (e :: es) env=(false,eval e env) :: starEach es env:=by
 cases e <;> first | rfl | cases h
def b0x:List Expr->Bool
 | []=>true
 | e :: r=>!b0z e && b0x r
theorem a9f{env:Env}{pos:Pos} : ∀ {es:List Expr},b0x es=true->(backTo pos (starEach es env)).any (·.1)=false
 | [],_=>rfl
 | e :: r,h=>by
  have h':(!b0z e && b0x r)=true:=h
  rw[Bool.and_eq_true]at h'
  have h1:b0z e=false:=by simpa using h'.1
  rw[a2h h1]
  show (false || (backTo pos (starEach r env)).any (·.1))=false
  rw[Bool.false_or]
  exact a9f h'.2
theorem a2j{e:Expr}{es:List Expr}(h:b0x (e :: es)=true):b0z e=false/\b0x es=true:=by
 have h':(!b0z e && b0x es)=true:=h
 rw[Bool.and_eq_true]at h'
 exact⟨by simpa using h'.1,h'.2⟩
theorem h2z{X:Cx}{e:Expr}{es:List Expr}{te:TE}{t:TA}(ha:PE X e te)(hr:PA X es t)(hs:b0z e=false:=by rfl):PA X (e :: es) (e6o te t):=g2g ha hr (a2h hs)
def d7h:Expr->Option V
 | .Constant (.int i) _ _=>some (.int i)
 | .Constant (.bool b) _ _=>some (.bl b)
 | .Constant .none _ _=>some .non
 | .Constant (.str x) _ _=>some (.str x)
 | _=>none
def c9s:List Expr->Option (List V)
 | []=>some []
 | e :: r=>match d7h e,c9s r with
  | some v,some vs=>some (v :: vs)
  | _,_=>none
def e2c(vs:List V):TA:=fun _ H Q=>Q vs H
theorem f6x{X:Cx}{e:Expr}{v:V}(h:d7h e=some v):PE X e (tC v):=by
 unfold d7h at h
 split at h
 ·cases h; exact e4x
 ·cases h; exact g6f
 ·cases h; exact f9k
 ·cases h; exact f9j
 ·cases h
theorem e7y{e:Expr}{v:V}(h:d7h e=some v):b0z e=false:=by
 cases e <;> first | rfl | cases h
theorem e4y{X:Cx} : ∀ {es:List Expr} {vs:List V},c9s es=some vs->PA X es (e2c vs)
 | [],vs,h=>by
  cases h
  exact f9m
 | e :: r,vs,h=>by
  unfold c9s at h
  split at h
  ·rename_i v ws h1 h2
   cases h
   exact h2z (f6x h1) (e4y h2) (e7y h1)
  ·cases h
section
variable {X:Cx}{es:List Expr}{t:TA}{pos:Pos}
def h0q(t:TA):TE:=fun σ H Q=>t σ H fun xs H1=>xs.length<=sizeLine/\∀ p H',Gro H1 p (.tup xs) H'->Q (.ref p) H'
def g7c(t:TA):TE:=fun σ H Q=>t σ H fun xs H1=>xs.length<=sizeLine/\∀ p H',Gro H1 p (.lst xs) H'->Q (.ref p) H'
theorem g6w{x1}(h:PA X es t):PE X (.Tuple es x1 pos) (h0q t):=by
 intro pins s σ H Q I hq
 refine wpAny_Tuple_spliced (thn (h pos pins s σ H _ I hq) fun us s1 ⟨xs,H1,I1,r,z,q⟩=>⟨by rw[<- r.length]; exact z,?_⟩)
 have hf:H1 s1.heap.objs.size=none:=I1.hok.fresh (Nat.le_refl _)
 refine⟨.ref s1.heap.objs.size,upd H1 s1.heap.objs.size (.tup xs),I1.laid (t':=s1.toks) (fun b u e=>Heap.get?_push_of_some _ e) (Nat.le_refl _) ?_,rfl,q _ _ (.mk' hf)⟩
 exact⟨z,us,r,⟨_,Heap.get?_push_size _ rfl,rfl,_,rfl⟩⟩
theorem g6z(h:PA X es t):PE X (.List es pos) (g7c t):=by
 intro pins s σ H Q I hq
 refine wpAny_List_spliced (thn (h pos pins s σ H _ I hq) fun us s1 ⟨xs,H1,I1,r,z,q⟩=>⟨by rw[<- r.length]; exact z,?_⟩)
 have hf:H1 s1.heap.objs.size=none:=I1.hok.fresh (Nat.le_refl _)
 refine⟨.ref s1.heap.objs.size,upd H1 s1.heap.objs.size (.lst xs),I1.laid (t':=s1.toks) (fun b u e=>Heap.get?_push_of_some _ e) (Nat.le_refl _) ?_,rfl,q _ _ (.mk' hf)⟩
 exact⟨z,us,0,r,Heap.get?_push_size _ rfl⟩
def h3e:TE:=fun _ H Q=>∀ p H',Gro H p (.dK []) H'->Q (.ref p) H'
theorem g7a:PE X (.Dict [] [] pos) h3e:=f6v.imp fun σ H Q q=>fun p hp=>q p _ (.mk' hp)
end
theorem c7b{Q:VK}{H:Hp}{a b:Bool}(k:Q (.bl a) H)(e:a=b):Q (.bl b) H:=e ▸ k
def f1i:V->Bool
 | .int _=>true
 | .bl _=>true
 | _=>false
def g7q:V->Bool
 | .bl _=>true
 | _=>false
inductive Knd (K:W.Frag) (H:Hp):V->Prop where
 | non:Knd K H .non
 | bl (b:Bool):Knd K H (.bl b)
 | int (i:Int):Knd K H (.int i)
 | str (x:Str):Knd K H (.str x)
 | lst {a:Addr} {xs:List V} (e:H a=some (.lst xs)):Knd K H (.ref a)
 | tup {a:Addr} {xs:List V} (e:H a=some (.tup xs)):Knd K H (.ref a)
 | dK {a:Addr} {kvs:List (Key × V)} (e:H a=some (.dK kvs)):Knd K H (.ref a)
theorem Knd.isInt {K:W.Frag} {H:Hp} {v:V} (k:Knd K H v) : ∃ ty,c7c K H v ty/\W.kitOne K ty (.type "int")=some (f1i v):=by
 cases k with
 | non=>exact⟨_,.non,by with_unfolding_all rfl⟩
 | bl b=>exact⟨_,.bl b,by with_unfolding_all rfl⟩
 | int i=>exact⟨_,.int i,by with_unfolding_all rfl⟩
 | str x=>exact⟨_,.str x,by with_unfolding_all rfl⟩
 | lst e=>exact⟨_,.lst e,by with_unfolding_all rfl⟩
 | tup e=>exact⟨_,.tup e,by with_unfolding_all rfl⟩
 | dK e=>exact⟨_,.dK e,by with_unfolding_all rfl⟩
theorem Knd.isBl {K:W.Frag} {H:Hp} {v:V} (k:Knd K H v) : ∃ ty,c7c K H v ty/\W.kitOne K ty (.type "bool")=some (g7q v):=by
 cases k with
 | non=>exact⟨_,.non,by with_unfolding_all rfl⟩
 | bl b=>exact⟨_,.bl b,by with_unfolding_all rfl⟩
 | int i=>exact⟨_,.int i,by with_unfolding_all rfl⟩
 | str x=>exact⟨_,.str x,by with_unfolding_all rfl⟩
 | lst e=>exact⟨_,.lst e,by with_unfolding_all rfl⟩
 | tup e=>exact⟨_,.tup e,by with_unfolding_all rfl⟩
 | dK e=>exact⟨_,.dK e,by with_unfolding_all rfl⟩
theorem sz{n:Nat}(h:Nat.ble n 1000=true):n<=sizeLine:=Nat.le_trans (Nat.le_of_ble_eq_true h) (by decide)
theorem szl{n:Nat}(h:n<=100000):n<=sizeLine:=Nat.le_trans h (by decide)
theorem e1m{n:Nat}(h:n<=100000):n < sizeLine:=Nat.lt_of_le_of_lt h (by decide)
section
variable {X:Cx}
theorem e9x(bs:List Bool):(List.range bs.length).map (fun i=>(bs[i]?).getD false)=bs:=by
 apply List.ext_getElem
 ·simp
 ·intro i h1 h2
  simp[List.getElem?_eq_getElem h2]
theorem e9y(bs:List Bool):((List.range bs.length).all fun i=>(bs[i]?).getD false)=bs.all id:=by
 conv=>rhs; rw[<- e9x bs]
 rw[List.all_map]
 rfl
def h1n(K:W.Frag)(one:Bool):List V->Hp->VK->Prop:=fun xs H Q=>match xs with
 | [.ref p]=>∃ bs:List Bool,SqL K H p (bs.map V.bl)/\Q (.bl (if one then bs.any id else bs.all id)) H
 | _=>False
theorem e3r{prog:Program}{w:World}{A:Around}{bs:List Bool}{its:List Value}(r:a5s (bs.map V.bl) its):TruthOf prog w A (fun i v=>its.toArray[i]? = some v) fun i=>(bs[i]?).getD false:=fun i v s Q E hP hQ=>by
 dsimp only at hP hQ
 have hi:i < its.length:=by
  have:=(Array.getElem?_eq_some_iff.mp hP).1
  simpa using this
 have hl:=r.length
 rw[List.length_map]at hl
 have hb:i < bs.length:=by omega
 obtain⟨u,hu,ru⟩:=r.get (i:=i) (x:=V.bl bs[i]) (by simp[hb])
 have e:its.toArray[i]? = some u:=by simpa using hu
 rw[e]at hP
 cases hP
 cases ru
 rw[List.getElem?_eq_getElem hb]at hQ
 exact wpAny_truthy_bool hQ
theorem h1t (hc:X.calm=true):b4i X (.builtin "all") (h1n X.K false):=by
 intro pins s σ H xs us Q I r q
 unfold h1n at q
 split at q
 ·rename_i p
  obtain⟨bs,hq,q⟩:=q
  obtain⟨u,rfl,rx⟩:=e6k r
  cases rx
  obtain⟨its,rv,pl,_⟩:=I.list hq
  have hl:=rv.length
  rw[List.length_map]at hl
  have hne:p≠s.heap.objs.size:=by
   obtain⟨o,n,e,_⟩:=pl
   exact Nat.ne_of_lt (Heap.lt_size e)
  refine call_all_walk (wpAny_pyIter_list pl.isList ⟨s.heap.objs.size,_,_,_,_,_,fun i=>(bs[i]?).getD false,rfl,Walks.list (A:=X.A.in1) (show X.A.in1.handled=none from I.ok.hd hc) s.heap.objs.size p hne its.toArray,⟨⟨_,Heap.get?_push_size _ rfl,rfl,rfl⟩,?_⟩,e3r rv,fun h' tk k=>?_⟩)
  ·exact pl.isList.at fun o e=>Heap.get?_push_of_some _ e
  ·refine⟨.bl _,H,I.kept (h':=h') (t':=tk) fun b o e=>k b o (fun z=>?_) (Heap.get?_push_of_some _ e),?_,q⟩
   ·have e':b=s.heap.objs.size:=by simpa using z
    exact absurd (Heap.lt_size e) (by rw[e']; exact Nat.lt_irrefl _)
   ·show Value.bool _=Value.bool _
    rw[List.size_toArray,<- hl,e9y]
    rfl
 ·exact q.elim
def g3g(K:W.Frag):List V->Hp->VK->Prop:=fun xs H Q=>match xs with
 | [.ref p]=>∃ ys,SqL K H p ys/\∀ l H',Gro H l (.tup ys) H'->Q (.ref l) H'
 | _=>False
theorem g3q:b4i X (.type "tuple") (g3g X.K):=d7n.imp fun xs H Q q=>by
 unfold g3g at q
 split at q
 ·obtain⟨ys,h1,q⟩:=q
  exact⟨_,ys,rfl,.inl ⟨h1,fun l hl=>q l _ (.mk' hl)⟩⟩
 ·exact q.elim
def h3m:V->List V->Hp->VK->Prop:=fun x vs H Q=>match x,vs with
 | .ref l,[y]=>∃ xs,H l=some (.lst xs)/\xs.length < sizeLine/\Q .non (upd H l (.lst (xs++[y])))
 | _,_=>False
theorem a9v:MtR X "list.append" h3m:=by
 intro pins s σ H x vs v us Q I rx rv q
 unfold h3m at q
 split at q
 ·obtain⟨xs,h1,h2,q⟩:=q
  exact f0z pins s σ H _ _ v us Q I rx rv ⟨_,xs,_,rfl,rfl,h1,h2,q⟩
 ·exact q.elim
def h1m(K:W.Frag):V->List V->Hp->VK->Prop:=fun x vs H Q=>match x,vs with
 | .ref l,[.ref b]=>∃ xs zs,H l=some (.lst xs)/\H b=some (.lst zs)/\xs.length+zs.length<=sizeLine/\Q .non (upd H l (.lst (xs++zs)))
 | _,_=>False
theorem f1b:MtR X "list.extend" (h1m X.K):=by
 intro pins s σ H x vs v us Q I rx rv q
 unfold h1m at q
 split at q
 ·obtain⟨xs,zs,h1,h2,h3,q⟩:=q
  exact f0y pins s σ H _ _ v us Q I rx rv ⟨_,_,xs,zs,rfl,rfl,h1,h2,h3,q⟩
 ·exact q.elim
end
structure Has (P:Program) (w:World) (K:W.Frag) (mg:Str->Option Value) (base:Heap) (x:Str) (k:Nat) (f:Addr) (fd:FuncData) (ps:List Str) (sp:Sp):Prop where
 gm:mg x=some (.ref f)
 kp:W.keepIn K (.ref f)=true
 b:a1h K fd ps []
 ok:b8g P w K mg base CX0 k f fd ps sp
section
variable {X:Cx}{k j:Nat}{f:Addr}{fd:FuncData}{ps:List Str}{sp:Sp}{x:Str}{p pos:Pos}{e:Expr}{es:List Expr}{t:TA}
theorem cal(F:Has X.prog X.w X.K X.mg X.base x j f fd ps sp)(hr:c2r k X.A)(ha:PA X (e :: es) t)(hj:j<=k:=by decide)(hg:Gl X x:=by rfl)
 (hdb:(x == ("__debug__" : Str))=false:=by decide) (hn:b0x (e :: es)=true:=by rfl) :
 PE X (.Call (.Name x p) (e :: es) [] pos) (e9d sp [] E0 t):=g2e F.ok (hr.mono hj) hg F.gm F.kp F.b .nil g6g ha hdb (a2h (a2j hn).1) (a9f (a2j hn).2)
theorem h6b{id:String}{r:List V->Hp->VK->Prop}(hc:b4i X (.builtin id) r)(hm:X.mg x=none)(hv:bootBuiltins x=some (.builtin id))(ha:PA X (e :: es) t)(hg:Gl X x:=by rfl)(hx:x ≠ "__name__":=by decide)(hdb:(x == ("__debug__" : Str))=false:=by decide)
 (hn:b0x (e :: es)=true:=by rfl):PE X (.Call (.Name x p) (e :: es) [] pos) (tCB r t):=f6y hc hg hm hv ha hx hdb (a2h (a2j hn).1) (a9f (a2j hn).2)
theorem h1q{T:String}{r:List V->Hp->VK->Prop}(hc:b4i X (.type T) r)(hm:X.mg x=none)(hv:bootBuiltins x=some (.type T))(ha:PA X (e :: es) t)(hg:Gl X x:=by rfl)(hx:x ≠ "__name__":=by decide)(hdb:(x == ("__debug__" : Str))=false:=by decide)
 (hn:b0x (e :: es)=true:=by rfl):PE X (.Call (.Name x p) (e :: es) [] pos) (tCB r t):=f0o hc hg hm hv ha hx hdb (a2h (a2j hn).1) (a9f (a2j hn).2)
theorem gi{n:Int}{u:Tok}(hm:X.mg x=some (.int n u))(hg:Gl X x:=by rfl)(hd:(x == ("__debug__" : Str))=false:=by decide):PE X (.Name x pos) (tC (.int n)):=f0n hg hm ⟨u,rfl⟩ hd
end
def e8b(cells:List (Str × Addr)):List (Str × NameKind)->List (Str × Addr)->List (Str × Addr)
 | [],acc=>acc
 | (n,k) :: r,acc=>e8b cells r (if (k == NameKind.free)=true then (n,(cells.lookup n).getD 0) :: acc else acc)
theorem c5z{scope:Scope}{env:Env}(h : ∀ n,(n,NameKind.free)∈scope.names->∃ c,env.cells.lookup n=some c):closureFor scope env=pure (e8b env.cells scope.names []):=by
 unfold closureFor
 have key : ∀ (l:List (Str × NameKind)) (acc:List (Str × Addr)),(∀ n,(n,NameKind.free)∈l->∃ c,env.cells.lookup n=some c) ->
  (forIn l acc (fun x __s=>match x with
    | (name,kind) =>
     if (kind == NameKind.free)=true then do
      let __do_lift <- cellOf env name
      pure (ForInStep.yield ((name,__do_lift) :: __s))
     else pure (ForInStep.yield __s)):Sem (List (Str × Addr)))=pure (e8b env.cells l acc):=by
  intro l
  induction l with
  | nil=>intro acc _; rfl
  | cons x r ih =>
   intro acc hf
   obtain⟨n,k⟩:=x
   have hr : ∀ n,(n,NameKind.free)∈r->∃ c,env.cells.lookup n=some c:=fun n hn=>hf n (List.mem_cons_of_mem _ hn)
   rw[List.forIn_cons]
   by_cases hk:(k == NameKind.free)=true
   ·have hk':k=NameKind.free:=by simpa using hk
    subst hk'
    obtain⟨c,hc⟩:=hf n List.mem_cons_self
    have e:cellOf env n=pure c:=by unfold cellOf; rw[hc]
    show (if (NameKind.free == NameKind.free)=true then _ else _) >>= _=_
    rw[if_pos hk,e]
    show (forIn r ((n,c) :: acc) _:Sem (List (Str × Addr)))=_
    rw[ih _ hr]
    show _=pure (e8b env.cells r (if (NameKind.free == NameKind.free)=true then (n,(List.lookup n env.cells).getD 0) :: acc else acc))
    rw[if_pos hk,hc]
    rfl
   ·show (if (k == NameKind.free)=true then _ else _) >>= _=_
    rw[if_neg hk]
    show (forIn r acc _:Sem (List (Str × Addr)))=_
    rw[ih _ hr]
    show _=pure (e8b env.cells r (if (k == NameKind.free)=true then _ else acc))
    rw[if_neg hk]
 show (forIn scope.names [] _ >>= _:Sem (List (Str × Addr)))=_
 rw[key _ _ h]
 rfl
theorem c4g{cells:List (Str × Addr)} : ∀ (l:List (Str × NameKind)) (acc:List (Str × Addr)) (x:Str) (c:Addr),(e8b cells l acc).lookup x=some c->(∀ n,(n,NameKind.free)∈l->∃ c,cells.lookup n=some c)->((x,NameKind.free)∈l/\cells.lookup x=some c)\/acc.lookup x=some c
 | [],acc,x,c,h,_=>.inr h
 | (n,k) :: r,acc,x,c,h,hf=>by
  have hr : ∀ n,(n,NameKind.free)∈r->∃ c,cells.lookup n=some c:=fun n hn=>hf n (List.mem_cons_of_mem _ hn)
  rcases c4g r _ x c h hr with ⟨h1,h2⟩ | h1
  ·exact .inl ⟨List.mem_cons_of_mem _ h1,h2⟩
  ·by_cases hk:(k == NameKind.free)=true
   ·rw[if_pos hk]at h1
    have hk':k=NameKind.free:=by simpa using hk
    subst hk'
    obtain⟨c',hc⟩:=hf n List.mem_cons_self
    rw[hc]at h1
    rw[List.lookup_cons]at h1
    by_cases e:(x == n)=true
    ·rw[e]at h1
     have e':x=n:=by simpa using e
     subst e'
     have:c'=c:=Option.some.inj h1
     subst this
     exact .inl ⟨List.mem_cons_self,hc⟩
    ·have e':(x == n)=false:=by simpa using e
     rw[e']at h1
     exact .inr h1
   ·rw[if_neg hk]at h1
    exact .inr h1
theorem d7j{cells:List (Str × Addr)} : ∀ (l:List (Str × NameKind)) (acc:List (Str × Addr)) (x:Str),((x,NameKind.free)∈l\/∃ c,acc.lookup x=some c)->∃ c,(e8b cells l acc).lookup x=some c
 | [],acc,x,h=>by
  rcases h with h | h
  ·cases h
  ·exact h
 | (n,k) :: r,acc,x,h=>by
  unfold e8b
  refine d7j r _ x ?_
  rcases h with h | ⟨c,h⟩
  ·rcases List.mem_cons.mp h with e | e
   ·cases e
    exact .inr ⟨_,by simp; rfl⟩
   ·exact .inl e
  ·refine .inr ?_
   by_cases hk:(k == NameKind.free)=true
   ·rw[if_pos hk,List.lookup_cons]
    cases (x == n)
    ·exact⟨c,h⟩
    ·exact⟨_,rfl⟩
   ·rw[if_neg hk]
    exact⟨c,h⟩
section
variable {prog:Program}{w:World}{A:Around}{s:Shared}{R:Result->Shared->Prop}
theorem e0e{elt target iter:Expr}{ifs:List Expr}{scope:Scope}{pos:Pos}{it acc:Value}{env:Env}(I:Nat->Shared->Prop)
 (turn : ∀ n s,I n s->wpAny (model prog w) A (pyNext it) (fun r s₁=>match r with
   | none=>R (.ok .next) s₁
   | some v=>wpAny (model prog w) A (letOwnedTupleGo target it v) (fun _ s₁'=>wpAny (model prog w) A (assign target env v) (fun _ s₂ =>
    wpAny (model prog w) A (forIn ifs true fun c r=>if r=true then do let ok <- isTrue c env (eval c env); pure (ForInStep.yield ok) else pure (ForInStep.yield r)) (fun ok s₃ =>
     if ok=true then wpAny (model prog w) A (eval elt env) (fun x s₄ =>
      wpAny (model prog w) A (call (.builtin "list.append") [acc,x]) (fun _ s₅=>∃ m,m < n/\I m s₅) (fun _ _=>False) s₄) (fun _ _=>False) s₃
     else ∃ m,m < n/\I m s₃) (fun _ _=>False) s₂) (fun _ _=>False) s₁') (fun _ _=>False) s₁) (fun _ _=>False) s)
 (n:Nat) (h:I n s) :
 codeAny (model prog w) A (.compLoop (.ListComp elt [⟨target,iter,ifs,0⟩] scope pos) 0 it acc env) R s:=by
 refine codeAny_loop rfl I (fun n s hI=>?_) n h
 show wpAny _ A ((compTurn (.ListComp elt [⟨target,iter,ifs,0⟩] scope pos) 0 it acc env).onRaise (fun x=>do noteFrame x env; theTreesLotGoes x)) _ _ s
 refine wpAny_noted ?_
 rw[compTurn_list]
 refine wpAny_bind (wpAny_standAt (wpAny_bind (wpAny_mono (turn n s hI) (fun r s₁ h₁=>?_) fun _ _ h'=>h'.elim)))
 cases r with
 | none=>exact wpAny_pure h₁
 | some v =>
  refine wpAny_bind (wpAny_mono h₁ (fun _ s₁' h₁'=>?_) fun _ _ h'=>h'.elim)
  refine wpAny_bind (wpAny_mono h₁' (fun _ s₂ h₂=>wpAny_bind (wpAny_mono h₂ (fun ok s₃ h₃=>?_) fun _ _ h'=>h'.elim)) fun _ _ h'=>h'.elim)
  cases ok with
  | false=>exact wpAny_pure ⟨rfl,h₃⟩
  | true =>
   exact wpAny_bind (wpAny_bind (wpAny_mono h₃ (fun x s₄ h₄=>wpAny_bind (wpAny_mono h₄ (fun _ s₅ h₅=>wpAny_pure (wpAny_pure ⟨rfl,h₅⟩)) fun _ _ h'=>h'.elim)) fun _ _ h'=>h'.elim))
end
def a8k(X:Cx)(Nc:List Str)(scope:Scope)(C:Addr)(s:Shared)(H:Hp)(fp:List Addr):Cx where
 prog:=X.prog
 w:=X.w
 K:=X.K
 mg:=X.mg
 base:=X.base
 A:=X.A
 N:=Nc
 s₀:=s
 H₀:=H
 env:=compEnvC scope (e8b X.env.cells scope.names []) C X.env
 outer:=X.stack
 stack:=X.stack
 ex:=fp
 fn:=fun _=>false
 calm:=X.calm
 pn:=X.pn
 xe:=fun _ _=>False
def PTs(X:Cx)(ifs:List Expr)(t:TT):Prop :=
 ∀ (pins:List (Addr × Obj)) (s:Shared) (σ:St) (H:Hp) (Q:Bool->Hp->Prop),Inv X pins σ H s->t σ H Q ->
  wpAny (model X.prog X.w) X.A (forIn ifs true fun c r=>if r=true then do let ok <- isTrue c X.env (eval c X.env); pure (ForInStep.yield ok) else pure (ForInStep.yield r)) (TP X pins σ Q) X.xe s
def c9y:TT:=fun _ H Q=>Q true H
theorem g1o{X:Cx}:PTs X [] c9y:=fun _ _ _ H _ I h=>wpAny_tests_nil ⟨H,I,h⟩
theorem g1n{X:Cx}{c:Expr}{t:TT}(h:PT X c t):PTs X [c] t:=fun pins s σ H Q I q=>wpAny_tests_one (h pins s σ H Q I q)
theorem HOk.adopt{P:Program}{w:World}{H:Hp}{h:Heap}{a:Addr}{o:HO}(x:HOk P w H h)(hn:H a=none)(new:a8r P w (upd H a o) h a o):HOk P w (upd H a o) h:=fun b u e=>by
 by_cases hb:b=a
 ·subst hb; rw[a0v]at e; cases e; exact new
 ·rw[a1c hb]at e
  exact (x b u e).stay (fun c v _ q=>q) (fun c q=>by rw[a1c (a0l q hn)]; exact q) fun c xs q=>by rw[a1c (a0l q hn)]; exact q
def e1l(J:It)(H1:Hp)(σ0:St)(g:TG)(tt:TT)(te:TE)(Q:VK):Prop:=∃ W:Nat->Nat->List V->St->Hp->Prop,
 (∃ m,W 0 m [] σ0 H1)/\∀ i m ys σ1 H2,W i m ys σ1 H2 ->
   (J.stop i H2/\ys.length<=sizeLine/\∀ p H',Gro H2 p (.lst ys) H'->Q (.ref p) H') \/
   (J.go i H2/\ys.length < sizeLine/\∃ Nx:List V->St->Hp->Prop,(∀ ys' σ' H',Nx ys' σ' H'->∃ m',m' < m/\W (i+1) m' ys' σ' H') /\
     ∀ x H',J.yld i H2 x H'->g x σ1 H' fun σ2 H3=>tt σ2 H3 fun b H4=>if b=true then te σ2 H4 fun y H5=>Nx (ys++[y]) σ2 H5 else Nx ys σ2 H4)
def f5s(nv:Nat)(caps:List Nat)(wi:TI)(g:TG)(tt:TT)(te:TE):TE:=fun σ H Q=>wi σ H fun J H1=>e1l J H1 (List.replicate nv none++caps.map fun j=>(σ[j]?).join) g tt te Q
structure a2b (X:Cx) (Nc:List Str) (nv:Nat) (caps:List Nat) (scope:Scope):Prop where
 kind:scope.kind=.function
 nocell : ∀ y∈scope.names,y.2 ≠ .cell
 names : ∀ y∈scope.names,y.2=.local->scope.names.lookup y.1=some .local
 free : ∀ n,(n,NameKind.free)∈scope.names->X.env.kindOf n=some .cell\/X.env.kindOf n=some .free
 len:Nc.length=nv+caps.length
 cap : ∀ k j,caps[k]? = some j->∃ x,Nc[nv+k]? = some x/\X.N[j]? = some x/\scope.names.lookup x=some .free
def f3n(fns:List (Str × NameKind))(N Nc:List Str)(nv:Nat)(caps:List Nat)(sc:Scope):Bool :=
 (sc.kind == .function) && (sc.names.all fun y=>!(y.2 == .cell)) && (sc.names.all fun y=>!(y.2 == .local) || sc.names.lookup y.1 == some .local) &&
 (sc.names.all fun y=>!(y.2 == .free) || (fns.lookup y.1 == some .cell || fns.lookup y.1 == some .free)) && (Nc.length == nv+caps.length) &&
 ((List.range caps.length).all fun k=>match caps[k]?,Nc[nv+k]? with
   | some j,some x=>N[j]? == some x && sc.names.lookup x == some .free
   | _,_=>false)
theorem a2b.of{X:Cx}{fns:List (Str × NameKind)}{N Nc:List Str}{nv:Nat}{caps:List Nat}{sc:Scope}(hf:X.env.scope.names=fns)(hN:X.N=N)(h:f3n fns N Nc nv caps sc=true):a2b X Nc nv caps sc:=by
 unfold f3n at h
 simp only [Bool.and_eq_true]at h
 obtain⟨⟨⟨⟨⟨h1,h2⟩,h3⟩,h4⟩,h5⟩,h6⟩:=h
 refine⟨by simpa using h1,fun y hy e=>?_,fun y hy e=>?_,fun n hn=>?_,by simpa using h5,fun k j e=>?_⟩
 ·have:=List.all_eq_true.mp h2 y hy
  rw[e]at this
  simp at this
 ·have:=List.all_eq_true.mp h3 y hy
  rw[e]at this
  simpa using this
 ·have:=List.all_eq_true.mp h4 _ hn
  show X.env.scope.names.lookup n=some .cell\/X.env.scope.names.lookup n=some .free
  rw[hf]
  simpa using this
 ·have hk:k < caps.length:=(List.getElem?_eq_some_iff.mp e).1
  have:=List.all_eq_true.mp h6 k (List.mem_range.mpr hk)
  rw[e]at this
  cases ex:Nc[nv+k]? with
  | none=>rw[ex]at this; simp at this
  | some x =>
   rw[ex]at this
   simp only [Bool.and_eq_true]at this
   exact⟨x,rfl,by rw[hN]; simpa using this.1,by simpa using this.2⟩
theorem a6n{env:Env} : ∀ {names:List (Str × NameKind)} {x:Str} {k:NameKind},
 (names.map fun (n,k)=>if (k == NameKind.free && env.scope.kind == .function && env.kindOf n == some .cell) then (n,NameKind.cell) else (n,k)).lookup x=some k ->
 ∃ k0,names.lookup x=some k0/\(k=k0\/(k0=.free/\k=.cell))
 | [],_,_,h=>by simp at h
 | (n,k0) :: r,x,k,h=>by
  have h':List.lookup x ((if (k0 == NameKind.free && env.scope.kind == .function && env.kindOf n == some .cell)=true then (n,NameKind.cell) else (n,k0)) ::
   r.map fun (n,k)=>if (k == NameKind.free && env.scope.kind == .function && env.kindOf n == some .cell) then (n,NameKind.cell) else (n,k))=some k:=h
  cases hx:x == n with
  | true =>
   refine⟨k0,by simp[List.lookup_cons,hx],?_⟩
   by_cases hc:(k0 == NameKind.free && env.scope.kind == .function && env.kindOf n == some .cell)=true
   ·rw[if_pos hc,List.lookup_cons,hx]at h'
    have:NameKind.cell=k:=Option.some.inj h'
    refine .inr ⟨?_,this.symm⟩
    rw[Bool.and_eq_true,Bool.and_eq_true]at hc
    simpa using hc.1.1
   ·rw[if_neg hc,List.lookup_cons,hx]at h'
    exact .inl (Option.some.inj h').symm
  | false =>
   have h2:(r.map fun (n,k)=>if (k == NameKind.free && env.scope.kind == .function && env.kindOf n == some .cell) then (n,NameKind.cell) else (n,k)).lookup x=some k:=by
    by_cases hc:(k0 == NameKind.free && env.scope.kind == .function && env.kindOf n == some .cell)=true
    ·rw[if_pos hc,List.lookup_cons,hx]at h'
     exact h'
    ·rw[if_neg hc,List.lookup_cons,hx]at h'
     exact h'
   obtain⟨k1,h3,h4⟩:=a6n h2
   exact⟨k1,by simp[List.lookup_cons,hx,h3],h4⟩
theorem c1k{a b n:Addr}(h:a < n)(h':n<=b):a≠b:=Nat.ne_of_lt (Nat.lt_of_lt_of_le h h')
theorem a8h{α β:Type}[BEq α][LawfulBEq α] : ∀ {l:List (α × β)} {x:α} {k:β},l.lookup x=some k->(x,k)∈l
 | [],_,_,h=>by simp at h
 | (n,k0) :: r,x,k,h=>by
  cases hx:x == n with
  | true =>
   simp only [List.lookup_cons,hx]at h
   cases h
   have e:x=n:=by simpa using hx
   subst e
   exact List.mem_cons_self
  | false =>
   simp only [List.lookup_cons,hx]at h
   exact List.mem_cons_of_mem _ (a8h h)
section
variable {X:Cx}{elt tg iter:Expr}{ifs:List Expr}{scope:Scope}{Nc:List Str}{nv:Nat}{caps:List Nat}
theorem f7p{pins:List (Addr × Obj)}{σ:St}{H:Hp}{s:Shared}{fp:List Addr}{h₁:Heap}{tk:Nat}{D C:Addr}{m:Str->Option Value}(S:a2b X Nc nv caps scope)(I:Inv X pins σ H s)
 (hf : ∀ b∈fp,e8p X pins H b) (hfl : ∀ b∈fp,b < s.heap.objs.size) (hD:s.heap.objs.size<=D) (hC:s.heap.objs.size<=C) (hDC:D≠C) (hn:h₁.Ns C m) {oD:Obj} (hDo:h₁.get? D=some oD) (hDd : ∀ v,oD.data ≠ .cell v) (old : ∀ b o,s.heap.get? b=some o->h₁.get? b=some o) :
 Inv (a8k X Nc scope C s H fp) (pins++[(D,oD)]) (List.replicate nv none++caps.map fun j=>(σ[j]?).join) H { s with heap:=h₁,toks:=tk }:=by
 have hcells : ∀ n,(n,NameKind.free)∈scope.names->∃ c,X.env.cells.lookup n=some c:=fun n hm=>I.ok.has n (S.free n hm)
 have clX : ∀ x c,(e8b X.env.cells scope.names []).lookup x=some c->(x,NameKind.free)∈scope.names/\X.env.cells.lookup x=some c:=fun x c e=>by
  rcases c4g _ _ _ _ e hcells with h | h
  ·exact h
  ·simp at h
 have frm : ∀ b∈frs X.stack,b < s.heap.objs.size:=fun b hb=>by
  obtain⟨_,o,ho,_⟩:=I.stack.mem hb
  exact Heap.lt_size ho
 have cellLt : ∀ x c,X.env.cells.lookup x=some c->c < s.heap.objs.size:=fun x c e=>by
  obtain⟨v,q⟩:=I.cell x c e
  exact q.lt
 refine⟨⟨I.ok.mod,S.kind,I.ok.glob,I.ok.blt,hC,fun x y c e1 e2=>I.ok.inj x y c (clX x c e1).2 (clX y c e2).2,fun x hx=>?_,fun x c z=>absurd z (by show ¬ (false=true); decide),I.ok.hd,I.ok.frames,.inl rfl,fun b hb=>⟨?_,fun x c e z=>?_⟩,fun b o e=>I.bs b o e,Nat.le_trans I.ok.bsz I.sz,fun b o e hb=>?_,fun b hb z=>?_,I.stack,I.stkFree⟩,
  rfl,I.bare,Un.kept old,⟨m,hn,fun i x v h1 h2 h3=>?_⟩,fun x c e=>?_,I.hok.fresh hC,fun x c e=>I.freeC x c (clX x c e).2,fun p hp=>?_,I.hok.kept old,?_⟩
 ·-- a cell or free name of the block has its cell
  have hx':(relabel scope X.env).names.lookup x=some .cell\/(relabel scope X.env).names.lookup x=some .free:=hx
  have hm:(x,NameKind.free)∈scope.names:=by
   rcases hx' with hx' | hx'
   ·obtain⟨k0,e,z⟩:=a6n hx'
    rcases z with z | ⟨z,_⟩
    ·subst z; exact absurd rfl (S.nocell _ (a8h e))
    ·subst z; exact a8h e
   ·obtain⟨k0,e,z⟩:=a6n hx'
    rcases z with z | ⟨_,z⟩
    ·subst z; exact a8h e
    ·cases z
  exact d7j _ _ _ (.inl hm)
 ·exact Nat.ne_of_lt (Nat.lt_of_lt_of_le (hfl b hb) hC)
 ·exact (hf b hb).2.2.2.2.1 x c (clX x c e).2 z
 ·have hx:=(hf b hb).2.2.2.1
  rcases hx with z | z
  ·exact I.ok.noex b o e z
  ·exact absurd (Nat.lt_of_lt_of_le (Nat.lt_of_lt_of_le (Heap.lt_size e) I.ok.bsz) z) (Nat.lt_irrefl _)
 ·rcases List.mem_cons.mp (I.stkSub b z) with q | q
  ·exact (hf b hb).2.1 q
  ·exact (hf b hb).2.2.1 q
 ·-- the names' values
  have hi:nv<=i:=by
   refine Nat.le_of_not_lt fun hlt=>?_
   rw[List.getElem?_append_left (by simpa using hlt),List.getElem?_replicate,if_pos hlt]at h2
   cases h2
  obtain⟨k,rfl⟩:=Nat.le.dest hi
  rw[List.getElem?_append_right (by simp)]at h2
  simp only [List.length_replicate,Nat.add_sub_cancel_left,List.getElem?_map]at h2
  cases ek:caps[k]? with
  | none=>rw[ek]at h2; cases h2
  | some j =>
   rw[ek]at h2
   have h2':(σ[j]?).join=some v:=Option.some.inj h2
   have hσ:σ[j]? = some (some v):=by
    cases e:σ[j]? with
    | none=>rw[e]at h2'; cases h2'
    | some z=>rw[e]at h2'; cases z with
     | none=>cases h2'
     | some z=>have:z=v:=Option.some.inj h2'; rw[this]
   obtain⟨y,e1,e2,e3⟩:=S.cap k j ek
   have h1':Nc[nv+k]? = some x:=h1
   rw[e1]at h1'
   cases h1'
   have hm:=a8h e3
   have hk:=S.free x hm
   obtain⟨m0,hn0,hl⟩:=I.loc
   obtain⟨u,ru,lk⟩:=hl j x v e2 hσ (by
    rcases hk with z | z
    ·exact .inr (.inl z)
    ·exact .inr (.inr z))
   refine⟨u,ru,?_⟩
   rcases lk with ⟨z,_⟩ | ⟨_,c,hc,hcell⟩
   ·rcases hk with z' | z' <;> rw[z]at z' <;> cases z'
   ·refine .inr ⟨?_,c,?_,hcell.keeps old⟩
    ·rcases h3 with z | z | z
     ·exfalso
      obtain⟨k0,e,z'⟩:=a6n (show (relabel scope X.env).names.lookup x=some .local from z)
      rw[e3]at e
      cases e
      rcases z' with z' | ⟨_,z'⟩ <;> cases z'
     ·exact .inl z
     ·exact .inr z
    ·obtain⟨c',hc'⟩:=d7j (cells:=X.env.cells) scope.names [] x (.inl hm)
     rw[(clX x c' hc').2]at hc
     cases hc
     exact hc'
 ·obtain⟨v,z⟩:=I.cell x c (clX x c e).2
  exact⟨v,z.keeps old⟩
 ·-- pins
  have hp':p∈X.pn++(pins++[(D,oD)]):=hp
  rw[<- List.append_assoc]at hp'
  rcases List.mem_append.mp hp' with z | z
  ·obtain⟨e,n,ne,nf,d⟩:=I.pin p z
   have hlt:=Heap.lt_size e
   refine⟨old _ _ e,n,Nat.ne_of_lt (Nat.lt_of_lt_of_le hlt hC),fun q=>?_,d⟩
   rcases List.mem_cons.mp (I.stkSub p.1 q) with q | q
   ·exact ne q
   ·exact nf q
  ·have e:p=(D,oD):=by simpa using z
   subst e
   exact⟨hDo,I.hok.fresh hD,hDC,fun q=>absurd (Nat.lt_of_lt_of_le (frm _ q) hD) (Nat.lt_irrefl _),hDd⟩
 ·show (List.replicate nv none++caps.map fun j=>(σ[j]?).join).length=Nc.length
  rw[List.length_append,List.length_replicate,List.length_map,S.len]
abbrev f7l(its:List Value)(n:Nat):Obj:={ cls:=.type "list",data:=.seq its.toArray n }
theorem d9n(its:List Value)(n:Nat) : ∀ v,(f7l its n).data ≠ .cell v:=fun v z=>by
 have z':Data.seq its.toArray n=Data.cell v:=z
 cases z'
theorem d5h{g:TG}{tt:TT}{te:TE}{pos:Pos}{pins:List (Addr × Obj)}{σ:St}{H:Hp}{s:Shared}{Q:VK}{E:Value->Shared->Prop}{RR:Value->Addr->Result->Shared->Prop}(hc:X.calm=true)(S:a2b X Nc nv caps scope)
 (hg : ∀ C s H fp,PG (a8k X Nc scope C s H fp) tg g) (ht : ∀ C s H fp,PTs (a8k X Nc scope C s H fp) ifs tt) (he : ∀ C s H fp,PE (a8k X Nc scope C s H fp) elt te)
 {it:Addr} {fp:List Addr} {tn:Nat->Heap->Prop} {J:It} (I:Inv X pins σ H s) (T:g0k X.prog X.w X.K tg J fp it tn) (st:tn 0 s.heap) (hf : ∀ b∈fp,e8p X pins H b)
 {W:Nat->Nat->List V->St->Hp->Prop} {m0:Nat} (w0:W 0 m0 [] (List.replicate nv none++caps.map fun j=>(σ[j]?).join) H)
 (turn : ∀ i m ys σ1 H2,W i m ys σ1 H2->(J.stop i H2/\ys.length<=sizeLine/\∀ p H',Gro H2 p (.lst ys) H'->Q (.ref p) H') \/
   (J.go i H2/\ys.length < sizeLine/\∃ Nx:List V->St->Hp->Prop,(∀ ys' σ' H',Nx ys' σ' H'->∃ m',m' < m/\W (i+1) m' ys' σ' H') /\
     ∀ x H',J.yld i H2 x H'->g x σ1 H' fun σ2 H3=>tt σ2 H3 fun b H4=>if b=true then te σ2 H4 fun y H5=>Nx (ys++[y]) σ2 H5 else Nx ys σ2 H4))
 (hRR : ∀ (D C:Addr) (s1:Shared) (H':Hp),Inv X pins σ H' s1->e8p X pins H' C->(∃ m,s1.heap.Ns C m)->Q (.ref D) H'->RR (.ref D) C (.ok .next) s1) :
 wpAny (model X.prog X.w) X.A (newList []) (fun acc s₃=>wpAny (model X.prog X.w) X.A (newFunctionEnv scope X.env.globals (e8b X.env.cells scope.names []) [] X.env.qual none .none (some X.env)) (fun cenv s₄ =>
  codeAny (model X.prog X.w) X.A (.compStart (.ListComp elt [⟨tg,iter,ifs,0⟩] scope pos) 0 (.ref it) acc { cenv with scope:=relabel scope X.env }) (RR acc cenv.locals) s₄) E s₃) E s:=by
 refine wpAny_newObj_type (wpAny_newFunctionEnv S.nocell (by intro y hy; simp at hy) (fun h₁ hns₁ hsb₁=>?_) S.kind)
 dsimp only at hns₁ hsb₁ ⊢
 generalize hH2:s.heap.push { cls:=.type "list",dict:=none,data:=.seq ([]:List Value).toArray }=h2 at hns₁ hsb₁ ⊢
 have hC:h2.objs.size=s.heap.objs.size+1:=by rw[<- hH2,Heap.size_push]
 have hDC:s.heap.objs.size≠h2.objs.size:=by rw[hC]; exact Nat.ne_of_lt (Nat.lt_succ_self _)
 have hCle:s.heap.objs.size<=h2.objs.size:=by rw[hC]; exact Nat.le_succ _
 have old : ∀ b o,s.heap.get? b=some o->h₁.get? b=some o:=fun b o e=>hsb₁.extBut b o (Nat.ne_of_lt (Nat.lt_of_lt_of_le (Heap.lt_size e) hCle)) (Heap.get?_push_of_some _ (hH2 ▸ Heap.get?_push_of_some _ e))
 have hacc:h₁.get? s.heap.objs.size=some (f7l [] 0):=hsb₁.extBut _ _ hDC (Heap.get?_push_of_some _ (hH2 ▸ Heap.get?_push_size _ rfl))
 have hfl : ∀ b∈fp,b < s.heap.objs.size:=fun b hb=>by
  obtain⟨o,ho,_⟩:=T.obj _ _ st b hb
  exact Heap.lt_size ho
 have frm : ∀ b∈frs X.stack,b < s.heap.objs.size:=fun b hb=>by
  obtain⟨_,o,ho,_⟩:=I.stack.mem hb
  exact Heap.lt_size ho
 have cellLt : ∀ x c,X.env.cells.lookup x=some c->c < s.heap.objs.size:=fun x c e=>by
  obtain⟨v,q⟩:=I.cell x c e
  exact q.lt
 have hcells : ∀ n,(n,NameKind.free)∈scope.names->∃ c,X.env.cells.lookup n=some c:=fun n hm=>I.ok.has n (S.free n hm)
 have clX : ∀ x c,(e8b X.env.cells scope.names []).lookup x=some c->X.env.cells.lookup x=some c:=fun x c e=>by
  rcases c4g _ _ _ _ e hcells with h | h
  ·exact h.2
  ·simp at h
 have pinLt : ∀ p∈X.pn++pins,p.1 < s.heap.objs.size:=fun p hp=>Heap.lt_size (I.pin p hp).1
 generalize hDD:s.heap.objs.size=D at hacc hDC ⊢
 generalize hCC:h2.objs.size=C at hDC hCle hns₁ hsb₁ ⊢
 have leD:s.heap.objs.size<=D:=Nat.le_of_eq hDD
 have leC:s.heap.objs.size<=C:=by omega
 have fpc : ∀ {H1:Hp} (o:Obj),(∀ b∈fp,H1 b=none)->∀ b∈fp,e8p (a8k X Nc scope C s H fp) (pins++[(D,o)]) H1 b:=fun {H1} o hn b hb=>by
  refine⟨hn b hb,Nat.ne_of_lt (Nat.lt_of_lt_of_le (hfl b hb) leC),fun z=>?_,.inl hb,fun x c e z=>(hf b hb).2.2.2.2.1 x c (clX x c e) z,fun p hp=>?_⟩
  ·rcases List.mem_cons.mp (I.stkSub b z) with q | q
   ·exact (hf b hb).2.1 q
   ·exact (hf b hb).2.2.1 q
  ·have hp':p∈X.pn++(pins++[(D,o)]):=hp
   rw[<- List.append_assoc]at hp'
   rcases List.mem_append.mp hp' with z | z
   ·exact (hf b hb).2.2.2.2.2 p z
   ·have e:p=(D,o):=by simpa using z
    subst e
    exact fun q=>c1k (hfl b hb) leD q.symm
 have loop : ∀ s₃:Shared,s₃ = { s with heap:=h₁,toks:=s.toks+([]:List (Str × Value)).length } ->
  codeAny (model X.prog X.w) X.A (.compLoop (.ListComp elt [⟨tg,iter,ifs,0⟩] scope pos) 0 (.ref it) (.ref D) (compEnvC scope (e8b X.env.cells scope.names []) C X.env)) (RR (.ref D) C) s₃:=by
  rintro s₃ rfl
  refine e0e (fun n s'=>∃ (i:Nat) (ys:List V) (its:List Value) (nn:Nat) (σ1:St) (H1:Hp),Inv (a8k X Nc scope C s H fp) (pins++[(D,f7l its nn)]) σ1 H1 s'/\tn i s'.heap/\(∀ b∈fp,H1 b=none)/\a5s ys its/\W i n ys σ1 H1) ?_ m0
   ⟨0,[],[],0,_,H,f7p S I hf hfl leD leC hDC hns₁ hacc (d9n _ _) old,T.keep _ _ _ st fun b _ o e=>old b o e,fun b hb=>(hf b hb).1,.nil,w0⟩
  rintro n s' ⟨i,ys,its,nn,σ1,H1,I1,st1,fr1,rv,w1⟩
  have pinD : ∀ {σ':St} {H':Hp} {s'':Shared} {pl:List (Addr × Obj)},Inv (a8k X Nc scope C s H fp) ((pins++[(D,f7l its nn)])++pl) σ' H' s''->s''.heap.get? D=some (f7l its nn)/\H' D=none:=fun {σ' H' s'' pl} I'=>by
   have z:=I'.pin (D,f7l its nn) (List.mem_append_right _ (List.mem_append_left _ (List.mem_append_right _ (by simp))))
   exact⟨z.1,z.2.1⟩
  rcases turn i n ys σ1 H1 w1 with ⟨stop,hz,q⟩ | ⟨go,hz,Nx,hNx,step⟩
  ·refine thn (T.done (a8k X Nc scope C s H fp) rfl rfl rfl hc i _ s' σ1 H1 _ I1 (fpc _ fr1) st1 stop) fun r s4 ⟨hr,I4⟩=>?_
   subst hr
   obtain⟨eD,nD⟩:=pinD (pl:=[]) (by rw[List.append_nil]; exact I4)
   obtain⟨m,hnC,_⟩:=I4.loc
   have u4:Un (frs X.stack) fp H H1 s.heap s4.heap:=I4.base
   have dNone:s.heap.get? D=none:=Heap.get?_none_of_le (Nat.le_of_eq hDD)
   have noD : ∀ b o,s.heap.get? b=some o->b≠D:=fun b o e z=>by rw[z,dNone]at e; cases e
   have u5:Un (frs X.stack) fp H (upd H1 D (.lst ys)) s.heap s4.heap:=by
    refine⟨u4.keep,u4.slot,fun b o e n hx=>?_,u4.there,fun b xs e=>?_,fun b o u e=>?_,fun b ps e=>?_⟩
    ·rw[a1c (noD b o e)]
     exact u4.free b o e n hx
    ·have z:=u4.tups b xs e
     rw[a1c (a0l z nD)]
     exact z
    ·have z:=u4.frzs b o u e
     rw[a1c (a0l z nD)]
     exact z
    ·obtain⟨more,z⟩:=u4.tbls b ps e
     exact⟨more,by rw[a1c (a0l z nD)]; exact z⟩
   have hok:HOk X.prog X.w (upd H1 D (.lst ys)) s4.heap:=HOk.adopt I4.hok nD ⟨hz,its,nn,rv,eD⟩
   have IX:Inv X pins σ (upd H1 D (.lst ys)) s4:=I.call' I4.os u5 hok I4.bare fun b hb=>⟨(hf b hb).2.2.2.1,(hf b hb).2.1,(hf b hb).2.2.2.2.1,(hf b hb).2.2.2.2.2⟩
   have fpC:e8p X pins (upd H1 D (.lst ys)) C:=by
    have hl:X.env.locals < s.heap.objs.size:=I.lt
    exact⟨by rw[a1c (Ne.symm hDC)]; exact I4.free,(c1k hl leC).symm,I.nofs leC,.inr (Nat.le_trans I.sz leC),fun x c e z=>c1k (cellLt x c e) leC z,fun p hp z=>c1k (pinLt p hp) leC z⟩
   exact hRR D C s4 _ IX fpC ⟨m,hnC⟩ (q D _ (.mk' nD))
  ·refine thn (T.item (a8k X Nc scope C s H fp) rfl rfl rfl hc i _ s' σ1 H1 _ I1 (fpc _ fr1) st1 go) fun r s4 ⟨u,hr,h4⟩=>?_
   subst hr
   refine thn h4 fun _ s5 ⟨x,H5,I5,r5,y5,st5,fr5⟩=>?_
   have I5':=I5.pinned (fpc _ fr5) (T.obj _ _ st5)
   have back : ∀ {σ7:St} {H7:Hp} {s7:Shared},Inv (a8k X Nc scope C s H fp) ((pins++[(D,f7l its nn)])++d9j fp s5.heap) σ7 H7 s7->tn (i+1) s7.heap/\∀ b∈fp,H7 b=none:=fun {σ7 H7 s7} I7=>by
    refine⟨T.keep _ _ _ st5 fun b hb o e=>(I7.pin (b,o) (List.mem_append_right _ (List.mem_append_right _ (c1y hb e)))).1,fun b hb=>?_⟩
    obtain⟨o,e,d⟩:=T.obj _ _ st5 b hb
    exact (I7.pin (b,o) (List.mem_append_right _ (List.mem_append_right _ (c1y hb e)))).2.1
   refine thn (hg _ _ _ _ _ s5 σ1 H5 x u _ I5' r5 (step x H5 y5)) fun _ s6 ⟨σ6,H6,I6,q6⟩=>?_
   refine thn (ht _ _ _ _ _ s6 σ6 H6 _ I6 q6) fun b s7 ⟨H7,I7,q7⟩=>?_
   cases b with
   | false =>
    obtain⟨m',hm,w7⟩:=hNx _ _ _ q7
    obtain⟨t7,f7⟩:=back I7
    exact⟨m',hm,i+1,ys,its,nn,σ6,H7,I7.unpinned,t7,f7,rv,w7⟩
   | true =>
    refine thn (he _ _ _ _ _ s7 σ6 H7 _ I7 q7) fun yv s8 ⟨y,H8,I8,r8,n8⟩=>?_
    obtain⟨m',hm,w8⟩:=hNx _ _ _ n8
    obtain⟨t8,f8⟩:=back I8
    obtain⟨eD,nD⟩:=pinD I8
    have hlen:=rv.length
    refine call_meets F.slot_list_append ⟨_,eD,rfl⟩ F.entry_list_append (F.args_list_append_2 _ _) (PySem.list_append D its.toArray nn yv (by rw[List.size_toArray]; omega)) ⟨eD,?_⟩
    have ea:its.toArray.push yv=(its++[yv]).toArray:=by simp
    obtain⟨n9,e9⟩ : ∃ n9,(s8.heap.update D (Obj.mapSeq (·.push yv))).get? D=some (f7l (its++[yv]) n9):=⟨_,by
     have z:=PySem.IsL.update eD (·.push yv)
     rw[ea]at z
     exact z⟩
    have keep9 : ∀ b o,b≠D->s8.heap.get? b=some o->(s8.heap.update D (Obj.mapSeq (·.push yv))).get? b=some o:=fun b o hb e=>(Heap.get?_update_other _ _ (Ne.symm hb)).trans e
    have nfp : ∀ b∈fp,b≠D:=fun b hb z=>c1k (hfl b hb) leD z
    have I8u:Inv (a8k X Nc scope C s H fp) pins σ6 H8 s8:=I8.pins_of fun p hp=>I8.pin p (List.mem_append_right _ (List.mem_append_left _ (List.mem_append_left _ hp)))
    have I9:=I8u.turned (t':=s8.toks) (it:=D) keep9 nD hDC (.inr leD) (fun x c e z=>c1k (cellLt x c (clX x c e)) leD z) (fun p hp z=>c1k (pinLt p hp) leD z)
    have t9:tn (i+1) (s8.heap.update D (Obj.mapSeq (·.push yv))):=T.keep _ _ _ t8 fun b hb o e=>keep9 b o (nfp b hb) e
    refine⟨m',hm,i+1,ys++[y],its++[yv],n9,σ6,H8,I9.pins_of fun p hp=>?_,t9,f8,rv.append (.cons r8 .nil),w8⟩
    rcases List.mem_append.mp hp with z | z
    ·exact I9.pin p (List.mem_append_right _ z)
    ·have e:p=(D,f7l (its++[yv]) n9):=by simpa using z
     subst e
     exact⟨e9,nD,hDC,fun q=>c1k (frm _ q) leD rfl,d9n _ _⟩
 have st':=fun (s₃:Shared) (e:s₃ = { s with heap:=h₁,toks:=s.toks+([]:List (Str × Value)).length })=>loop s₃ e
 exact codeAny_compStart_list (loop _ rfl) (T.self _ 0 _ _ _ (T.keep _ _ _ st fun b _ o e=>old b o e) (loop _ rfl))
theorem g2c{wi:TI}{g:TG}{tt:TT}{te:TE}{pos:Pos}(hc:X.calm=true)(S:a2b X Nc nv caps scope)(hi:PI X tg iter wi)
 (hg : ∀ C s H fp,PG (a8k X Nc scope C s H fp) tg g) (ht : ∀ C s H fp,PTs (a8k X Nc scope C s H fp) ifs tt) (he : ∀ C s H fp,PE (a8k X Nc scope C s H fp) elt te)
 (hs : ∀ x,foldedSetIterable iter X.env x=pure x:=by intro _; rfl):PE X (.ListComp elt [⟨tg,iter,ifs,0⟩] scope pos) (f5s nv caps wi g tt te):=by
 intro pins s σ H Q I h
 rw[eval_ListComp]
 have hcells : ∀ n,(n,NameKind.free)∈scope.names->∃ c,X.env.cells.lookup n=some c:=fun n hm=>I.ok.has n (S.free n hm)
 refine wpAny_comprehension_free (use:=none) rfl hs (c5z hcells) S.kind S.names (thn (hi pins s σ H _ I h) fun v s1 h1=>thn h1 fun itv s2 h2=>?_)
 obtain⟨it,fp,tn,J,H2,rfl,I2,T,st2,f2,W,⟨m0,w0⟩,turn⟩:=h2
 refine d5h (RR:=fun acc C=>compPost (model X.prog X.w) X.A X.xe none (EP X pins σ Q) acc C) hc S hg ht he I2 T st2 f2 w0 turn fun D C s4 H4 I4 fC hn q=>?_
 obtain⟨m,hn⟩:=hn
 refine⟨m,hn,fun h' sb=>?_⟩
 obtain⟨f0,f1,f2',f3,f4,f5⟩:=fC
 exact⟨.ref D,H4,I4.turned (t':=s4.toks) (it:=C) (fun b o hb e=>sb.extBut b o hb e) f0 f1 f3 f4 f5,rfl,q⟩
theorem g1r{wi:TI}{g:TG}{tt:TT}{te:TE}{pos spos py:Pos}{i:Nat}{y:Str}(hN:X.N.Nodup)(hy:X.N[i]? = some y)(hx:Loc X.env.scope y)(hc:X.calm=true)(S:a2b X Nc nv caps scope)(hi:PI X tg iter wi)
 (hg : ∀ C s H fp,PG (a8k X Nc scope C s H fp) tg g) (ht : ∀ C s H fp,PTs (a8k X Nc scope C s H fp) ifs tt) (he : ∀ C s H fp,PE (a8k X Nc scope C s H fp) elt te)
 (hsw:swapsWith (.ListComp elt [⟨tg,iter,ifs,0⟩] scope pos) (some (.Name y py)) spos.line X.env=pure true:=by rfl)
 (hs : ∀ x,foldedSetIterable iter X.env x=pure x:=by intro _; rfl) (hf:X.fn y=true\/X.env.scope.names.lookup y=some .local:=by first | exact .inl rfl | exact .inr rfl | assumption) :
 PS X (.Assign [.Name y py] (.ListComp elt [⟨tg,iter,ifs,0⟩] scope pos) spos) (g4d (f5s nv caps wi g tt te) (b5k i)):=by
 intro pins s σ H D0 I h
 have hcells : ∀ n,(n,NameKind.free)∈scope.names->∃ c,X.env.cells.lookup n=some c:=fun n hm=>I.ok.has n (S.free n hm)
 rw[exec_Assign_Name_used _ _ _ _ hsw]
 refine wpAny_bind (wpAny_standAt (wpAny_bind ?_))
 show wpAny _ X.A (do let _ <- comprehension (.ListComp elt [⟨tg,iter,ifs,0⟩] scope pos) scope X.env _ (newList []) false (eval iter X.env) (some (assign (.Name y py) X.env))) _ _ s
 refine wpAny_bind (wpAny_mono (wpAny_comprehension_free (use:=some (assign (.Name y py) X.env)) (Q:=fun _ s'=>SP X pins D0 .next s') rfl hs (c5z hcells) S.kind S.names
  (thn (hi pins s σ H _ I h) fun v s1 h1=>thn h1 fun itv s2 h2=>?_)) (fun _ s' hq=>wpAny_pure (wpAny_pure hq)) fun _ _ e=>e)
 obtain⟨it,fp,tn,J,H2,rfl,I2,T,st2,f2,W,⟨m0,w0⟩,turn⟩:=h2
 refine d5h (RR:=fun acc C=>compPost (model X.prog X.w) X.A X.xe (some (assign (.Name y py) X.env)) (fun _ s'=>SP X pins D0 .next s') acc C) (Q:=fun x H1=>b5k i x σ H1 D0.nx) hc S hg ht he I2 T st2 f2 w0 turn fun D C s4 H4 I4 fC hn q=>?_
 obtain⟨m,hn⟩:=hn
 obtain⟨f0,f1,f2',f3,f4,f5⟩:=fC
 show wpAny _ X.A (assign (.Name y py) X.env (.ref D)) _ _ _
 refine wpAny_assign_Name (d9a I4 hN hy hx (show a8c (.ref D) (.ref D) from rfl) (fun s5 I5 sb5=>?_) hf)
 obtain⟨a5,sb5,ha5⟩:=sb5
 have hCa:C≠a5:=by
  rcases ha5 with z | z
  ·rw[z]; exact f1
  ·exact fun e=>f4 _ _ z e.symm
 refine⟨m,hn.sameBut sb5 hCa,fun h' sb=>?_⟩
 exact⟨_,H4,I5.turned (t':=s5.toks) (it:=C) (fun b o hb e=>sb.extBut b o hb e) f0 f1 f3 f4 f5,q⟩
end
theorem c1e{K:W.Frag}{a:Addr}{xs:List V}{cs:St}{tt:TT}{te:TE}{H:Hp}{Q:VK}(Pv:Nat->List V->Hp->Prop)(h0:Pv 0 [] H)(hl : ∀ i ys H,i<=xs.length->Pv i ys H->SqL K H a xs/\ys.length<=i)(hz:xs.length<=sizeLine)
 (hs : ∀ i x ys H (N:List V->Hp->Prop),xs[i]? = some x->Pv i ys H->(∀ ys' H',Pv (i+1) ys' H'->N ys' H')->tt (some x :: cs) H fun b H4=>if b=true then te (some x :: cs) H4 fun y H5=>N (ys++[y]) H5 else N ys H4)
 (hd : ∀ ys H p H',Pv xs.length ys H->Gro H p (.lst ys) H'->Q (.ref p) H') :
 e1l (Itl K a) H (List.replicate 1 none++cs) (b5k 0) tt te Q:=by
 refine⟨fun i m ys σ H=>m=xs.length - i/\i<=xs.length/\Pv i ys H/\∃ v0,σ=v0 :: cs,⟨xs.length,by simp,Nat.zero_le _,h0,none,rfl⟩,?_⟩
 rintro i m ys σ H2 ⟨rfl,hi,p,v0,rfl⟩
 obtain⟨q,ql⟩:=hl i ys H2 hi p
 by_cases hlt:i < xs.length
 ·refine .inr ⟨⟨xs,xs[i],q,by simp[hlt]⟩,by omega,fun ys' σ' H'=>Pv (i+1) ys' H'/\∃ v0,σ'=v0 :: cs,fun ys' σ' H' ⟨p',e⟩=>⟨xs.length - (i+1),by omega,rfl,hlt,p',e⟩,fun x H' y=>?_⟩
  obtain⟨e,y⟩:=y
  subst e
  exact hs i x ys H' (fun ys' H'=>Pv (i+1) ys' H'/\∃ v0,some x :: cs=v0 :: cs) (y xs q) p fun _ _ z=>⟨z,_,rfl⟩
 ·have e:i=xs.length:=by omega
  subst e
  exact .inl ⟨⟨xs,q,Nat.le_refl _⟩,by omega,fun p' H' g=>hd ys H2 p' H' p g⟩
theorem e7z{lo:Int}{n:Nat}{cs:St}{tt:TT}{te:TE}{H:Hp}{Q:VK}(Pv:Nat->List V->Hp->Prop)(h0:Pv 0 [] H)(hl : ∀ i ys H,i<=n->Pv i ys H->ys.length<=i)(hz:n<=sizeLine)
 (hs : ∀ i ys H (N:List V->Hp->Prop),i < n->Pv i ys H->(∀ ys' H',Pv (i+1) ys' H'->N ys' H')->tt (some (.int (lo+i)) :: cs) H fun b H4=>if b=true then te (some (.int (lo+i)) :: cs) H4 fun y H5=>N (ys++[y]) H5 else N ys H4)
 (hd : ∀ ys H p H',Pv n ys H->Gro H p (.lst ys) H'->Q (.ref p) H') :
 e1l (Itr lo n) H (List.replicate 1 none++cs) (b5k 0) tt te Q:=by
 refine⟨fun i m ys σ H=>m=n - i/\i<=n/\Pv i ys H/\∃ v0,σ=v0 :: cs,⟨n,by simp,Nat.zero_le _,h0,none,rfl⟩,?_⟩
 rintro i m ys σ H2 ⟨rfl,hi,p,v0,rfl⟩
 have ql:=hl i ys H2 hi p
 by_cases hlt:i < n
 ·refine .inr ⟨hlt,by omega,fun ys' σ' H'=>Pv (i+1) ys' H'/\∃ v0,σ'=v0 :: cs,fun ys' σ' H' ⟨p',e⟩=>⟨n - (i+1),by omega,rfl,hlt,p',e⟩,fun x H' y=>?_⟩
  obtain⟨e,y⟩:=y
  subst e y
  exact hs i ys H' (fun ys' H'=>Pv (i+1) ys' H'/\∃ v0,some (V.int (lo+i)) :: cs=v0 :: cs) hlt p fun _ _ z=>⟨z,_,rfl⟩
 ·have e:i=n:=by omega
  subst e
  exact .inl ⟨Nat.le_refl _,by omega,fun p' H' g=>hd ys H2 p' H' p g⟩
def e5q{α:Type}(xs:List α)(lo hi:Option Int):List α:=(xs.drop (HT.sIx xs.length 0 lo)).take (HT.sIx xs.length xs.length hi - HT.sIx xs.length 0 lo)
theorem f8p{α β:Type}(f:α->β)(xs:List α)(lo hi:Option Int):e5q (xs.map f) lo hi=(e5q xs lo hi).map f:=by
 unfold e5q
 rw[List.length_map,List.map_take,List.map_drop]
theorem d1y{α:Type}(xs:List α)(k:Nat):e5q xs none (some (k:Int))=xs.take k:=by
 unfold e5q HT.sIx
 simp only [List.drop_zero,Nat.sub_zero]
 have h : ¬ ((k:Int) < 0):=by omega
 rw[if_neg h,Int.toNat_natCast,<- List.take_take,List.take_length]
theorem c1d{α:Type}(xs:List α)(k:Nat):e5q xs (some (k:Int)) none=xs.drop k:=by
 unfold e5q HT.sIx
 have h : ¬ ((k:Int) < 0):=by omega
 dsimp only
 rw[if_neg h,Int.toNat_natCast]
 by_cases hk:k<=xs.length
 ·rw[Nat.min_eq_left hk]
  exact List.take_of_length_le (by simp)
 ·rw[Nat.min_eq_right (by omega),List.drop_length,List.take_nil,List.drop_eq_nil_of_le (by omega)]
theorem e5o{α:Type}(xs:List α)(k m:Nat):e5q xs (some (k:Int)) (some ((k:Int)+(m:Int)))=(xs.drop k).take m:=by
 unfold e5q HT.sIx
 have h : ¬ ((k:Int) < 0):=by omega
 have h' : ¬ ((k:Int)+(m:Int) < 0):=by omega
 have e:((k:Int)+(m:Int)).toNat=k+m:=by omega
 dsimp only
 rw[if_neg h,if_neg h',Int.toNat_natCast,e]
 by_cases hk:k<=xs.length
 ·rw[Nat.min_eq_left hk]
  by_cases hm:k+m<=xs.length
  ·rw[Nat.min_eq_left hm,Nat.add_sub_cancel_left]
  ·rw[Nat.min_eq_right (by omega),List.take_of_length_le (by simp),List.take_of_length_le (by simp; omega)]
 ·rw[Nat.min_eq_right (by omega:xs.length<=k),List.drop_length,List.take_nil,List.drop_eq_nil_of_le (by omega),List.take_nil]
theorem a5p(ns:List Int)(lo hi:Option Int):d5g (ns.map V.int) lo hi=(e5q ns lo hi).map V.int:=f8p _ _ _ _
theorem f8k(ns ms:List Int):PyData.eqv (.list (ns.map PyData.int)) (.list (ms.map PyData.int))=decide (ns=ms):=by
 show PyData.eqvAll _ _=_
 exact W.ked_eqvAll ns ms
theorem c1b{K:W.Frag}{H:Hp}{a b:Addr}{ns ms:List Int}{neg:Bool}{Q:VK}(h1:SqL K H a (ns.map V.int))(h2:SqL K H b (ms.map V.int))(q:Q (.bl (if neg then !decide (ns=ms) else decide (ns=ms))) H) :
 gEq K neg (.ref a) (.ref b) H Q:=by
 refine⟨_,_,a1j.lst h1 (b3a.ints ns),a1j.lst h2 (b3a.ints ms),W.ke_shaped_ints ns,W.ke_shaped_ints ms,?_⟩
 rw[f8k]
 exact q
structure QE (X:Cx) (e:Expr) (t:TE):Prop where
 h:PE X e t
structure QT (X:Cx) (e:Expr) (t:TT):Prop where
 h:PT X e t
structure QW (X:Cx) (e:Expr) (t:TT):Prop where
 h:PW X e t
structure QA (X:Cx) (es:List Expr) (t:TA):Prop where
 h:PA X es t
structure QS (X:Cx) (st:Stmt) (t:TS):Prop where
 h:PS X st t
structure QSs (X:Cx) (st:List Stmt) (t:TS):Prop where
 h:PSs X st t
structure QG (X:Cx) (e:Expr) (t:TG):Prop where
 h:PG X e t
structure QGs (X:Cx) (es:List Expr) (t:TGs):Prop where
 h:PGs X es t
structure QI (X:Cx) (tg e:Expr) (t:TI):Prop where
 h:PI X tg e t
structure QO (X:Cx) (e:Option Expr) (t:TO):Prop where
 h:PO X e t
structure QTs (X:Cx) (es:List Expr) (t:TT):Prop where
 h:PTs X es t
section
variable {X:Cx}{a b c e o:Expr}{es c2u:List Expr}{pos p p2:Pos}{ta tb tc te to:TE}{tA tB' tt:TT}{t tk:TA}
theorem a0g{i j pos}:QE X (.Constant (.int i) j pos) (tC (.int i)):=⟨e4x⟩
theorem b5d{b j pos}:QE X (.Constant (.bool b) j pos) (tC (.bl b)):=⟨g6f⟩
theorem a2e{j pos}:QE X (.Constant .none j pos) (tC .non):=⟨f9k⟩
theorem a2d{x j pos}:QE X (.Constant (.str x) j pos) (tC (.str x)):=⟨f9j⟩
theorem a0h(i:Nat){x:Str}(hN:X.N[i]? = some x:=by rfl)(hv:Vis X.env.scope x:=by first | exact Or.inl rfl | exact Or.inr (Or.inl rfl) | exact Or.inr (Or.inr rfl))(hd:(x == ("__debug__" : Str))=false:=by decide)
 (hcd:(x == ("__classdict__" : Str))=false:=by decide):QE X (.Name x pos) (mV i):=⟨vv i hN hv hd hcd⟩
theorem c2w{x:Str}{n:Int}{u:Tok}(hm:X.mg x=some (.int n u))(hg:Gl X x:=by rfl)(hd:(x == ("__debug__" : Str))=false:=by decide):QE X (.Name x pos) (tC (.int n)):=⟨gi hm hg hd⟩
theorem b0v {x:Str} {v:V} {u:Value} (hg:Gl X x) (hm:X.mg x=some u) (r:a8c v u) (hd:(x == ("__debug__" : Str))=false:=by decide):QE X (.Name x pos) (tC v):=⟨f0n hg hm r hd⟩
theorem e2n {x:Str} {T:String} (hg:Gl X x) (hm:X.mg x=none) (hv:bootBuiltins x=some (.type T)) (hn:x ≠ "__name__":=by decide) (hd:(x == ("__debug__" : Str))=false:=by decide):QE X (.Name x pos) (tC (.ty T)):=⟨bty hg hm hv hn hd⟩
theorem a2m{j:Int}{k:Nat}(ha:QE X a ta)(hj:0 < j/\j < 1073741824:=by decide):QE X (.BinOp a .FloorDiv (.Constant (.int j) k p) pos) (mFd j ta):=⟨h0p ha.h hj⟩
theorem a1p{j:Int}{k:Nat}(ha:QE X a ta)(hj:0 < j:=by decide):QE X (.BinOp a .Mod (.Constant (.int j) k p) pos) (mMd j ta):=⟨h0o ha.h hj⟩
theorem a0q{op:Operator}{r:R2}(ho:OpR X (binaryOp op) r)(ha:QE X a ta)(hb:QE X b tb):QE X (.BinOp a op b pos) (tOp r ta tb):=⟨h0b ho ha.h hb.h⟩
theorem e4u(ha:QE X a ta):QE X (.UnaryOp .Not a pos) (h3d ta):=⟨g6y ha.h⟩
theorem b5z(ha:QE X a ta)(hb:QE X (.BoolOp .And (b :: c2u) pos) tb):QE X (.BoolOp .And (a :: b :: c2u) pos) (h3f ta tb):=⟨g7b ha.h hb.h⟩
theorem d0g(ha:QE X a ta)(hb:QE X (.BoolOp .Or (b :: c2u) pos) tb):QE X (.BoolOp .Or (a :: b :: c2u) pos) (mOr ta tb):=⟨h0n ha.h hb.h⟩
theorem b1x{op}(h:QE X a ta):QE X (.BoolOp op [a] pos) ta:=⟨g6c h.h⟩
theorem d0f{op:CmpOp}{r:R2}(ho:OpR X (compareOp op) r)(ha:QE X a ta)(hb:QE X b tb)(hm:behindInMarks op b=false):QE X (.Compare a [op] [b] pos) (tOp r ta tb):=⟨g2d ho ha.h hb.h hm⟩
theorem b4u{op op':CmpOp}{r r':R2}(ho:OpR X (compareOp op) r)(ho':OpR X (compareOp op') r')(ha:QE X a ta)(hb:QE X b tb)(hc:QE X c tc)
 (hm:lastMarks [op,op'] [b,c]=false:=by with_unfolding_all rfl):QE X (.Compare a [op,op'] [b,c] pos) (e5b r r' ta tb tc):=⟨f7j ho ho' ha.h hb.h hc.h hm⟩
theorem a7b(hc:QT X c tA)(ha:QE X a ta)(hb:QE X b tb):QE X (.IfExp c a b pos) (tIf tA ta tb):=⟨f6t hc.h ha.h hb.h⟩
theorem a2w(h:QW X e tt):QT X e tt:=⟨PW.pt h.h⟩
theorem a8d(ha:QT X a tA):QW X (.BoolOp .And [a] pos) tA:=⟨g1m ha.h⟩
theorem a4w(ha:QT X a tA):QW X (.BoolOp .Or [a] pos) tA:=⟨g5r ha.h⟩
theorem a9x(ha:QT X a tA)(hb:QW X (.BoolOp .And (b :: c2u) pos) tB'):QW X (.BoolOp .And (a :: b :: c2u) pos) (h2s tA tB'):=⟨g5s ha.h hb.h⟩
theorem a7d(ha:QT X a tA)(hb:QW X (.BoolOp .Or (b :: c2u) pos) tB'):QW X (.BoolOp .Or (a :: b :: c2u) pos) (tOr tA tB'):=⟨g9y ha.h hb.h⟩
theorem a7j(ha:QT X a tA):QT X (.UnaryOp .Not a pos) (h2n tA):=⟨g5t ha.h⟩
theorem a0o{op:CmpOp}{r:R2}(ho:OpR X (compareOp op) r)(ha:QE X a ta)(hb:QE X b tb)(hm:behindInMarks op b=false):QT X (.Compare a [op] [b] pos) (mB (tOp r ta tb)):=⟨g6t ho ha.h hb.h hm⟩
theorem d4w{op op':CmpOp}{r r':R2}(ho:OpR X (compareOp op) r)(ho':OpR X (compareOp op') r')(ha:QE X a ta)(hb:QE X b tb)(hc:QE X c tc)
 (hm:lastMarks [op,op'] [b,c]=false:=by with_unfolding_all rfl):QT X (.Compare a [op,op'] [b,c] pos) (mB (e5b r r' ta tb tc)):=⟨f7g ho ho' ha.h hb.h hc.h hm⟩
theorem a5h(h:QE X e te)(he : ∀ whole,isTrue e X.env whole=(do let v <- whole; standAt e.pos; holding [v] (truthy v)):=by intro _; rfl):QT X e (mB te):=⟨g6r h.h he⟩
theorem f6f(h:QE X e te)(he : ∀ whole,isTrue e X.env whole=(do let v <- whole; standAt e.pos; holding [v] (truthy v)):=by intro _; rfl):QT X e (h0r X.K te):=⟨g6s h.h he⟩
theorem a0a:QA X [] g0q:=⟨f9m⟩
theorem a0c(ha:QE X e te)(hr:QA X es t)(hs:b0z e=false:=by rfl):QA X (e :: es) (e6o te t):=⟨h2z ha.h hr.h hs⟩
theorem b8b{vs:List V}(h:c9s es=some vs):QA X es (e2c vs):=⟨e4y h⟩
theorem a0y(h:QA X es t):QE X (.List es pos) (g7c t):=⟨g6z h.h⟩
theorem a1u{x1}(h:QA X es t):QE X (.Tuple es x1 pos) (h0q t):=⟨g6w h.h⟩
theorem e4v:QE X (.Dict [] [] pos) h3e:=⟨g7a⟩
theorem a3o:QO X none e9b:=⟨g1v⟩
theorem a1x(h:QE X e te):QO X (some e) (g4o te):=⟨g1u h.h⟩
theorem a1z{r:V->Option Int->Option Int->Hp->VK->Prop}{lo hi:Option Expr}{tl th:TO}(hr:SlR X r)(he:QE X e te)(hl:QO X lo tl)(hu:QO X hi th):QE X (.Subscript e (.Slice lo hi none p2) pos) (tSl r te tl th):=⟨f6r hr he.h hl.h hu.h⟩
theorem a1b{r:R2}(hr:IxR X r)(ha:QE X a ta)(hb:QE X b tb)(hs:f4v b):QE X (.Subscript a b pos) (tOp r ta tb):=⟨h0d hr ha.h hb.h hs⟩
section
variable {k j:Nat}{f:Addr}{fd:FuncData}{ps:List Str}{sp:Sp}{x:Str}
theorem a2a(F:Has X.prog X.w X.K X.mg X.base x j f fd ps sp)(hr:c2r k X.A)(ha:QA X (e :: es) t)(hj:j<=k:=by decide)(hg:Gl X x:=by rfl)
 (hdb:(x == ("__debug__" : Str))=false:=by decide) (hn:b0x (e :: es)=true:=by rfl):QE X (.Call (.Name x p) (e :: es) [] pos) (e9d sp [] E0 t):=⟨cal F hr ha.h hj hg hdb hn⟩
theorem a2g{id:String}{r:List V->Hp->VK->Prop}(hc:b4i X (.builtin id) r)(hm:X.mg x=none)(hv:bootBuiltins x=some (.builtin id))(ha:QA X (e :: es) t)(hg:Gl X x:=by rfl)(hx:x ≠ "__name__":=by decide)(hdb:(x == ("__debug__" : Str))=false:=by decide)
 (hn:b0x (e :: es)=true:=by rfl):QE X (.Call (.Name x p) (e :: es) [] pos) (tCB r t):=⟨h6b hc hm hv ha.h hg hx hdb hn⟩
theorem a9o{T:String}{r:List V->Hp->VK->Prop}(hc:b4i X (.type T) r)(hm:X.mg x=none)(hv:bootBuiltins x=some (.type T))(ha:QA X (e :: es) t)(hg:Gl X x:=by rfl)(hx:x ≠ "__name__":=by decide)(hdb:(x == ("__debug__" : Str))=false:=by decide)
 (hn:b0x (e :: es)=true:=by rfl):QE X (.Call (.Name x p) (e :: es) [] pos) (tCB r t):=⟨h1q hc hm hv ha.h hg hx hdb hn⟩
end
section
variable {name:Str}{apos cpos:Pos}{T id:String}{r:V->List V->Hp->VK->Prop}
theorem f6e (pa:PlainAttrs T) (slot:Slot T name id) (hty:typeOf (.builtin id)=pure (.type "method_descriptor")) (hm:MtR X id r) (ho:QE X o to)
 (hbase:attributeBase o name X.env (eval o X.env)=eval o X.env:=by rfl) (hline:(apos.endLine == cpos.line)=true:=by rfl):QE X (.Call (.Attribute o name apos) [] [] cpos) (g9h X.K T r to):=⟨g6e pa slot hty hm ho.h hbase hline⟩
theorem d4x{env:Env}{pos:Pos} : ∀ {es:List Expr},b0x es=true->(backTo pos (starEach es env)).all (fun x=>!x.1)=true
 | [],_=>rfl
 | e :: r,h=>by
  obtain⟨h1,h2⟩:=a2j h
  rw[a2h h1]
  show (!false && (backTo pos (starEach r env)).all (fun x=>!x.1))=true
  rw[d4x h2]
  rfl
theorem g1k (pa:PlainAttrs T) (slot:Slot T name id) (hty:typeOf (.builtin id)=pure (.type "method_descriptor")) (hm:MtR X id r) (ho:QE X o to) (ha:QA X (e :: es) t)
 (hbase:attributeBase o name X.env (eval o X.env)=eval o X.env:=by rfl) (hn:b0x (e :: es)=true:=by rfl) (hf:decide ((e :: es).length+0+0 < 30)=true:=by rfl)
 (hline:(apos.endLine == cpos.line)=true:=by rfl):QE X (.Call (.Attribute o name apos) (e :: es) [] cpos) (tBM X.K T r to t) :=
 ⟨h0e pa slot hty hm ho.h ha.h hbase (by rw[d4x hn]; exact hf) hline (a2h (a2j hn).1) (a9f (a2j hn).2)⟩
end
section
variable {st:Stmt}{sts ss2:List Stmt}{s t1 u1:TS}{tg it:Expr}{g:TG}{gs:TGs}{wi:TI}
theorem a0n:QSs X [] f5r:=⟨g1q⟩
theorem a0b(h1:QS X st t1)(h2:QSs X sts u1):QSs X (st :: sts) (g9g t1 u1):=⟨f6i h1.h h2.h⟩
theorem a0e(h1:QS X st t1):QSs X [st] t1:=⟨g1p h1.h⟩
theorem a5e:QS X st f9b:=⟨f6k⟩
theorem e6z:QS X (.Break pos) f9e:=⟨f6l⟩
theorem a0i(he:QE X e te):QS X (.Return (some e) pos) (h2m te):=⟨g5v he.h⟩
theorem a2n(he:QE X e te)(hs:swapsWith e none pos.line X.env=pure false:=by rfl):QS X (.Expr e pos) (g4q te):=⟨g1s he.h hs⟩
theorem a0w(hc:QT X c tA)(ha:QSs X sts t1)(hb:QSs X ss2 u1):QS X (.If c sts ss2 pos) (h2p tA t1 u1):=⟨g9z hc.h ha.h hb.h⟩
theorem a0r{i:Nat}{x:Str}{pos':Pos}(hN:X.N.Nodup)(hi:X.N[i]? = some x)(hx:Loc X.env.scope x)(he:QE X e te)(hs:swapsWith e (some (.Name x pos')) pos.line X.env=pure false:=by rfl)(hf:X.fn x=true\/X.env.scope.names.lookup x=some .local:=by first | exact .inl rfl | exact .inr rfl | assumption) :
 QS X (.Assign [.Name x pos'] e pos) (g4d te (b5k i)):=⟨g5u hN hi hx he.h hs hf⟩
theorem b8q(he:QE X e te)(hg:QG X tg g)(hs:swapsWithSole [tg] e pos.line X.env=pure false:=by rfl)(hw:swappedStores [tg] e X.env=pure none:=by rfl)
 (h1:(assignEach [tg] X.env).map (·.2)=[assign tg X.env]:=by rfl):QS X (.Assign [tg] e pos) (g4d te g):=⟨g5y he.h hg.h hs hw h1⟩
theorem a0x{i:Nat}{x:Str}(hN:X.N.Nodup)(hi:X.N[i]? = some x)(hx:Loc X.env.scope x)(hf:X.fn x=true\/X.env.scope.names.lookup x=some .local:=by first | exact .inl rfl | exact .inr rfl | assumption):QG X (.Name x pos) (b5k i):=⟨g1z hN hi hx hf⟩
theorem a5f:QGs X [] h1i:=⟨g1y⟩
theorem a1m(h1:QG X e g)(h2:QGs X es gs)(hs:(assignEach (e :: es) X.env).map (·.2)=assign e X.env :: (assignEach es X.env).map (·.2):=by rfl):QGs X (e :: es) (f8i g gs):=⟨f6q h1.h h2.h hs⟩
theorem f6d{k n:Nat}(hc:X.calm=true)(h:QGs X es gs)(hn:(assignEach es X.env).length=n:=by rfl)(hst:(assignEach es X.env).findIdx? (·.1)=none:=by rfl):QG X (.Tuple es k pos) (g8w X.K n gs):=⟨g6b hc h.h hn hst⟩
theorem f0b{l:Expr}{tl:TE}(hl:QE X l tl):QI X tg l (g2u X.K tl):=⟨g1w hl.h⟩
theorem f6c{l:Expr}{tl:TE}(hl:QE X l tl):QI X tg l (h0y X.K tl):=⟨g6a hl.h⟩
theorem b1p (hg:Gl X "range") (hm:X.mg "range" = none) (ha:QA X [a] t) (hs:b0z a=false:=by rfl):QI X tg (.Call (.Name "range" p) [a] [] pos) (g7u t):=⟨f0l hg hm ha.h (a2h hs)⟩
theorem d0e (hg:Gl X "range") (hm:X.mg "range" = none) (ha:QA X [a,b] t) (hs:b0z a=false:=by rfl) (hs2:b0z b=false:=by rfl):QI X tg (.Call (.Name "range" p) [a,b] [] pos) (g7t t) :=
 ⟨f0k hg hm ha.h (by rw[a2h hs,a2h hs2]; rfl) (a2h hs2)⟩
theorem a4x{body:List Stmt}{tb1:TS}(hp:PassesOwn (model X.prog X.w) X.A X.env X.xe)(hc:X.calm=true)(hi:QI X tg it wi)(hg:QG X tg g)(hb:QSs X body tb1)
 (hs : ∀ x,foldedSetIterable it X.env x=pure x:=by intro _; rfl):QS X (.For tg it body [] pos) (h2q wi g tb1):=⟨g5w hp hc hi.h hg.h hb.h hs⟩
theorem e6y{body:List Stmt}{tb1:TS}(hp:PassesOwn (model X.prog X.w) X.A X.env X.xe)(hc:QT X c tA)(hb:QSs X body tb1):QS X (.While c body [] pos) (f9a tA tb1):=⟨f6j hp hc.h hb.h⟩
theorem a4p:QTs X [] c9y:=⟨g1o⟩
theorem d9f(h:QT X c tA):QTs X [c] tA:=⟨g1n h.h⟩
theorem a6b{scope:Scope}{Nc:List Str}{nv:Nat}{caps:List Nat}{ifs:List Expr}(hc:X.calm=true)(S:a2b X Nc nv caps scope)(hi:QI X tg it wi)
 (hg : ∀ C s H fp,QG (a8k X Nc scope C s H fp) tg g) (ht : ∀ C s H fp,QTs (a8k X Nc scope C s H fp) ifs tt) (he : ∀ C s H fp,QE (a8k X Nc scope C s H fp) e te)
 (hs : ∀ x,foldedSetIterable it X.env x=pure x:=by intro _; rfl):QE X (.ListComp e [⟨tg,it,ifs,0⟩] scope pos) (f5s nv caps wi g tt te) :=
 ⟨g2c hc S hi.h (fun C s H fp=>(hg C s H fp).h) (fun C s H fp=>(ht C s H fp).h) (fun C s H fp=>(he C s H fp).h) hs⟩
theorem c5k{scope:Scope}{Nc:List Str}{nv:Nat}{caps:List Nat}{ifs:List Expr}{spos py:Pos}{i:Nat}{y:Str}(hN:X.N.Nodup)(hy:X.N[i]? = some y)(hx:Loc X.env.scope y)(hc:X.calm=true)(S:a2b X Nc nv caps scope)(hi:QI X tg it wi)
 (hg : ∀ C s H fp,QG (a8k X Nc scope C s H fp) tg g) (ht : ∀ C s H fp,QTs (a8k X Nc scope C s H fp) ifs tt) (he : ∀ C s H fp,QE (a8k X Nc scope C s H fp) e te)
 (hsw:swapsWith (.ListComp e [⟨tg,it,ifs,0⟩] scope pos) (some (.Name y py)) spos.line X.env=pure true:=by rfl)
 (hs : ∀ x,foldedSetIterable it X.env x=pure x:=by intro _; rfl) (hf:X.fn y=true\/X.env.scope.names.lookup y=some .local:=by first | exact .inl rfl | exact .inr rfl | assumption) :
 QS X (.Assign [.Name y py] (.ListComp e [⟨tg,it,ifs,0⟩] scope pos) spos) (g4d (f5s nv caps wi g tt te) (b5k i)) :=
 ⟨g1r hN hy hx hc S hi.h (fun C s H fp=>(hg C s H fp).h) (fun C s H fp=>(ht C s H fp).h) (fun C s H fp=>(he C s H fp).h) hsw hs hf⟩
end
end
section
variable {X:Cx}{K:W.Frag}{a b c e o:Expr}{es c2u:List Expr}{pos p p2:Pos}{ta tb tc te to:TE}{tA tB' tt:TT}{t tk:TA}
theorem a1y(h:X.K=K):IxR X (gIx K):=by subst h; exact h5o
theorem b8c(h:X.K=K):SlR X (gSl K):=by subst h; exact h5m
theorem a1r(h:X.K=K):OpR X (binaryOp .Add) (h3n K):=by subst h; exact h1g
theorem a4q(h:X.K=K)(hu:X.A.units+64 < cLine):OpR X (compareOp .Eq) (gEq K false):=by subst h; exact h5q hu
theorem d4k(h:X.K=K)(hu:X.A.units+64 < cLine):OpR X (compareOp .NotEq) (gEq K true):=by subst h; exact h5n hu
theorem f8g(h:X.K=K):OpR X (compareOp .In) (gIn K false):=by subst h; exact h5p
theorem e5i(h:X.K=K):OpR X (compareOp .NotIn) (gIn K true):=by subst h; exact g3e
theorem a3b (h:X.K=K):b4i X (.builtin "len") (h1j K):=by subst h; exact h1s
theorem b1t (h:X.K=K):b4i X (.type "list") (g3i K):=by subst h; exact g8m
theorem d7o (h:X.K=K):b4i X (.type "tuple") (g3g K):=by subst h; exact g3q
theorem g0h (h:X.K=K) (hc:X.calm=true):b4i X (.builtin "all") (h1n K false):=by subst h; exact h1t hc
theorem c4h (h:X.K=K):b4i X (.builtin "isinstance") (g3j K):=by subst h; exact g8n
theorem c7i (h:X.K=K):MtR X "list.extend" (h1m K):=by subst h; exact f1b
theorem a8e(h:X.K=K)(q:QE X e te)(he : ∀ whole,isTrue e X.env whole=(do let v <- whole; standAt e.pos; holding [v] (truthy v)):=by intro _; rfl):QT X e (h0r K te):=by subst h; exact f6f q he
theorem a2q{tg l:Expr}{tl:TE}(h:X.K=K)(hl:QE X l tl):QI X tg l (g2u K tl):=by subst h; exact f0b hl
theorem f0a{tg l:Expr}{tl:TE}(h:X.K=K)(hl:QE X l tl):QI X tg l (h0y K tl):=by subst h; exact f6c hl
theorem a5g{k n:Nat}{gs:TGs}(h:X.K=K)(hc:X.calm=true)(q:QGs X es gs)(hn:(assignEach es X.env).length=n:=by rfl)(hst:(assignEach es X.env).findIdx? (·.1)=none:=by rfl):QG X (.Tuple es k pos) (g8w K n gs):=by subst h; exact f6d hc q hn hst
theorem a5t {name:Str} {apos cpos:Pos} {T id:String} {r:V->List V->Hp->VK->Prop} (h:X.K=K) (pa:PlainAttrs T) (slot:Slot T name id) (hty:typeOf (.builtin id)=pure (.type "method_descriptor")) (hm:MtR X id r) (ho:QE X o to) (ha:QA X (e :: es) t)
 (hbase:attributeBase o name X.env (eval o X.env)=eval o X.env:=by rfl) (hn:b0x (e :: es)=true:=by rfl) (hf:decide ((e :: es).length+0+0 < 30)=true:=by rfl)
 (hline:(apos.endLine == cpos.line)=true:=by rfl):QE X (.Call (.Attribute o name apos) (e :: es) [] cpos) (tBM K T r to t):=by subst h; exact g1k pa slot hty hm ho ha hbase hn hf hline
theorem d9g {name:Str} {apos cpos:Pos} {T id:String} {r:V->List V->Hp->VK->Prop} (h:X.K=K) (pa:PlainAttrs T) (slot:Slot T name id) (hty:typeOf (.builtin id)=pure (.type "method_descriptor")) (hm:MtR X id r) (ho:QE X o to)
 (hbase:attributeBase o name X.env (eval o X.env)=eval o X.env:=by rfl) (hline:(apos.endLine == cpos.line)=true:=by rfl):QE X (.Call (.Attribute o name apos) [] [] cpos) (g9h K T r to):=by subst h; exact f6e pa slot hty hm ho hbase hline
end
theorem Fun.okQ{P:Program}{w:World}{K:W.Frag}{mg:Str->Option Value}{base:Heap}{x qual:Str}{st:Stmt}{f:Addr}{fd:FuncData}{N ps:List Str}{k:Nat}{sp:Sp}(F:Fun K x qual st f fd)(S:a0u N ps (a0f st))(len : ∀ vs H Q E,sp vs H Q E->vs.length=ps.length)
 (hbody : ∀ (cdv:Value) (A:Around) (outer:List Env) (s:Shared) (H:Hp) (vs:List V) (Q:VK) (E:XK),c2r k (A.deeper (envOfC qual (a0f st) s.heap.objs.size f cdv))->sp vs H Q E ->
   ∃ t,QSs (g0e CX0 P w K mg base N qual (a0f st) f cdv A outer s H E).nox (a0s st) t/\t { nx:=fun _ H'=>Q .non H',rt:=Q } (d3t N vs) H):b8g P w K mg base CX0 (k+1) f fd ps sp :=
 F.ok S len fun cdv A outer s H vs Q E hr h=>let ⟨t,q,r⟩:=hbody cdv A outer s H vs Q E hr h; ⟨t,q.h,r⟩
section
variable {X:Cx}{pins:List (Addr × Obj)}{σ:St}{H:Hp}{s:Shared}{h':Heap}
theorem Inv.turnedL{t':Nat}{fp:List Addr}(I:Inv X pins σ H s)(k : ∀ b o,b∉fp->s.heap.get? b=some o->h'.get? b=some o)(hf : ∀ b∈fp,e8p X pins H b):Inv X pins σ H { s with heap:=h',toks:=t' }:=by
 have nit : ∀ b u,H b=some u->b∉fp:=fun b u e z=>by rw[(hf b z).1]at e; cases e
 refine I.step (g':=s.gens) (d':=s.drawn) (ch:=fp) (fun b hb=>?_) (fun b o _ _ hc e _=>k b o hc e) (fun b o _ _ hc e _=>⟨o.slots,k b o hc e⟩) (fun _ _ _ _ n=>n) (fun b o hc e=>⟨o,k b o hc e⟩) (fun _ _ e=>e) (fun _ _ _ e=>e) (fun b ps e=>⟨#[],by rw[e]; simp⟩) (fun m hm=>?_) (fun b u e=>?_) I.bare
 ·obtain⟨f0,f1,f2,f3,f4,f5⟩:=hf b hb
  exact⟨f3,f1,f4,f5⟩
 ·obtain⟨o,es,ep,ho,r⟩:=hm
  exact⟨o,es,ep,k _ o (fun z=>(hf _ z).2.1 rfl) ho,r⟩
 ·refine (I.hok b u e).stay (fun c v hc q=>k c v ?_ q) (fun _ q=>q) fun _ _ q=>q
  rcases hc with z | z
  ·rw[z]; exact nit b u e
  ·exact nit c _ z
theorem Inv.turnedN{t':Nat}{fp:List Addr}{T:Addr}{ob:HO}(I:Inv X pins σ H s)(k : ∀ b o,b∉fp->s.heap.get? b=some o->h'.get? b=some o)(hf : ∀ b∈fp,e8p X pins H b)(hT:s.heap.objs.size<=T)
 (new:a8r X.prog X.w (upd H T ob) h' T ob):Inv X pins σ (upd H T ob) { s with heap:=h',toks:=t' }:=by
 have I1:Inv X pins σ H { s with heap:=h',toks:=t' }:=I.turnedL k hf
 have hn:H T=none:=I.hok.fresh hT
 have ne : ∀ b u,H b=some u->b≠T:=fun b u e z=>by rw[z,hn]at e; cases e
 refine I.step (g':=s.gens) (d':=s.drawn) (ch:=fp) (fun b hb=>?_) (fun b o _ _ hc e _=>k b o hc e) (fun b o _ _ hc e _=>⟨o.slots,k b o hc e⟩) (fun b o _ e n=>?_) (fun b o hc e=>⟨o,k b o hc e⟩) (fun b xs e=>by rw[a1c (ne b _ e)]; exact e) (fun b o u e=>by rw[a1c (ne b _ e)]; exact e) (fun b ps e=>⟨#[],by rw[a1c (ne b _ e),e]; simp⟩) (fun m hm=>?_) (I1.hok.adopt hn new) I.bare
 ·obtain⟨f0,f1,f2,f3,f4,f5⟩:=hf b hb
  exact⟨f3,f1,f4,f5⟩
 ·rw[a1c (fun z=>absurd (Nat.lt_of_lt_of_le (Heap.lt_size e) (by rw[z]; exact hT)) (Nat.lt_irrefl _))]
  exact n
 ·obtain⟨o,es,ep,ho,r⟩:=hm
  exact⟨o,es,ep,k _ o (fun z=>(hf _ z).2.1 rfl) ho,r⟩
end
def Ite(K:W.Frag)(a:Addr):It :=
 ⟨fun i H=>∃ xs x,SqL K H a xs/\xs[i]? = some x,fun i H x H'=>∃ p v,x=.ref p/\(∀ xs,SqL K H a xs->xs[i]? = some v)/\Gro H p (.tup [.int (i:Int),v]) H',fun i H=>∃ xs,SqL K H a xs/\xs.length<=i⟩
theorem f9l{P:Program}{w:World}{H:Hp}{h:Heap}{T:Addr}{v1 v2:V}{u1 u2:Value}(hT:h.IsTuple T #[u1,u2])(r1:a8c v1 u1)(r2:a8c v2 u2):a8r P w (upd H T (.tup [v1,v2])) h T (.tup [v1,v2]):=by
 refine⟨sz rfl,[u1,u2],.cons r1 (.cons r2 .nil),?_⟩
 exact hT
theorem e8z{P:Program}{w:World}{K:W.Frag}{es:List Expr}{kk:Nat}{pp:Pos}(a e it:Addr)(hei:e≠it):g0k P w K (.Tuple es kk pp) (Ite K a) [e,it] e (fun i h=>(∃ old,IsEnum h e it i old)/\h.IsListIter it a i) where
 mem:=by simp
 obj:=fun i h st b hb=>by
  obtain⟨⟨old,h1⟩,o,e2,c,d⟩:=st
  have hb':b=e\/b=it:=by simpa using hb
  rcases hb' with z | z
  ·subst z
   exact⟨_,h1,fun v z=>by cases (show Data.fields _=Data.cell v from z)⟩
  ·subst z
   exact⟨o,e2,fun v z=>by rw[d]at z; cases z⟩
 keep:=fun i h h' st k=>by
  obtain⟨⟨old,h1⟩,h2⟩:=st
  exact⟨⟨old,k e (by simp) _ h1⟩,h2.at fun o x=>k it (by simp) o x⟩
 item:=by
  intro X hP hw hK hc i pins s σ H E I hf st hg
  subst hP hw hK
  obtain⟨⟨old,h1⟩,h2⟩:=st
  obtain⟨xs,x,hq,hx⟩:=hg
  obtain⟨its,rv,p,hz⟩:=I.list hq
  obtain⟨u,hu,ru⟩:=rv.get hx
  have helt:e < s.heap.objs.size:=Heap.lt_size h1
  have hilt:it < s.heap.objs.size:=by obtain⟨_,z,_⟩:=h2; exact Heap.lt_size z
  refine wpAny_pyNext_enum_item h1 h2 p.isList (x:=u) (by simpa using hu) hei fun h' ho hit' hT hsz hk=>?_
  refine⟨_,rfl,wpAny_letOwnedTupleGo_enum (s:={ s with heap:=h',toks:=s.toks+1 }) ho fun h'' he' hs'=>?_⟩
  have hTe:s.heap.objs.size≠e:=Nat.ne_of_gt helt
  have hT2:h''.get? s.heap.objs.size=some { cls:=.type "tuple",data:=.seq #[.int i s.toks,u] }:=(hs'.2 _ hTe).trans hT
  have I2:Inv X pins σ (upd H s.heap.objs.size (.tup [.int (i:Int),x])) { s with heap:=h'',toks:=s.toks+1 }:=by
   refine I.turnedN (fp:=[e,it]) (fun b o hb eo=>?_) hf (Nat.le_refl _) (f9l ⟨_,hT2,rfl,_,rfl⟩ ⟨_,rfl⟩ ru)
   have hbe:b≠e:=fun z=>hb (by simp[z])
   have hbi:b≠it:=fun z=>hb (by simp[z])
   exact (hs'.2 b hbe).trans (hk b o hbe hbi eo)
  refine⟨.ref s.heap.objs.size,_,I2,rfl,⟨_,x,rfl,fun ys hy=>by rw[I.list_inj hy hq]; exact hx,.mk' I.fresh⟩,⟨⟨_,by simpa using he'⟩,hit'.at fun o y=>(hs'.2 it hei.symm).trans y⟩,fun b hb=>?_⟩
  have hb':b=e\/b=it:=by simpa using hb
  rw[a1c (by rcases hb' with z | z <;> (rw[z]; first | exact Nat.ne_of_lt helt | exact Nat.ne_of_lt hilt))]
  exact (hf b hb).1
 done:=by
  intro X hP hw hK hc i pins s σ H E I hf st hg
  subst hP hw hK
  obtain⟨⟨old,h1⟩,h2⟩:=st
  obtain⟨xs,hq,hx⟩:=hg
  obtain⟨its,rv,p,hz⟩:=I.list hq
  have hl:=rv.length
  refine wpAny_pyNext_enum_end (I.ok.hd hc) h1 h2 p.isList (by simp; omega) fun h' eb=>⟨rfl,I.turnedL (t':=s.toks) (fp:=[e,it]) (fun b o hb eo=>eb b o (fun z=>hb (by simp[z])) eo) hf⟩
 self:=fun _ _ _ _ _ st h=>wpAny_pyIter_enum st.1.choose_spec h
def g7v(K:W.Frag)(ta:TA):TI:=fun σ H R=>ta σ H fun vs H1=>∃ a xs,vs=[.ref a]/\SqL K H1 a xs/\R (Ite K a) H1
section
variable {X:Cx}{tg:Expr}{es:List Expr}{kk:Nat}{pp:Pos}
theorem g1x {a:Expr} {ta:TA} {p pos:Pos} (hg:Gl X "enumerate") (hm:X.mg "enumerate" = none) (ha:PA X [a] ta) (hs:starEach [a] X.env=[(false,eval a X.env)]:=by rfl):PI X (.Tuple es kk pp) (.Call (.Name "enumerate" p) [a] [] pos) (g7v X.K ta):=by
 intro pins s σ H R I h
 refine Call_ (c2y I hg hm boot_enumerate (PyProof.Rows.callWith_type1 (thn (ha pos pins s σ H _ I h) fun us s1 ⟨vs,H1,I1,r1,q1⟩=>?_) hs rfl))
 obtain⟨l,xs,e,hq,q⟩:=q1
 subst e
 cases r1 with
 | cons r rr =>
  cases rr
  cases r
  obtain⟨its,rv,pl,hz⟩:=I1.list hq
  refine call_enumerate_list pl.isList fun h' he hit hsz hk=>?_
  refine wpAny_pyIter_enum (s:={ s1 with heap:=h' }) he ?_
  have I2:Inv X pins σ H1 { s1 with heap:=h' }:=I1.kept (t':=s1.toks) hk
  refine⟨s1.heap.objs.size+1,[s1.heap.objs.size+1,s1.heap.objs.size],_,Ite X.K l,H1,rfl,I2,e8z l _ _ (Nat.succ_ne_self _),⟨⟨_,he⟩,hit⟩,fun b hb=>?_,q⟩
  have hb':b=s1.heap.objs.size+1\/b=s1.heap.objs.size:=by simpa using hb
  have hle:s1.heap.objs.size<=b:=by
   rcases hb' with z | z
   ·rw[z]; exact Nat.le_succ _
   ·rw[z]; exact Nat.le_refl _
  exact I1.fpOk hle (I1.hok.fresh hle)
end
theorem e9s:typeLookup (.type "list_reverseiterator") "__len__" = pure none:=by rw[typeLookup_type,builtinLookup_eq_fast]; kernel_rfl
theorem d9e:typeLookup (.type "list_reverseiterator") "__length_hint__" = pure (some (.builtin "list_reverseiterator.__length_hint__")):=by rw[typeLookup_type,builtinLookup_eq_fast]; kernel_rfl
section
variable {prog:Program}{w:World}{A:Around}{E:Value->Shared->Prop}{s:Shared}{r:Addr}
theorem g1e {Q:Bool->Shared->Prop} (hT:s.TypeIs (.ref r) "list_reverseiterator") (h:Q false s):wpAny (model prog w) A (Builtin.List.listLengthHint (.ref r)) Q E s:=by
 unfold Builtin.List.listLengthHint
 refine wpAny_bind (wpAny_specialOf hT e9s ?_)
 show wpAny _ A (specialOf (Value.ref r) (Str.ofString "__length_hint__") >>= _) _ _ _
 refine wpAny_bind (wpAny_specialOf hT d9e ?_)
 generalize hid:("list_reverseiterator.__length_hint__" : String)=id0
 wp_delta
 rw[show splitId id0=some ("list_reverseiterator", "__length_hint__") from by subst hid; decide +kernel]
 subst hid
 refine wpAny_bind (wpAny_isInstance (T := "list_reverseiterator") (b:=true) hT (by rw[isSubtype_type]; kernel_rfl) ?_)
 refine wpAny_ite_split (fun hab=>absurd hab (by decide)) (fun _=>?_)
 refine wpAny_ite_split (fun _=>?_) (fun hab=>absurd (by decide +kernel) hab)
 refine wpAny_ite_split (fun hab=>absurd hab (by decide +kernel)) (fun _=>?_)
 exact wpAny_pure h
theorem e9t{R:Result->Shared->Prop}{l:Addr}{items:Array Value}(hh:A.handled=none)(S:Addr)(res:Value)(c₀:Nat)(hne:l≠r)(hSr:S≠r)(hSl:S≠l)(hit:s.heap.IsRevIter r l ((items.size:Int) - 1))(hl:s.heap.IsList l items)
 (hS:s.heap.get? S=some { cls:=.type "list",data:=.seq #[] c₀ })
 (hR : ∀ h' tk acc' c',(∀ b o,b≠S->b≠r->s.heap.get? b=some o->h'.get? b=some o)->h'.get? S=some { cls:=.type "list",dict:=none,data:=.seq acc' c',slots:=#[] }->ItemsOf (fun i v=>items[items.size - 1 - i]? = some v) acc' items.size->R (.ok (.ret res)) { s with heap:=h',toks:=tk }) (hn:items.size<=sizeLine) :
 wpAny (model prog w) A.in1 (Builtin.List.listExtendWith (.ref S) (.ref r) res)
  (fun fin s'=>match fin with | .done f=>R (.ok f) s' | .again c'=>c'.quiet=true/\codeAny (model prog w) A c' R s') (fun e s'=>R (.error e) s') s:=by
 have W:=(Walks.listRev (prog:=prog) (w:=w) (A:=A.in1) hh r l hne items)
 have hSf:S∉[r,l]:=by simp[hSr,hSl]
 unfold Builtin.List.listExtendWith
 refine wpAny_bind (wpAny_typeOf (T := "list_reverseiterator") hit.typeIs ?_)
 have h1:Builtin.List.listSameRef (.ref S) (.ref r)=false:=by simp[Builtin.List.listSameRef,hSr]
 have h2:(Value.type "list_reverseiterator" == Value.type "list")=false:=by decide
 have h3:(Value.type "list_reverseiterator" == Value.type "tuple")=false:=by decide
 simp only [h1,h2,h3,Bool.or_false,Bool.false_eq_true,if_false]
 refine wpAny_bind (wpAny_pyIter_revIter hit ?_)
 refine wpAny_bind (wpAny_holding (g1e hit.typeIs ?_))
 refine wpAny_ite_split (fun hab=>absurd hab (by decide +kernel)) (fun _=>wpAny_pure ⟨plainId_quiet PySem.F.plain_extend_loop _,?_⟩)
 refine codeAny_extend_loopS W.toS hn S hSf res items.size 0 _ #[] c₀ rfl (Nat.zero_le _) ⟨Nat.zero_le _,by simpa using hit,hl⟩ hS (ItemsOf.nil _) fun s' acc' c' hm hS' hacc=>?_
 rw[Moved.eq_with hm]
 refine hR s'.heap s'.toks acc' c' (fun b o hb hbr e=>hm.heap b o (fun hmem=>?_) e) hS' hacc
 rcases List.mem_cons.mp hmem with e' | hmem
 ·exact hb e'
 ·exact hbr (List.mem_singleton.mp hmem)
theorem g1f{l:Addr}{items:Array Value}{Q:Value->Shared->Prop}(hh:A.handled=none)(hne:l≠r)(hit:s.heap.IsRevIter r l ((items.size:Int) - 1))(hl:s.heap.IsList l items)(hn:items.size<=sizeLine)
 (hQ : ∀ h' tk acc' c',(∀ b o,b≠r->s.heap.get? b=some o->h'.get? b=some o)->h'.get? s.heap.objs.size=some { cls:=.type "list",dict:=none,data:=.seq acc' c',slots:=#[] }->ItemsOf (fun i v=>items[items.size - 1 - i]? = some v) acc' items.size->Q (.ref s.heap.objs.size) { s with heap:=h',toks:=tk }) :
 wpAny (model prog w) A (call (.type "list") [.ref r]) Q E s:=by
 refine callType_codes (Q₁:=fun obj s₁=>obj=.ref s.heap.objs.size/\s₁ = { s with heap:=s.heap.push { cls:=.type "list",data:=.seq #[] } }) PySem.F.called_list (PySem.F.typeCall_list_1 _) PySem.F.entry_list_init
  (code_list_new _ ⟨rfl,rfl⟩) fun obj s₁ h₁=>?_
 obtain⟨rfl,rfl⟩:=h₁
 have hS:(s.heap.push { cls:=.type "list",data:=.seq #[] }).get? s.heap.objs.size=some { cls:=.type "list",data:=.seq #[] }:=Heap.get?_push_size _ rfl
 have lr:r < s.heap.objs.size:=by obtain⟨o,e,_⟩:=hit; exact Heap.lt_size e
 have ll:l < s.heap.objs.size:=by obtain⟨o,e,_⟩:=hl; exact Heap.lt_size e
 refine⟨⟨_,hS,rfl⟩,PySem.F.args_list_init_2 _ _,?_⟩
 show wpAny _ _ (do let old <- Builtin.List.listItems (.ref s.heap.objs.size); Builtin.List.listUpdate (.ref s.heap.objs.size) (fun _=>#[]); letGo old.toList.reverse; Builtin.List.listExtendWith (.ref s.heap.objs.size) (.ref r) .none) _ _ _
 refine wpAny_bind ?_
 unfold Builtin.List.listItems
 refine wpAny_bind (wpAny_seqItems hS rfl (wpAny_pure ?_))
 show wpAny _ _ (updateSeq s.heap.objs.size (fun _=>#[]) >>= fun _=>letGo (#[]:Array Value).toList.reverse >>= fun _=>Builtin.List.listExtendWith (.ref s.heap.objs.size) (.ref r) .none) _ _ _
 refine wpAny_bind (wpAny_updateSeq hS rfl ?_)
 have hS₂:=Heap.get?_update_self (Obj.mapSeq (fun _=>(#[]:Array Value))) hS rfl
 have oth : ∀ b o,b≠s.heap.objs.size->s.heap.get? b=some o->((s.heap.push { cls:=.type "list",data:=.seq #[] }).update s.heap.objs.size (Obj.mapSeq (fun _=>(#[]:Array Value)))).get? b=some o :=
  fun b o hb e=>(Heap.get?_update_other _ _ (Ne.symm hb)).trans (Heap.get?_push_of_some _ e)
 refine wpAny_bind (wpAny_letGo ?_)
 refine e9t (A:=A.in1) hh _ .none _ hne (Nat.ne_of_gt lr) (Nat.ne_of_gt ll) (hit.at fun o e=>oth r o (Nat.ne_of_lt lr) e) (hl.at fun o e=>oth l o (Nat.ne_of_lt ll) e) hS₂ (fun h' tk acc' c' hk hS' hacc=>?_) hn
 exact⟨rfl,hQ h' tk acc' c' (fun b o hb e=>hk b o (Nat.ne_of_lt (Heap.lt_size e)) hb (oth b o (Nat.ne_of_lt (Heap.lt_size e)) e)) hS' hacc⟩
end
def h2j(K:W.Frag)(ta:TA):TE:=fun σ H Q=>ta σ H fun vs H1=>∃ a xs,vs=[.ref a]/\SqL K H1 a xs/\∀ p H',Gro H1 p (.lst xs.reverse) H'->Q (.ref p) H'
theorem g6x {X:Cx} {a:Expr} {ta:TA} {p1 p2 pos pos2:Pos} (hc:X.calm=true) (hg1:Gl X "list") (hm1:X.mg "list" = none) (hg2:Gl X "reversed") (hm2:X.mg "reversed" = none) (ha:PA X [a] ta) (hs:starEach [a] X.env=[(false,eval a X.env)]:=by rfl)
 (hs1:starEach [.Call (.Name "reversed" p2) [a] [] pos2] X.env=[(false,eval (.Call (.Name "reversed" p2) [a] [] pos2) X.env)]:=by rfl):PE X (.Call (.Name "list" p1) [.Call (.Name "reversed" p2) [a] [] pos2] [] pos) (h2j X.K ta):=by
 intro pins s σ H Q I h
 refine Call_ (c2y I hg1 hm1 boot_list (PyProof.Rows.callWith_type1 ?_ hs1 rfl))
 rw[hs1]
 refine Calls.spliced_cons (Call_ (c2y I hg2 hm2 boot_reversed (PyProof.Rows.callWith_type1 (thn (ha pos2 pins s σ H _ I h) fun us s1 ⟨vs,H1,I1,r1,q1⟩=>?_) hs rfl)))
 obtain⟨l,xs,e,hq,q⟩:=q1
 subst e
 cases r1 with
 | cons r rr =>
  cases rr
  cases r
  obtain⟨its,rv,pl,hz⟩:=I1.list hq
  have hlen:=rv.length
  refine call_reversed_list pl.isList (Calls.spliced_nil ?_)
  have ll:l < s1.heap.objs.size:=by obtain⟨o,_,e,_⟩:=pl; exact Heap.lt_size e
  have I2:Inv X pins σ H1 { s1 with heap:=s1.heap.push (revObj l ((its.toArray.size:Int) - 1)) }:=I1.kept (t':=s1.toks) fun b o e=>Heap.get?_push_of_some _ e
  refine g1f (s:={ s1 with heap:=s1.heap.push (revObj l ((its.toArray.size:Int) - 1)) }) (items:=its.toArray) (I.ok.hd hc) (Nat.ne_of_lt ll) ⟨_,Heap.get?_push_size _ rfl,rfl,rfl⟩ (pl.isList.at fun o e=>Heap.get?_push_of_some _ e) (by rw[List.size_toArray,<- hlen]; exact hz) fun h' tk acc' c' hk hS hacc=>?_
  have hacc2:acc'.toList=its.reverse:=by
   refine List.ext_getElem? fun i=>?_
   have hn:acc'.size=its.length:=hacc.1.trans List.size_toArray
   have hi : ∀ i v,acc'[i]? = some v->its.toArray[its.length - 1 - i]? = some v:=fun i v e=>by
    have z:=hacc.2 i v e
    rwa [List.size_toArray]at z
   by_cases hlt:i < its.length
   ·have hia:i < acc'.size:=by omega
    have e1:=hi i acc'[i] (Array.getElem?_eq_getElem hia)
    rw[List.getElem?_reverse hlt,Array.getElem?_toList,Array.getElem?_eq_getElem hia,<- e1]
    simp
   ·rw[List.getElem?_eq_none (by rw[Array.length_toList]; omega),List.getElem?_eq_none (by rw[List.length_reverse]; omega)]
  have rr:a5s xs.reverse its.reverse:=rv.reverse
  refine⟨.ref _,_,?_,rfl,q _ _ (.mk' I2.fresh)⟩
  refine I1.turnedN (s:=s1) (fp:=[s1.heap.objs.size]) (t':=tk) (fun b o hb e=>hk b o (fun z=>hb (by simp[z])) (Heap.get?_push_of_some _ e)) (fun b hb=>?_) ?_ ⟨by rw[List.length_reverse]; exact hz,its.reverse,c',rr,?_⟩
  ·have e:b=s1.heap.objs.size:=by simpa using hb
   subst e
   exact I1.fpOk (Nat.le_refl _) I1.fresh
  ·exact Nat.le_trans (Nat.le_succ _) (Nat.le_of_eq (Heap.size_push _ _).symm)
  ·have e:acc'=its.reverse.toArray:=by rw[<- hacc2]
   rw[<- e]
   exact hS
def g8z(lo c:Int)(n:Nat):It:=⟨fun i _=>i < n,fun i H x H'=>H'=H/\x=.int (lo+i*c),fun i _=>n<=i⟩
theorem e1z{P:Program}{w:World}{K:W.Frag}{tg:Expr}(it:Addr)(lo c:Int)(n:Nat):g0k P w K tg (g8z lo c n) [it] it (fun i h=>IsRangeIter h it (lo+(i:Nat)*c) ((n:Int) - (i:Nat)) c) where
 mem:=by simp
 obj:=fun i h st b hb=>by
  have e:b=it:=by simpa using hb
  subst e
  exact⟨_,st,fun v z=>by
   have z':Data.fields _=Data.cell v:=z
   cases z'⟩
 keep:=fun i h h' st k=>k it (by simp) _ st
 item:=by
  intro X hP hw hK hc i pins s σ H E I hf st hg
  subst hP hw hK
  obtain⟨f0,f1,f2,f3,f4,f5⟩:=hf it (by simp)
  have W:=Walks.range (prog:=X.prog) (w:=X.w) (I.ok.hd hc) it lo c n
  refine W.item i s _ _ hg st fun v h' tk hv st' kk=>?_
  obtain⟨t,rfl⟩:=hv
  have I1:Inv X pins σ H { s with heap:=h',toks:=tk }:=I.turned (fun b o hb e=>kk b o (by simpa using hb) e) f0 f1 f3 f4 f5
  exact⟨_,rfl,f7x (s:={ s with heap:=h',toks:=tk }) (n := "range_iterator") st' rfl rfl (by decide) ⟨.int (lo+i*c),H,I1,⟨t,rfl⟩,⟨rfl,rfl⟩,st',fun b hb=>(hf b hb).1⟩⟩
 done:=by
  intro X hP hw hK hc i pins s σ H E I hf st hg
  subst hP hw hK
  obtain⟨f0,f1,f2,f3,f4,f5⟩:=hf it (by simp)
  exact wpAny_pyNext_range_end (I.ok.hd hc) st (by have:n<=i:=hg; omega) fun h' eb=>⟨rfl,I.turned (t':=s.toks) (fun b o hb e=>eb b o hb e) f0 f1 f3 f4 f5⟩
 self:=fun _ _ _ _ _ st h=>wpAny_pyIter_rangeiter st h
def g7s(ta:TA):TI:=fun σ H R=>ta σ H fun vs H1=>∃ (n c:Nat),vs=[.int 0,.int (n:Int),.int (c:Int)]/\n<=1000000000/\0 < c/\c<=1000000/\R (g8z 0 (c:Int) ((n+(c - 1)) / c)) H1
theorem g5j{n c:Nat}(hn:n<=1000000000)(h0:0 < c)(hc:c<=1000000):Builtin.Range.rangeSize 0 (n:Int) (c:Int)=(((n+(c - 1)) / c:Nat):Int)/\Builtin.Range.small 0 (n:Int) (c:Int)=true:=by
 have e:Builtin.Range.rangeSize 0 (n:Int) (c:Int)=(((n+(c - 1)) / c:Nat):Int):=by
  rw[rangeSize_pos (by omega) (by omega)]
  rw[Int.natCast_ediv]
  congr 1
  omega
 refine⟨e,?_⟩
 have hle:(n+(c - 1)) / c<=n+(c - 1):=Nat.div_le_self _ _
 have hmul:(((n+(c - 1)) / c:Nat):Int)*(c:Int)<=n+(c - 1):=by
  have:=Nat.div_mul_le_self (n+(c - 1)) c
  rw[<- Int.natCast_mul]
  omega
 unfold Builtin.Range.small
 rw[e]
 generalize (n+(c - 1)) / c=k at hle hmul ⊢
 simp only [Builtin.Range.rangeFitsLong,Bool.and_eq_true,Bool.or_eq_true,decide_eq_true_eq,beq_iff_eq]
 refine⟨by omega,Or.inr ?_⟩
 rw[if_pos (by omega)]
 simp only [Bool.and_eq_true,decide_eq_true_eq]
 omega
section
variable {X:Cx}{tg:Expr}
theorem f0j {a b d:Expr} {ta:TA} {p pos:Pos} (hg:Gl X "range") (hm:X.mg "range" = none) (ha:PA X [a,b,d] ta) (hs:starEach [a,b,d] X.env=(false,eval a X.env) :: starEach [b,d] X.env:=by rfl) (hpl:(backTo pos (starEach [b,d] X.env)).any (·.1)=false:=by rfl) :
 PI X tg (.Call (.Name "range" p) [a,b,d] [] pos) (g7s ta):=by
 intro pins s σ H R I h
 refine Call_ (c2y I hg hm boot_range (PyProof.Rows.callWith_type1 (thn (ha pos pins s σ H _ I h) fun us s1 ⟨vs,H1,I1,r1,q1⟩=>?_) hs hpl))
 obtain⟨n,c,e,q1,q2,q3,q⟩:=q1
 subst e
 cases r1 with
 | cons r rr =>
  cases rr with
  | cons r' rr =>
   cases rr with
   | cons r'' rr =>
    cases rr
    obtain⟨t,rfl⟩:=r
    obtain⟨t',rfl⟩:=r'
    obtain⟨t'',rfl⟩:=r''
    obtain⟨e,sm⟩:=g5j q1 q2 q3
    refine call_range_3 (by omega) ?_ (Or.inl (PyProof.noPylong_small (by omega)))
    refine wpAny_pyIter_range (IsRange.new ..) sm ?_
    have I2:Inv X pins σ H1 { s1 with heap:=s1.heap.push { cls:=.type "range",data:=.fields #[.int 0 t,.int n t',.int c t''] },toks:=s1.toks }:=I1.kept fun b o e=>Heap.get?_push_of_some _ e
    refine⟨_,[_],_,_,H1,rfl,I2.kept (t':=s1.toks) fun b o e=>Heap.get?_push_of_some _ e,e1z _ 0 (c:Int) ((n+(c - 1)) / c),?_,fun b hb=>?_,q⟩
    ·show IsRangeIter _ _ (0+((0:Nat):Int)*_) ((((n+(c - 1)) / c:Nat):Int) - ((0:Nat):Int)) _
     have e1:(0:Int)+((0:Nat):Int)*(c:Int)=0:=by simp
     have e2:((((n+(c - 1)) / c:Nat):Int) - ((0:Nat):Int))=Builtin.Range.rangeSize 0 (n:Int) (c:Int):=by rw[e]; simp
     rw[e1,e2]
     exact Heap.get?_push_size _ rfl
    ·have e:=List.mem_singleton.mp hb
     subst e
     exact I2.fpOk (Nat.le_refl _) (I2.hok.fresh (Nat.le_refl _))
theorem c2b{K:W.Frag}{a:Addr}{xs:List V}{g:TG}{tb:TS}{D:f4z}{σ:St}{H:Hp}(Pv:Nat->St->Hp->Prop)(h0:Pv 0 σ H)(hl : ∀ i σ H,i<=xs.length->Pv i σ H->SqL K H a xs)
 (hs : ∀ i x p σ H H',xs[i]? = some x->Pv i σ H->Gro H p (.tup [.int (i:Int),x]) H'->g (.ref p) σ H' fun σ2 H2=>tb { D with nx:=Pv (i+1),ct:=Pv (i+1),bk:=D.nx } σ2 H2) (hd : ∀ σ H,Pv xs.length σ H->D.nx σ H) :
 ∃ W:Nat->Nat->St->Hp->Prop,(∃ m,W 0 m σ H)/\∀ i m σ H,W i m σ H ->
  ((Ite K a).stop i H/\D.nx σ H)\/((Ite K a).go i H/\∃ N:St->Hp->Prop,(∀ σ' H',N σ' H'->∃ m',m' < m/\W (i+1) m' σ' H')/\∀ x H',(Ite K a).yld i H x H'->g x σ H' fun σ2 H2=>tb { D with nx:=N,ct:=N,bk:=D.nx } σ2 H2):=by
 refine⟨fun i m σ H=>m=xs.length - i/\i<=xs.length/\Pv i σ H,⟨xs.length,by simp,Nat.zero_le _,h0⟩,?_⟩
 rintro i m σ H ⟨rfl,hi,p⟩
 have q:=hl i σ H hi p
 by_cases hlt:i < xs.length
 ·refine .inr ⟨⟨xs,xs[i],q,by simp[hlt]⟩,Pv (i+1),fun σ' H' p'=>⟨xs.length - (i+1),by omega,rfl,hlt,p'⟩,fun x H' y=>?_⟩
  obtain⟨pp,v,rfl,y,gr⟩:=y
  exact hs i v pp σ H H' (y xs q) p gr
 ·have e:i=xs.length:=by omega
  subst e
  exact .inl ⟨⟨xs,q,Nat.le_refl _⟩,hd σ H p⟩
end
def h1h(K:W.Frag):List V->Hp->VK->Prop:=fun xs H Q=>match xs with
 | [.ref p]=>∃ ns:List Int,SqL K H p (ns.map V.int)/\Q (.int ns.sum) H
 | _=>False
theorem d0h(ns:List Int) : ∀ k,k<=ns.length->preSum (fun i=>(ns[i]?).getD 0) k=(ns.take k).sum
 | 0,_=>by simp[preSum]
 | k+1,h=>by
  have hk:k < ns.length:=by omega
  rw[preSum,d0h ns k (by omega),<- List.take_append_getElem hk,List.sum_append]
  simp[List.getElem?_eq_getElem hk]
theorem h1r {X:Cx} (hc:X.calm=true):b4i X (.builtin "sum") (h1h X.K):=by
 intro pins s σ H xs us Q I r q
 unfold h1h at q
 split at q
 ·rename_i p
  obtain⟨ns,hq,q⟩:=q
  obtain⟨u,rfl,rx⟩:=e6k r
  cases rx
  obtain⟨its,rv,pl,_⟩:=I.list hq
  have hl:=rv.length
  rw[List.length_map]at hl
  have hlt:p < s.heap.objs.size:=by
   obtain⟨o,n,e,_⟩:=pl
   exact Heap.lt_size e
  have hne:p≠s.heap.objs.size:=Nat.ne_of_lt hlt
  refine call_sum_walkG (wpAny_pyIter_list pl.isList ⟨s.heap.objs.size,_,_,_,_,_,fun i=>(ns[i]?).getD 0,rfl,Walks.list (A:=X.A.in1) (show X.A.in1.handled=none from I.ok.hd hc) s.heap.objs.size p hne its.toArray,⟨⟨_,Heap.get?_push_size _ rfl,rfl,rfl⟩,?_⟩,fun b hb=>?_,fun i v hv=>?_,fun h' tk t' k=>?_⟩)
  ·exact pl.isList.at fun o e=>Heap.get?_push_of_some _ e
  ·have hb':b=s.heap.objs.size\/b=p:=by simpa using hb
   show b < (s.heap.push _).objs.size
   rw[Heap.size_push]
   rcases hb' with z | z
   ·rw[z]; exact Nat.lt_succ_self _
   ·rw[z]; exact Nat.lt_succ_of_lt hlt
  ·have hi:i < its.length:=by
    have:=(Array.getElem?_eq_some_iff.mp hv).1
    simpa using this
   have hb:i < ns.length:=by omega
   obtain⟨u,hu,ru⟩:=rv.get (i:=i) (x:=V.int ns[i]) (by simp[hb])
   have e:its.toArray[i]? = some u:=by simpa using hu
   rw[e]at hv
   cases hv
   obtain⟨t,rfl⟩:=ru
   exact⟨t,by simp[hb]⟩
  ·refine⟨.int ns.sum,H,I.kept (h':=h') (t':=tk) fun b o e=>k b o (fun z=>?_) (Heap.get?_push_of_some _ e),⟨t',?_⟩,q⟩
   ·have e':b=s.heap.objs.size:=by simpa using z
    exact absurd (Heap.lt_size e) (by rw[e']; exact Nat.lt_irrefl _)
   ·rw[List.size_toArray,<- hl,d0h ns _ (Nat.le_refl _),List.take_length]
 ·exact q.elim
def h6n(i j:Int):Prop:=0<=j/\(Builtin.Int.intBits i:Int)+j<=2 ^ 27
theorem f9y{X:Cx}:OpR X (binaryOp .LShift) (gI h6n fun i j=>.int (i*2 ^ j.toNat)):=g3k (opI fun _ _ _ _ _ _ _ hc q=>lshift_int hc.1 hc.2 q)
def g8e:V->List V->Hp->VK->Prop:=fun x vs H Q=>match x,vs with
 | .int i,[]=>Q (.int (Builtin.Int.intBits i)) H
 | _,_=>False
theorem g2n {X:Cx}:MtR X "int.bit_length" g8e:=by
 intro pins s σ H x vs v us Q I rx rs q
 unfold g8e at q
 split at q
 ·obtain⟨t,rfl⟩:=rx
  cases rs
  exact call_int_bit_length ⟨.int _,H,I.tok _,⟨_,rfl⟩,q⟩
 ·exact q.elim
def Itz(K:W.Frag)(a b:Addr):It :=
 ⟨fun i H=>∃ xs ys x y,SqL K H a xs/\xs[i]? = some x/\SqL K H b ys/\ys[i]? = some y,fun i H x H'=>∃ p v u,x=.ref p/\(∀ xs,SqL K H a xs->xs[i]? = some v)/\(∀ ys,SqL K H b ys->ys[i]? = some u)/\Gro H p (.tup [v,u]) H',fun i H=>∃ xs ys,SqL K H a xs/\SqL K H b ys/\(xs.length<=i\/ys.length<=i)⟩
theorem f5p{P:Program}{w:World}{K:W.Frag}{es:List Expr}{kk:Nat}{pp:Pos}(a b z TI TO i1 i2:Addr)(D:ZipApart z TI TO i1 i2 a b) :
 g0k P w K (.Tuple es kk pp) (Itz K a b) [z,TI,TO,i1,i2] z (fun i h=>IsZip h z TI TO .none/\IsPair h TI (.ref i1) (.ref i2)/\(∃ a b,IsPair h TO a b)/\h.IsListIter i1 a i/\h.IsListIter i2 b i) where
 mem:=by simp
 obj:=fun i h st c hc=>by
  obtain⟨h1,h2,⟨u,v,h3⟩,⟨o4,e4,c4,d4⟩,o5,e5,c5,d5⟩:=st
  have hc':c=z\/c=TI\/c=TO\/c=i1\/c=i2:=by simpa using hc
  rcases hc' with rfl | rfl | rfl | rfl | rfl
  ·exact⟨_,h1,fun v z=>by cases (show Data.fields _=Data.cell v from z)⟩
  ·exact⟨_,h2,fun v z=>by cases (show Data.seq _ _=Data.cell v from z)⟩
  ·exact⟨_,h3,fun v z=>by cases (show Data.seq _ _=Data.cell v from z)⟩
  ·exact⟨o4,e4,fun v z=>by rw[d4]at z; cases z⟩
  ·exact⟨o5,e5,fun v z=>by rw[d5]at z; cases z⟩
 keep:=fun i h h' st k=>by
  obtain⟨h1,h2,⟨u,v,h3⟩,h4,h5⟩:=st
  exact⟨k z (by simp) _ h1,k TI (by simp) _ h2,⟨u,v,k TO (by simp) _ h3⟩,h4.at fun o x=>k i1 (by simp) o x,h5.at fun o x=>k i2 (by simp) o x⟩
 item:=by
  intro X hP hw hK hc i pins s σ H E I hf st hg
  subst hP hw hK
  obtain⟨h1,h2,⟨u,v,h3⟩,h4,h5⟩:=st
  obtain⟨xs,ys,x,y,hq,hx,hq2,hy⟩:=hg
  obtain⟨its,rv,p,hz⟩:=I.list hq
  obtain⟨its2,rv2,p2,hz2⟩:=I.list hq2
  obtain⟨ux,hu,ru⟩:=rv.get hx
  obtain⟨uy,hu2,ru2⟩:=rv2.get hy
  have lz:z < s.heap.objs.size:=Heap.lt_size h1
  have lTI:TI < s.heap.objs.size:=Heap.lt_size h2
  have lTO:TO < s.heap.objs.size:=Heap.lt_size h3
  have l1:i1 < s.heap.objs.size:=by obtain⟨_,e,_⟩:=h4; exact Heap.lt_size e
  have l2:i2 < s.heap.objs.size:=by obtain⟨_,e,_⟩:=h5; exact Heap.lt_size e
  refine wpAny_pyNext_zip_item D h1 h2 h3 h4 h5 p.isList p2.isList (x:=ux) (y:=uy) (by simpa using hu) (by simpa using hu2) fun h' a1 a2 a3 a4 a5 a6 hk=>?_
  refine⟨_,rfl,wpAny_letOwnedTupleGo_zip (s:={ s with heap:=h' }) a1 fun h'' hz' hs'=>?_⟩
  have kk : ∀ c o,c∉[z,TI,TO,i1,i2]->s.heap.get? c=some o->h''.get? c=some o:=fun c o hb e=>by
   have n1:c≠z:=fun w=>hb (by simp[w])
   exact (hs'.2 c n1).trans (hk c o n1 (fun w=>hb (by simp[w])) (fun w=>hb (by simp[w])) (fun w=>hb (by simp[w])) e)
  have hT2:h''.get? s.heap.objs.size=some { cls:=.type "tuple",data:=.seq #[ux,uy] }:=(hs'.2 _ (Nat.ne_of_gt lz)).trans a5
  have I2:Inv X pins σ (upd H s.heap.objs.size (.tup [x,y])) { s with heap:=h'' } :=
   I.turnedN (t':=s.toks) (fp:=[z,TI,TO,i1,i2]) kk hf (Nat.le_refl _) (f9l ⟨_,hT2,rfl,_,rfl⟩ ru ru2)
  refine⟨.ref s.heap.objs.size,_,I2,rfl,⟨_,x,y,rfl,fun ys hy=>by rw[I.list_inj hy hq]; exact hx,fun zs hz=>by rw[I.list_inj hz hq2]; exact hy,.mk' I.fresh⟩,
   ⟨hz',(hs'.2 _ D.TIz).trans (hk _ _ D.TIz D.TITO D.TIi1 D.TIi2 h2),⟨_,_,(hs'.2 _ D.TOz).trans a2⟩,a3.at fun o e=>(hs'.2 _ D.i1z).trans e,a4.at fun o e=>(hs'.2 _ D.i2z).trans e⟩,fun c hc=>?_⟩
  have hc':c=z\/c=TI\/c=TO\/c=i1\/c=i2:=by simpa using hc
  have lc:c < s.heap.objs.size:=by rcases hc' with w | w | w | w | w <;> rw[w] <;> assumption
  rw[a1c (Nat.ne_of_lt lc)]
  exact (hf c hc).1
 done:=by
  intro X hP hw hK hc i pins s σ H E I hf st hg
  subst hP hw hK
  obtain⟨h1,h2,⟨u,v,h3⟩,h4,h5⟩:=st
  obtain⟨xs,ys,hq,hq2,hx⟩:=hg
  obtain⟨its,rv,p,hz⟩:=I.list hq
  obtain⟨its2,rv2,p2,hz2⟩:=I.list hq2
  have hl:=rv.length
  have hl2:=rv2.length
  refine wpAny_pyNext_zip_end (I.ok.hd hc) D h1 h2 h3 h4 h5 p.isList p2.isList (by rcases hx with w | w; exact .inl (by simp; omega); exact .inr (by simp; omega)) fun h' hk=>⟨rfl,I.turnedL (t':=s.toks) (fp:=[z,TI,TO,i1,i2]) (fun c o hb e=>hk c o (fun w=>hb (by simp[w])) (fun w=>hb (by simp[w])) (fun w=>hb (by simp[w])) (fun w=>hb (by simp[w])) e) hf⟩
 self:=fun _ _ _ _ _ st h=>wpAny_pyIter_zip st.1 h
def h3h(K:W.Frag)(ta:TA):TI:=fun σ H R=>ta σ H fun vs H1=>∃ a b xs ys,vs=[.ref a,.ref b]/\SqL K H1 a xs/\SqL K H1 b ys/\R (Itz K a b) H1
theorem e8w(I l1 l2:Nat)(h1:l1 < I)(h2:l2 < I):ZipApart (I+4) (I+2) (I+3) I (I+1) l1 l2:=W.ktu_apart I l1 l2 h1 h2
theorem g5z {X:Cx} {es:List Expr} {kk:Nat} {pp:Pos} {a b:Expr} {ta:TA} {p pos:Pos} (hg:Gl X "zip") (hm:X.mg "zip" = none) (ha:PA X [a,b] ta) (hs:starEach [a,b] X.env=(false,eval a X.env) :: starEach [b] X.env:=by rfl) (hpl:(backTo pos (starEach [b] X.env)).any (·.1)=false:=by rfl) :
 PI X (.Tuple es kk pp) (.Call (.Name "zip" p) [a,b] [] pos) (h3h X.K ta):=by
 intro pins s σ H R I h
 refine Call_ (c2y I hg hm boot_zip (PyProof.Rows.callWith_type1 (thn (ha pos pins s σ H _ I h) fun us s1 ⟨vs,H1,I1,r1,q1⟩=>?_) hs hpl))
 obtain⟨l1,l2,xs,ys,e,hq,hq2,q⟩:=q1
 subst e
 cases r1 with
 | cons r rr =>
  cases rr with
  | cons r' rr =>
   cases rr
   cases r
   cases r'
   obtain⟨its,rv,pl,hz⟩:=I1.list hq
   obtain⟨its2,rv2,pl2,hz2⟩:=I1.list hq2
   have ll1:l1 < s1.heap.objs.size:=by obtain⟨o,_,e,_⟩:=pl; exact Heap.lt_size e
   have ll2:l2 < s1.heap.objs.size:=by obtain⟨o,_,e,_⟩:=pl2; exact Heap.lt_size e
   have D:ZipApart (s1.heap.objs.size+4) (s1.heap.objs.size+2) (s1.heap.objs.size+3) s1.heap.objs.size (s1.heap.objs.size+1) l1 l2:=e8w _ _ _ ll1 ll2
   refine call_zip_2 pl.isList pl2.isList fun h' hz hTI hTO hi1 hi2 hsz hk=>?_
   refine wpAny_pyIter_zip (s:={ s1 with heap:=h' }) hz ?_
   have I2:Inv X pins σ H1 { s1 with heap:=h' }:=I1.kept (t':=s1.toks) hk
   refine⟨s1.heap.objs.size+4,_,_,Itz X.K l1 l2,H1,rfl,I2,f5p l1 l2 _ _ _ _ _ D,⟨hz,hTI,⟨_,_,hTO⟩,hi1,hi2⟩,fun b hb=>?_,q⟩
   have hb':b=s1.heap.objs.size+4\/b=s1.heap.objs.size+2\/b=s1.heap.objs.size+3\/b=s1.heap.objs.size\/b=s1.heap.objs.size+1:=by simpa using hb
   have hle:s1.heap.objs.size<=b:=by rcases hb' with w | w | w | w | w <;> rw[w] <;> first | exact Nat.le_add_right _ _ | exact Nat.le_refl _
   exact I1.fpOk hle (I1.hok.fresh hle)
theorem f8r{K:W.Frag}{a b:Addr}{xs zs:List V}{cs:St}{tt:TT}{te:TE}{H:Hp}{Q:VK}(hlen:zs.length=xs.length)(Pv:Nat->List V->Hp->Prop)(h0:Pv 0 [] H)(hl : ∀ i ys H,i<=xs.length->Pv i ys H->SqL K H a xs/\SqL K H b zs/\ys.length<=i)(hz:xs.length<=sizeLine)
 (hs : ∀ i x z ys H H' (N:List V->Hp->Prop),xs[i]? = some x->zs[i]? = some z->Pv i ys H->a1l H H'->(∀ ys' H',Pv (i+1) ys' H'->N ys' H')->tt (some x :: some z :: cs) H' fun b H4=>if b=true then te (some x :: some z :: cs) H4 fun y H5=>N (ys++[y]) H5 else N ys H4)
 (hd : ∀ ys H p H',Pv xs.length ys H->Gro H p (.lst ys) H'->Q (.ref p) H') :
 e1l (Itz K a b) H (List.replicate 2 none++cs) (g8w K 2 (f8i (b5k 0) (f8i (b5k 1) h1i))) tt te Q:=by
 refine⟨fun i m ys σ H=>m=xs.length - i/\i<=xs.length/\Pv i ys H/\∃ v0 v1,σ=v0 :: v1 :: cs,⟨xs.length,by simp,Nat.zero_le _,h0,none,none,rfl⟩,?_⟩
 rintro i m ys σ H2 ⟨rfl,hi,p,v0,v1,rfl⟩
 obtain⟨q,q2,ql⟩:=hl i ys H2 hi p
 by_cases hlt:i < xs.length
 ·refine .inr ⟨⟨xs,zs,xs[i],zs[i]'(by omega),q,by simp[hlt],q2,by simp[hlen,hlt]⟩,by omega,fun ys' σ' H'=>Pv (i+1) ys' H'/\∃ v0 v1,σ'=v0 :: v1 :: cs,fun ys' σ' H' ⟨p',e⟩=>⟨xs.length - (i+1),by omega,rfl,hlt,p',e⟩,fun x H' y=>?_⟩
  obtain⟨pp,v,u,rfl,y,y2,gr⟩:=y
  refine⟨pp,_,rfl,gr.tup,rfl,_,_,rfl,_,_,rfl,rfl,?_⟩
  exact hs i v u ys H2 H' (fun ys' H'=>Pv (i+1) ys' H'/\∃ v0 v1,some v :: some u :: cs=v0 :: v1 :: cs) (y xs q) (y2 zs q2) p gr.sm fun _ _ z=>⟨z,_,_,rfl⟩
 ·have e:i=xs.length:=by omega
  subst e
  exact .inl ⟨⟨xs,zs,q,q2,.inl (Nat.le_refl _)⟩,by omega,fun p' H' g=>hd ys H2 p' H' p g⟩
section
variable {X:Cx}{K:W.Frag}{a b c e o:Expr}{es c2u:List Expr}{pos p p2 pos2:Pos}{t:TA}{kk:Nat}
theorem g0g (h:X.K=K) (hc:X.calm=true):b4i X (.builtin "sum") (h1h K):=by subst h; exact h1r hc
theorem f0c (h:X.K=K) (hc:X.calm=true) (hm1:X.mg "list" = none) (hm2:X.mg "reversed" = none) (ha:QA X [a] t) (hg1:Gl X "list":=by rfl) (hg2:Gl X "reversed":=by rfl) (hs:b0z a=false:=by rfl) :
 QE X (.Call (.Name "list" p) [.Call (.Name "reversed" p2) [a] [] pos2] [] pos) (h2j K t):=by subst h; exact⟨g6x hc hg1 hm1 hg2 hm2 ha.h (a2h hs) (a2h rfl)⟩
theorem b4t (h:X.K=K) (hg:Gl X "enumerate") (hm:X.mg "enumerate" = none) (ha:QA X [a] t) (hs:b0z a=false:=by rfl):QI X (.Tuple es kk p2) (.Call (.Name "enumerate" p) [a] [] pos) (g7v K t):=by subst h; exact⟨g1x hg hm ha.h (a2h hs)⟩
theorem e9z (h:X.K=K) (hg:Gl X "zip") (hm:X.mg "zip" = none) (ha:QA X [a,b] t) (hs:b0z a=false:=by rfl) (hs2:b0z b=false:=by rfl):QI X (.Tuple es kk p2) (.Call (.Name "zip" p) [a,b] [] pos) (h3h K t):=by
 subst h
 exact⟨g5z hg hm ha.h (a2h hs) (by rw[a2h hs2]; rfl)⟩
theorem e2l {tg:Expr} (hg:Gl X "range") (hm:X.mg "range" = none) (ha:QA X [a,b,c] t) (hs:b0z a=false:=by rfl) (hs2:b0z b=false:=by rfl) (hs3:b0z c=false:=by rfl):QI X tg (.Call (.Name "range" p) [a,b,c] [] pos) (g7s t) :=
 ⟨f0j hg hm ha.h (a2h hs) (by rw[a2h hs2,a2h hs3]; rfl)⟩
end
def a4i:List Int->List Value->Bool
 | [],[]=>true
 | n :: r,.int m _ :: u=>n == m && a4i r u
 | _,_=>false
theorem a4i.vals : ∀ {ns:List Int} {us:List Value},a4i ns us=true->a5s (ns.map V.int) us
 | [],[],_=>.nil
 | n :: r,.int m _ :: u,h=>by
  have h':(n == m && a4i r u)=true:=h
  rw[Bool.and_eq_true,beq_iff_eq]at h'
  obtain⟨rfl,h2⟩:=h'
  exact .cons ⟨_,rfl⟩ (a4i.vals h2)
theorem d8y {K:W.Frag} {a:Addr} {od:Option Addr} {its:Array Value} {n:Nat} {sl:Array (Option Value)} {ns:List Int} (h:K.lookup a=some ⟨.type "tuple",od,.seq its n,sl⟩) (hv:a4i ns its.toList=true) (hz:its.size<=1000:=by decide) (H:Hp):SqT K H a (ns.map V.int) :=
 .inr ⟨_,its,n,h,rfl,rfl,sz (Nat.ble_eq_true_of_le hz),a4i.vals hv⟩
theorem Gro.after{H H1 H2:Hp}{p:Addr}{o:HO}(s:a1l H H1)(g:Gro H1 p o H2):Gro H p o H2:=⟨s.free g.nw,s.trans g.sm,g.at_⟩
def tog(b:Nat)(ps:List Int):Int:=ps.foldl (fun a p=>a*2 ^ b+p) 0
theorem d5v(b:Nat) : ∀ (ps:List Int) (a:Int),ps.foldl (fun a p=>a*2 ^ b+p) a=a*2 ^ (b*ps.length)+tog b ps
 | [],a=>by simp[tog]
 | p :: r,a=>by
  unfold tog
  rw[List.foldl_cons,List.foldl_cons,d5v b r,d5v b r,List.length_cons,Nat.mul_succ,Int.pow_add]
  generalize (2:Int) ^ (b*r.length)=X
  generalize (2:Int) ^ b=Y
  rw[Int.add_mul,Int.add_mul,Int.mul_assoc,Int.mul_comm Y X]
  omega
theorem d4r(b:Nat)(ps qs:List Int):tog b (ps++qs)=tog b ps*2 ^ (b*qs.length)+tog b qs:=by
 conv=>lhs; unfold tog
 rw[List.foldl_append,d5v b qs]
 rfl
theorem f5q(b:Nat)(ps:List Int)(p:Int):tog b (ps++[p])=tog b ps*2 ^ b+p:=by
 rw[d4r]
 simp[tog]
theorem d5u(k:Nat):(0:Int) < 2 ^ k:=Int.pow_pos (by decide)
theorem g4m{b:Nat} : ∀ {ps:List Int},(∀ p∈ps,0<=p/\p < 2 ^ b)->0<=tog b ps/\tog b ps < 2 ^ (b*ps.length):=by
 intro ps h
 induction ps with
 | nil=>simp[tog]
 | cons p r ih =>
  have h1:=h p (.head _)
  have h2:=ih fun q hq=>h q (.tail _ hq)
  have e:tog b (p :: r)=p*2 ^ (b*r.length)+tog b r:=by
   have:=d4r b [p] r
   simpa [tog] using this
  rw[e,List.length_cons,Nat.mul_succ,Int.pow_add]
  have hp:=d5u (b*r.length)
  generalize (2:Int) ^ (b*r.length)=X at *
  generalize (2:Int) ^ b=Y at *
  have m1:0<=p*X:=Int.mul_nonneg h1.1 (Int.le_of_lt hp)
  have m2:p*X+X<=X*Y:=by
   have:(p+1)*X<=Y*X:=Int.mul_le_mul_of_nonneg_right (by omega) (Int.le_of_lt hp)
   rw[Int.add_mul,Int.one_mul]at this
   rw[Int.mul_comm X Y]
   exact this
  omega
def e2o(b many:Nat)(n:Int):List Int:=(List.range many).map fun i=>n / 2 ^ (b*(many - 1 - i))%2 ^ b
theorem f6n(b many:Nat)(n:Int):(e2o b many n).length=many:=by simp[e2o]
theorem f6m(b many:Nat)(n:Int):((List.range many).map fun i=>n / 2 ^ (b*i)%2 ^ b).reverse=e2o b many n:=by
 refine List.ext_getElem? fun i=>?_
 by_cases h:i < many
 ·rw[List.getElem?_reverse (by simpa using h)]
  simp[e2o,h,show many - 1 - i < many by omega]
 ·rw[List.getElem?_eq_none (by simp; omega),List.getElem?_eq_none (by simp[e2o]; omega)]
theorem f8o(n:Int)(b j:Nat):n / 2 ^ (b*j) / 2 ^ b=n / 2 ^ (b*(j+1)):=by
 rw[Int.ediv_ediv_of_nonneg (Int.le_of_lt (d5u _)),<- Int.pow_add,Nat.mul_succ]
theorem f7h(x:Int)(b:Nat):x - x / 2 ^ b*2 ^ b=x%2 ^ b:=by
 rw[Int.emod_def,Int.mul_comm]
abbrev b5u(r:List Int):Prop:=∀ p∈r,0<=p/\p < 256
theorem a5w{α:Type}{rs:List α}{i:Nat}{y:α}(h:rs[i]? = some y):rs.take (i+1)=rs.take i++[y]:=by rw[List.take_add_one,h]; rfl
theorem e7n{α β:Type}{xs:List α}{rs:List β}{i:Nat}{x:α}(hl:rs.length=xs.length)(h:xs[i]? = some x) : ∃ y,rs[i]? = some y:=by
 have:=(List.getElem?_eq_some_iff.mp h).1
 exact⟨rs[i]'(by omega),by simp⟩
theorem c4e{K:W.Frag}{a:Addr}{xs:List V}{cs:St}{te:TE}{H:Hp}{Q:VK}(rs:List V)(hl:rs.length=xs.length)(hq:SqL K H a xs)(hz:xs.length<=sizeLine)
 (hs : ∀ (i:Nat) x y H' (N:VK),xs[i]? = some x->rs[i]? = some y->a1l H H'->(∀ H'',a1l H' H''->N y H'')->te (some x :: cs) H' N) (hd : ∀ p H',Gro H p (.lst rs) H'->Q (.ref p) H') :
 e1l (Itl K a) H (List.replicate 1 none++cs) (b5k 0) c9y te Q:=by
 refine c1e (fun i ys H'=>a1l H H'/\ys=rs.take i) ⟨a1l.refl _,rfl⟩ (fun i ys H' hi z=>⟨z.1.seq hq,by rw[z.2,List.length_take]; omega⟩) hz (fun i x ys H' N hx z hN=>?_) fun ys H' p H'' z g=>?_
 ·obtain⟨s,rfl⟩:=z
  obtain⟨y,hy⟩:=e7n hl hx
  simp only [c9y,if_true]
  exact hs i x y H' _ hx hy s fun H'' s'=>hN _ _ ⟨s.trans s',by rw[a5w hy]⟩
 ·obtain⟨s,rfl⟩:=z
  rw[<- hl,List.take_length]at g
  exact hd p H'' (g.after s)
theorem c9t{lo:Int}{n:Nat}{cs:St}{te:TE}{H:Hp}{Q:VK}(rs:List V)(hl:rs.length=n)(hz:n<=sizeLine)
 (hs : ∀ (i:Nat) y H' (N:VK),i < n->rs[i]? = some y->a1l H H'->(∀ H'',a1l H' H''->N y H'')->te (some (.int (lo+(i:Int))) :: cs) H' N) (hd : ∀ p H',Gro H p (.lst rs) H'->Q (.ref p) H') :
 e1l (Itr lo n) H (List.replicate 1 none++cs) (b5k 0) c9y te Q:=by
 refine e7z (fun i ys H'=>a1l H H'/\ys=rs.take i) ⟨a1l.refl _,rfl⟩ (fun i ys H' hi z=>by rw[z.2,List.length_take]; omega) hz (fun i ys H' N hi z hN=>?_) fun ys H' p H'' z g=>?_
 ·obtain⟨s,rfl⟩:=z
  have hy:rs[i]? = some (rs[i]'(by omega)):=by simp
  simp only [c9y,if_true]
  exact hs i (rs[i]'(by omega)) H' _ hi hy s fun H'' s'=>hN _ _ ⟨s.trans s',by rw[a5w hy]⟩
 ·obtain⟨s,rfl⟩:=z
  rw[<- hl,List.take_length]at g
  exact hd p H'' (g.after s)
theorem a6p{ns:List Int}{i:Nat}{x:V}(h:(ns.map V.int)[i]? = some x) : ∃ p,ns[i]? = some p/\x=.int p:=by
 rw[List.getElem?_map]at h
 cases e:ns[i]? with
 | none=>rw[e]at h; cases h
 | some p=>rw[e]at h; cases h; exact⟨p,rfl,rfl⟩
theorem f8q{α:Type}(xs:List α)(lo hi:Option Int):(e5q xs lo hi).length<=xs.length:=by
 unfold e5q
 rw[List.length_take,List.length_drop]
 omega
theorem e5p{α:Type}{xs:List α}{lo hi:Option Int}{x:α}(h:x∈e5q xs lo hi):x∈xs:=List.mem_of_mem_drop (List.mem_of_mem_take h)
theorem b0u{t u:TS}{D:f4z}{σ:St}{H:Hp}(M:St->Hp->Prop)(h1 : ∀ nx:St->Hp->Prop,(∀ σ' H',M σ' H'->nx σ' H')->t { D with nx:=nx } σ H)(h2 : ∀ σ' H',M σ' H'->u D σ' H'):g9g t u D σ H:=h1 (u D) h2
structure c4v (P:Program) (w:World) (K:W.Frag) (mg:Str->Option Value) (base:Heap) (C:Addr) (m:Str) (k:Nat) (f:Addr) (fd:FuncData) (ps:List Str) (sp:Sp):Prop where
 c:Cls K C
 mt:b3d K C m f
 b:a1h K fd ps []
 ok:b8g P w K mg base CX0 k f fd ps sp
structure h6r (P:Program) (w:World) (K:W.Frag) (mg:Str->Option Value) (base:Heap) (x:Str) (C:Addr) (k:Nat) (f:Addr) (fd:FuncData) (ps:List Str) (sp:Sp):Prop where
 g:mg x=some (.ref C)
 mkx:Mk K C f
 b:a1h K fd ps []
 ok:b8g P w K mg base CX0 k f fd ps sp
section
variable {X:Cx}{K:W.Frag}{k j:Nat}{f C:Addr}{fd:FuncData}{ps:List Str}{sp:Sp}{x m:Str}{p pos apos pos':Pos}{e o value:Expr}{es:List Expr}{ta tv:TE}{t:TA}
theorem d6g{X:Cx}:c8y CX0 X E0:=fun _ _ _ _ _ _ _ z=>z.elim
theorem a4f{pl:Sem Bool}(F:c4v X.prog X.w X.K X.mg X.base C m j f fd ps sp)(hr:c2r k X.A)(ho:QE X o ta)(ha:QA X (e :: es) t)(hj:j<=k:=by decide)(hn:b0x (e :: es)=true:=by rfl)
 (ht:eval (.Call (.Attribute o m apos) (e :: es) [] pos) X.env=(do
   let ov <- eval o X.env
   standAt apos.atName
   let (f,first) <- holding [ov] (getMethod ov m pl)
   callWith pos f first (backTo pos (starEach (e :: es) X.env)) (backToKw pos (keywordEach [] X.env))):=by rfl) :
 QE X (.Call (.Attribute o m apos) (e :: es) [] pos) (e9c C m sp [] E0 ta t) :=
 ⟨f0m (pl:=pl) ho.h F.c F.mt F.ok (hr.mono hj) F.b .nil d6g ha.h (a2h (a2j hn).1) (a9f (a2j hn).2) ht⟩
theorem a2l{pl:Sem Bool}(F:c4v X.prog X.w X.K X.mg X.base C m j f fd ps sp)(hr:c2r k X.A)(ho:QE X o ta)(hj:j<=k:=by decide)
 (ht:eval (.Call (.Attribute o m apos) [] [] pos) X.env=(do
   let ov <- eval o X.env
   standAt apos.atName
   let (f,first) <- holding [ov] (getMethod ov m pl)
   callWith pos f first (backTo pos (starEach [] X.env)) (backToKw pos (keywordEach [] X.env))):=by rfl) :
 QE X (.Call (.Attribute o m apos) [] [] pos) (e9c C m sp [] E0 ta g0q) :=
 ⟨f6s (pl:=pl) ho.h F.c F.mt F.ok (hr.mono hj) F.b .nil d6g ht⟩
theorem a0z{f:Str}(h:X.K=K)(he:QE X e ta)(hb:attributeBase e f X.env (eval e X.env)=eval e X.env:=by rfl):QE X (.Attribute e f pos) (h2r K ta f):=by subst h; exact⟨g6d he.h hb⟩
theorem a1w{f:Str}(h:X.K=K)(ha:QE X o ta)(hv:QE X value tv)(hs:swapsWith value (some (.Attribute o f pos')) pos.line X.env=pure false:=by rfl):QS X (.Assign [.Attribute o f pos'] value pos) (h2x K ta tv f):=by subst h; exact⟨g5x ha.h hv.h hs⟩
end
structure Mk0 (K:W.Frag) (C:Addr):Prop where
 makes:W.makesIn K C=true
 init:W.findIn K (.ref C) "__init__" = some (some (.builtin "object.__init__"))
 kp:W.keepIn K (.ref C)=true
def h2o(C:Addr):TE:=fun _ H Q=>∀ x dx,H x=none->H dx=none->dx≠x->Q (.ref x) (upd (upd H dx (.own x)) x (.ins C dx []))
section
variable {X:Cx}{C:Addr}{x:Str}{p pos:Pos}
theorem g1g{pins:List (Addr × Obj)}{σ:St}{H:Hp}{s:Shared}{Q:VK}(M:Mk0 X.K C)(I:Inv X pins σ H s)(h:h2o C σ H Q) :
 wpAny (model X.prog X.w) X.A (call (.ref C) []) (EP X pins σ Q) X.xe s:=by
 have hq:=h (s.heap.objs.size+1) s.heap.objs.size (I.hok.fresh (Nat.le_succ _)) (I.hok.fresh (Nat.le_refl _)) (Nat.ne_of_lt (Nat.lt_succ_self _))
 have I2:=Inv.made (C:=C) I
 have Y:=W.makes_of (M:=model X.prog X.w) I.kIn M.makes
 refine wpAny_call (f1c I.kIn M.makes M.init (fun self=>W.Looks.of_pure (W.oi_bind self)) ?_)
 obtain⟨hh,g,d,t,os⟩:=s
 have e2:((hh.push W.emptyDict).push (W.instObj C hh.objs.size)).get? (hh.objs.size+1)=some (W.instObj C hh.objs.size):=by
  have:=Heap.get?_push_size (hh.push W.emptyDict) (o:=W.instObj C hh.objs.size) rfl
  rwa [Heap.size_push]at this
 have t1:W.Looks (model X.prog X.w) ((hh.push W.emptyDict).push (W.instObj C hh.objs.size)) (typeOf (.ref (hh.objs.size+1))) (.ref C):=(W.Looks.ld e2).andThen .now
 have t2:W.Looks (model X.prog X.w) ((hh.push W.emptyDict).push (W.instObj C hh.objs.size)) (isInstance (.ref (hh.objs.size+1)) (.type "object")) true :=
  t1.andThen (Y.top.keeps fun b o e=>Heap.get?_push_of_some _ (Heap.get?_push_of_some _ e))
 refine codeAny_call_builtin W.oi_plain W.entry_oi (@W.check_slot (model X.prog X.w) _ _ _ "object.__init__" "object" "__init__" (.ref (hh.objs.size+1)) [] [] _ W.oi_kind W.oi_split t2 (W.oi_args (.ref (hh.objs.size+1))) ?_)
 rw[W.oi_run]
 exact wpAny_pure (And.intro rfl ⟨V.ref (hh.objs.size+1),_,I2,rfl,hq⟩)
theorem f6g(M:Mk0 X.K C)(hm:X.mg x=some (.ref C))(hg:Gl X x:=by rfl)(hdb:(x == ("__debug__" : Str))=false:=by decide):QE X (.Call (.Name x p) [] [] pos) (h2o C):=⟨by
 intro pins s σ H Q I h
 refine wpAny_Call_Name_kw (d0s I hg hm ?_ hdb)
 exact W.callWith_K0 I.kIn M.kp (g1g M I h)⟩
end
structure c9n (K:W.Frag) (x qual:Str) (st:Stmt) (f:Addr) (fd:FuncData) (vs:List Value):Prop where
 ex : ∃ (oc:Value) (od:Option Addr) (kV doc pm:Value) (an:Option Addr) (cdv ct:Value) (osl:Array (Option Value)) (d:Addr) (dc:Value) (dd:Option Addr) (n:Nat) (dsl:Array (Option Value)),
  fd=W.fnOf x qual (a0t st) (a0s st) (a0f st) (.ref d) kV doc pm an cdv ct/\K.lookup f=some ⟨oc,od,.func fd,osl⟩/\W.codeIn K cdv qual=true/\K.lookup d=some ⟨dc,dd,.seq vs.toArray n,dsl⟩
 kp:W.keepIn K (.ref f)=true
section
variable {P:Program}{w:World}{K:W.Frag}{mg:Str->Option Value}{base:Heap}{x qual:Str}{st:Stmt}{f:Addr}{fd:FuncData}{N ps:List Str}{k:Nat}{sp:Sp}{vs:List Value}
theorem c9n.okQ(F:c9n K x qual st f fd vs)(S:a0u N ps (a0f st))(len : ∀ vs H Q E,sp vs H Q E->vs.length=ps.length)
 (hbody : ∀ (cdv:Value) (A:Around) (outer:List Env) (s:Shared) (H:Hp) (vs:List V) (Q:VK) (E:XK),c2r k (A.deeper (envOfC qual (a0f st) s.heap.objs.size f cdv))->sp vs H Q E ->
   ∃ t,QSs (g0e CX0 P w K mg base N qual (a0f st) f cdv A outer s H E).nox (a0s st) t/\t { nx:=fun _ H'=>Q .non H',rt:=Q } (d3t N vs) H):b8g P w K mg base CX0 (k+1) f fd ps sp:=by
 obtain⟨oc,od,kV,doc,pm,an,cdv,ct,osl,d,dc,dd,n,dsl,rfl,lk,hcd,_⟩:=F.ex
 refine g8f lk hcd S len fun A outer s H vs Q E hr hsp=>?_
 obtain⟨t,h,q⟩:=hbody cdv A outer s H vs Q E hr hsp
 exact⟨t,h.h.nox,q⟩
theorem a6c{oc dc:Value}{od an dd:Option Addr}{osl dsl:Array (Option Value)}{kV doc pm cdv ct:Value}{d:Addr}{n:Nat}(l:K.lookup f=some ⟨oc,od,.func (W.fnOf x qual (a0t st) (a0s st) (a0f st) (.ref d) kV doc pm an cdv ct),osl⟩)
 (c:W.codeIn K cdv qual=true) (k:W.keepIn K (.ref f)=true) (ld:K.lookup d=some ⟨dc,dd,.seq vs.toArray n,dsl⟩):c9n K x qual st f (W.fnOf x qual (a0t st) (a0s st) (a0f st) (.ref d) kV doc pm an cdv ct) vs :=
 ⟨⟨oc,od,kV,doc,pm,an,cdv,ct,osl,d,dc,dd,n,dsl,rfl,l,c,ld⟩,k⟩
theorem c9n.binds{ds:List Value}(F:c9n K x qual st f fd vs)
 (h : ∀ (d:Addr) (kV doc pm:Value) (an:Option Addr) (cdv ct:Value) (us:List Value),(us++ds).length=ps.length->∃ kk:Option (Array Value)->Sem (List (Str × Value)),
   bindArgs (W.fnOf x qual (a0t st) (a0s st) (a0f st) (.ref d) kV doc pm an cdv ct) ⟨us,[]⟩=seqItems? (.ref d) >>= kk/\kk (some vs.toArray)=pure (ps.zip (us++ds))):a1h K fd ps ds:=by
 obtain⟨oc,od,kV,doc,pm,an,cdv,ct,osl,d,dc,dd,n,dsl,rfl,lk,hcd,ld⟩:=F.ex
 intro s us KX hl
 obtain⟨kk,h1,h2⟩:=h d kV doc pm an cdv ct us hl
 exact BindsTo.of_defaults (T:=d) rfl (KX _ _ ld) rfl h1 h2
end
structure b7o (P:Program) (w:World) (K:W.Frag) (mg:Str->Option Value) (base:Heap) (C:Addr) (m:Str) (k:Nat) (f:Addr) (fd:FuncData) (ps:List Str) (dvs:List V) (sp:Sp):Prop where
 c:Cls K C
 mt:b3d K C m f
 b : ∃ ds,a1h K fd ps ds/\a5s dvs ds
 ok:b8g P w K mg base CX0 k f fd ps sp
section
variable {X:Cx}{k j:Nat}{f C:Addr}{fd:FuncData}{ps:List Str}{sp:Sp}{m:Str}{pos apos:Pos}{e o:Expr}{es:List Expr}{ta:TE}{t:TA}{dvs:List V}
theorem a2r{pl:Sem Bool}(F:b7o X.prog X.w X.K X.mg X.base C m j f fd ps dvs sp)(hr:c2r k X.A)(ho:QE X o ta)(ha:QA X (e :: es) t)(hj:j<=k:=by decide)(hn:b0x (e :: es)=true:=by rfl)
 (ht:eval (.Call (.Attribute o m apos) (e :: es) [] pos) X.env=(do
   let ov <- eval o X.env
   standAt apos.atName
   let (f,first) <- holding [ov] (getMethod ov m pl)
   callWith pos f first (backTo pos (starEach (e :: es) X.env)) (backToKw pos (keywordEach [] X.env))):=by rfl) :
 QE X (.Call (.Attribute o m apos) (e :: es) [] pos) (e9c C m sp dvs E0 ta t):=by
 obtain⟨ds,hb,hd⟩:=F.b
 exact⟨f0m (pl:=pl) ho.h F.c F.mt F.ok (hr.mono hj) hb hd d6g ha.h (a2h (a2j hn).1) (a9f (a2j hn).2) ht⟩
end
def c5u:List DictEntry->Option (List (Int × Addr))
 | []=>some []
 | ⟨h,.int k _,.ref a⟩ :: r=>if h == hashInt k then (match c5u r with | some l=>some ((k,a) :: l) | none=>none) else none
 | _=>none
theorem c5u.pairs{P:Program}{w:World} : ∀ {es:List DictEntry} {m:List (Int × Addr)},c5u es=some m ->
 (∀ e∈es,∃ k,(a3q P w).is k e.key=true/\e.hash=(a3q P w).hash k)/\Pairs (a3q P w) es (m.map fun p=>((Sum.inl p.1:Key),Value.ref p.2))
 | [],m,h=>by cases h; exact⟨fun _ z=>(nomatch z),.nil⟩
 | ⟨hh,.int k tk,.ref a⟩ :: r,m,h=>by
  unfold c5u at h
  by_cases c:hh == hashInt k
  ·rw[if_pos c]at h
   cases q:c5u r with
   | none=>rw[q]at h; cases h
   | some l =>
    rw[q]at h
    cases h
    obtain⟨i1,i2⟩:=c5u.pairs (P:=P) (w:=w) q
    refine⟨fun e he=>?_,.cons (c3r P w k tk) rfl i2⟩
    cases he with
    | head=>exact⟨.inl k,c3r P w k tk,eq_of_beq c⟩
    | tail _ z=>exact i1 e z
  ·rw[if_neg c]at h; cases h
structure g9b (K:W.Frag) (a:Addr) (m:List (Int × Addr)):Prop where
 ex : ∃ es ep,K.lookup a=some ⟨.type "dict",none,.dict es ep,#[]⟩/\c5u es.toList=some m
 nd:(m.map (·.1)).Nodup
 ns:(a == sysModules)=false
theorem g9b.rd{K:W.Frag}{a:Addr}{m:List (Int × Addr)}{P:Program}{w:World}{h:Heap}(D:g9b K a m)(X:K.In h):h.DictOf (a3q P w) a (m.map fun p=>((Sum.inl p.1:Key),Value.ref p.2)):=by
 obtain⟨es,ep,l,e⟩:=D.ex
 obtain⟨i1,i2⟩:=c5u.pairs (P:=P) (w:=w) e
 refine⟨_,es,ep,X _ _ l,⟨rfl,rfl,rfl⟩,rfl,fun e he=>i1 e (Array.mem_toList_iff.mpr he),i2,?_⟩
 rw[List.map_map]
 have:(((fun x=>x.1) ∘ fun p:Int × Addr=>((Sum.inl p.1:Key),Value.ref p.2)):Int × Addr->Key)=(fun i:Int=>(Sum.inl i:Key)) ∘ (·.1):=rfl
 rw[this,<- List.map_map]
 exact List.Pairwise.map _ (fun a b (z:a≠b) (q:(Sum.inl a:Key)=Sum.inl b)=>z (Sum.inl.inj q)) D.nd
def g8a(m:List (Int × Addr))(i:Int):Option V:=(m.find? fun p=>decide (p.1=i)).map fun p=>V.ref p.2
theorem e5e : ∀ (m:List (Int × Addr)) (i:Int) (z:V) (r:Value),a8c z r->a8c ((g8a m i).getD z) ((valueAt (m.map fun p=>((Sum.inl p.1:Key),Value.ref p.2)) (Sum.inl i)).getD r)
 | [],i,z,r,h=>h
 | p :: m,i,z,r,h=>by
  have ih:=e5e m i z r h
  unfold g8a valueAt at ih ⊢
  rw[List.map_cons,List.find?_cons,List.find?_cons]
  by_cases c:p.1=i
  ·have c':(Sum.inl p.1:Key)=Sum.inl i:=congrArg _ c
   simp only [decide_eq_true c,decide_eq_true c',Option.map_some,Option.getD_some]
   rfl
  ·have c' : ¬ (Sum.inl p.1:Key)=Sum.inl i:=fun q=>c (Sum.inl.inj q)
   simp only [decide_eq_false c,decide_eq_false c']
   exact ih
def f9c(m:List (Int × Addr))(ty tx:TE):TE:=fun σ H Q=>ty σ H fun y H2=>tx σ H2 fun z H3=>∃ i,y=.int i/\Q ((g8a m i).getD z) H3
section
variable {X:Cx}{K:W.Frag}{a:Addr}{m:List (Int × Addr)}{e f:Expr}{x:Str}{p apos cpos:Pos}{ty tx:TE}
theorem g1l (h:X.K=K) (D:g9b K a m) (hg:Gl X x) (hm:X.mg x=some (.ref a)) (he:QE X e ty) (hf:QE X f tx) (hd:(x == ("__debug__" : Str))=false:=by decide)
 (hbase:attributeBase (.Name x p) "get" X.env (eval (.Name x p) X.env)=eval (.Name x p) X.env:=by rfl)
 (hfew:((backTo cpos (starEach [e,f] X.env)).all (fun x=>!x.1) && (backToKw cpos (keywordEach [] X.env)).all (fun x=>x.1.isSome)
   && decide (([e,f]:List Expr).length+([]:List Keyword).length+(if ([]:List Keyword).isEmpty then 0 else 1) < 30))=true:=by rfl)
 (hline:(apos.endLine == cpos.line)=true:=by rfl) (htr:backTo cpos (starEach [e,f] X.env)=[(false,eval e X.env),(false,eval f X.env)]:=by rfl) :
 QE X (.Call (.Attribute (.Name x p) "get" apos) [e,f] [] cpos) (f9c m ty tx):=⟨by
 subst h
 intro pins s σ H Q I h
 have ho:PE X (.Name x p) (tC (.ref a)):=(b0v (v:=.ref a) hg hm rfl hd).h
 refine wpAny_Call_method hbase hfew hline PySem.F.plainAttrs_dict PySem.F.slot_dict_get PySem.F.type_dict_get (thn (ho pins s σ H (fun v H'=>v=.ref a/\f9c m ty tx σ H' Q) I ⟨rfl,h⟩) fun u s1 ⟨x,H1,I1,rx,ex,q1⟩=>?_)
 subst ex
 obtain rfl:u=Value.ref a:=rx
 have d1:=D.rd (P:=X.prog) (w:=X.w) I1.kIn
 refine⟨d1.typeIs,fun b q=>?_,?_⟩
 ·cases q
  obtain⟨ob,_,_,h1,h2,_⟩:=d1
  exact⟨ob,h1,h2.2.1⟩
 rw[htr]
 refine Calls.callWith_builtin rfl (Calls.evalArgs_plain (Calls.spliced_cons (thn (he.h pins s1 σ H1 _ I1 q1) fun iv s2 ⟨y,H2,I2,ry,q2⟩ =>
  Calls.spliced_cons (thn (hf.h pins s2 σ H2 _ I2 q2) fun fv s3 ⟨z,H3,I3,rz,i,ey,q3⟩=>Calls.spliced_nil ?_))))
 subst ey
 have d3:=D.rd (P:=X.prog) (w:=X.w) I3.kIn
 exact call_meetsIn PySem.F.slot_dict_get d3.typeIs PySem.F.entry_dict_get (PySem.F.args_dict_get_3 _ _ _) (meets_dict_get_default (a3q X.prog X.w) a (d6l (k:=.inl i) ry) D.ns fv) ⟨_,d3.mapOf,_,_,I3.tok _,e5e m i z fv rz,q3⟩⟩
end
theorem d0p{o:Obj}{vs:Array Value}(hd:o.data=.fields vs)(f:Array Value->Array Value):o.mapFields f = { o with data:=.fields (f vs) }:=by
 obtain⟨c,d,dt,sl⟩:=o
 obtain rfl:dt=.fields vs:=hd
 rfl
structure XAt (h:Heap) (e C:Addr) (od:Option Addr) (tb:Value) (oe:Obj) (vs:Array Value) (q:Bool:=false):Prop where
 at_:h.get? e=some oe
 cls:oe.cls=.ref C
 dict:oe.dict=od
 data:oe.data=.fields vs
 size:vs.size=6
 tb1:vs[1]? = some tb
 cx:q=false->vs[2]? = some .none
def g0l(h:Heap)(e T:Addr)(fl:Value):Prop:=∃ oT ts,h.get? T=some oT/\oT.data=.fields ts/\ts[3]? = some fl/\T≠e
section
variable {M:Model}{A:Around}{E:Value->Shared->Prop}{s:Shared}
structure f4w (l:List Env) (e C T':Addr) (od:Option Addr) (tb fl:Value) (h h':Heap) (q:Bool:=false):Prop where
 keep : ∀ b o,h.get? b=some o->b≠e->.ref b≠tb->b∉frs l->h'.get? b=some o
 slot : ∀ b o,h.get? b=some o->b∈frs l->∃ sl,h'.get? b=some { o with slots:=sl }
 there : ∀ b o,h.get? b=some o->∃ o',h'.get? b=some o'
 new:h.objs.size<=T'
 size:h.objs.size<=h'.objs.size
 exc : ∃ oe vs,XAt h' e C od (.ref T') oe vs q
 ent:g0l h' e T' fl
theorem d9l{base:Heap}{env:Env}{outer:List Env}{L e C:Addr}{od:Option Addr}{oe:Obj}{vs:Array Value}{hd tb:Value}{nx q:Bool}{Q:Unit->Shared->Prop}
 (hA:A.frames=some (env :: outer)) (hF:s.heap.FunFrames base (env :: outer)) (hL:env.frame=some L) (x:XAt s.heap e C od tb oe vs q)
 (k : ∀ h' T',f4w (env :: outer) e C T' od .none (rawInt L) s.heap h' q->Q () { s with heap:=h' }) :
 wpAny M A (do let a <- frameOf env; let pl <- entryPlaceOf L nx; let b <- EntryCells.newEntry hd a .none (rawInt L) .none pl; setField (.ref e) 1 b) Q E s:=by
 have ne:e∉frs (env :: outer):=fun m=>by
  obtain⟨_,o,ho,nf⟩:=hF.mem m
  rw[x.at_]at ho
  cases ho
  exact nf vs x.data
 refine wpAny_bind (wpAny_frameOf_fun hA hF hL fun g1 y=>wpAny_bind (wpAny_entryPlaceOf fun pl pk=>?_))
 unfold EntryCells.newEntry newFields
 refine wpAny_bind (wpAny_newObj_type ?_ (pk.sizeOk5 _ _ _ _ _))
 have x1:g1.get? e=some oe:=(y.2.1 e ne).trans x.at_
 obtain⟨N,hN⟩ : ∃ N:Obj,N = { cls:=.type "traceback",dict:=none,data:=.fields ([hd,.ref L,.none,rawInt L,.none]++(if pl.isEmpty then List.replicate 6 Value.none else pl)).toArray }:=⟨_,rfl⟩
 rw[<- hN]
 have x2:=Heap.get?_push_of_some N x1
 have nT:g1.objs.size≠e:=Nat.ne_of_gt (Heap.lt_size x1)
 refine wpAny_setField x2 x.data (by rw[x.size]; decide) (k _ g1.objs.size ?_)
 have x3:=Heap.get?_update_self (Obj.mapFields (·.setIfInBounds 1 (Value.ref g1.objs.size))) x2 (by rw[d0p x.data]; rfl)
 rw[d0p x.data]at x3
 have tN:N.data=.fields ([hd,.ref L,.none,rawInt L,.none]++(if pl.isEmpty then List.replicate 6 Value.none else pl)).toArray:=by rw[hN]
 have T3:=(Heap.get?_update_other (g1.push N) (Obj.mapFields (·.setIfInBounds 1 (Value.ref g1.objs.size))) (Ne.symm nT)).trans (Heap.get?_push_size g1 (o:=N) (by rw[hN]; rfl))
 have kp : ∀ b o,b≠e->g1.get? b=some o->((g1.push N).update e (Obj.mapFields (·.setIfInBounds 1 (Value.ref g1.objs.size)))).get? b=some o:=fun b o n q=>by
  rw[Heap.get?_update_other _ _ (Ne.symm n)]
  exact Heap.get?_push_of_some _ q
 have sz:s.heap.objs.size=g1.objs.size:=y.1.symm
 refine⟨fun b o q n1 _ n2=>kp b o n1 ((y.2.1 b n2).trans q),fun b o q m=>?_,fun b o q=>?_,Nat.le_of_eq sz,by rw[Heap.size_after_update,Heap.size_push,sz]; exact Nat.le_succ _,⟨_,_,x3,x.cls,x.dict,rfl,?_,?_,fun z=>?_⟩,⟨N,_,T3,tN,?_,nT⟩⟩
 ·obtain⟨sl,hs⟩:=y.2.2 b o q
  exact⟨sl,kp b _ (fun z=>ne (z ▸ m)) hs⟩
 ·by_cases n:b=e
  ·subst n; exact⟨_,x3⟩
  ·obtain⟨sl,hs⟩:=y.2.2 b o q
   exact⟨_,kp b _ n hs⟩
 ·rw[Array.size_setIfInBounds]; exact x.size
 ·have:1 < vs.size:=by rw[x.size]; decide
  simp[this]
 ·rw[Array.getElem?_setIfInBounds_ne (by decide)]; exact x.cx z
 ·rcases pk with rfl | ⟨_,_,_,_,_,_,_,rfl⟩ <;> simp
def h1x(h:Heap)(e:Addr)(tb:Value):Prop:=tb=.none\/∃ T,tb=.ref T/\g0l h e T .none
theorem g6q{base:Heap}{env:Env}{outer:List Env}{L e C:Addr}{od:Option Addr}{oe:Obj}{vs:Array Value}{tb:Value}{q:Bool}{Q:Unit->Shared->Prop}
 (hA:A.frames=some (env :: outer)) (hF:s.heap.FunFrames base (env :: outer)) (hL:env.frame=some L) (x:XAt s.heap e C od tb oe vs q) (ht:h1x s.heap e tb)
 (k : ∀ h' T',f4w (env :: outer) e C T' od tb (rawInt L) s.heap h' q->Q () { s with heap:=h' }):wpAny M A (noteFrame (.ref e) env) Q E s:=by
 unfold noteFrame
 simp only [hL]
 refine wpAny_bind (wpAny_field x.at_ x.data x.tb1 ?_)
 rcases ht with rfl | ⟨T,rfl,oT,ts,hT,dT,fT,nT⟩
 ·rw[if_neg (by decide)]
  exact d9l hA hF hL x k
 ·rw[if_pos (show (Value.ref T != Value.none)=true by simp)]
  refine wpAny_bind (wpAny_field hT dT fT ?_)
  rw[if_neg (show ¬ (Value.none == rawInt L)=true by simp[rawInt])]
  refine wpAny_bind (wpAny_setField hT dT (Array.getElem?_eq_some_iff.mp fT).1 ?_)
  have ot : ∀ b,b≠T->(s.heap.update T (Obj.mapFields (·.setIfInBounds 3 Value.none))).get? b=s.heap.get? b:=fun b n=>Heap.get?_update_other _ _ (Ne.symm n)
  have self:=Heap.get?_update_self (Obj.mapFields (·.setIfInBounds 3 Value.none)) hT (by rw[d0p dT]; rfl)
  have nF:T∉frs (env :: outer):=fun m=>by
   obtain⟨_,o,ho,nf⟩:=hF.mem m
   rw[hT]at ho
   cases ho
   exact nf ts dT
  refine d9l (base:=base) hA (hF.of_keeps fun b o q nf=>⟨o,(ot b fun z=>?_).trans q,rfl⟩) hL ⟨(ot e (Ne.symm nT)).trans x.at_,x.cls,x.dict,x.data,x.size,x.tb1,x.cx⟩ fun h' T' N=>k h' T' ⟨fun b o q n1 n2 n3=>?_,fun b o q m=>?_,fun b o q=>?_,by have:=N.new; rwa [Heap.size_after_update]at this,by have:=N.size; rwa [Heap.size_after_update]at this,N.exc,N.ent⟩
  ·subst z; rw[hT]at q; cases q; exact nf ts dT
  ·exact N.keep b o ((ot b fun z=>n2 (by rw[z])).trans q) n1 (by simp) n3
  ·exact N.slot b o ((ot b fun z=>nF (z ▸ m)).trans q) m
  ·by_cases n:b=T
   ·subst n; exact N.there _ _ self
   ·exact N.there b o ((ot b n).trans q)
theorem g7f{e C T:Addr}{od:Option Addr}{oe:Obj}{vs:Array Value}{fl:Value}{q:Bool}{Q:Unit->Shared->Prop}(x:XAt s.heap e C od (.ref T) oe vs q)(t:g0l s.heap e T fl)
 (k : ∀ h',h'.objs.size=s.heap.objs.size->(∀ b o,s.heap.get? b=some o->b≠T->h'.get? b=some o)->(∀ b o,s.heap.get? b=some o->∃ o',h'.get? b=some o')->XAt h' e C od (.ref T) oe vs q->g0l h' e T .none->Q () { s with heap:=h' }):wpAny M A (setFlight (.ref e) none) Q E s:=by
 obtain⟨oT,ts,hT,dT,fT,nT⟩:=t
 unfold setFlight
 refine wpAny_bind (wpAny_field x.at_ x.data x.tb1 ?_)
 rw[if_pos (show (Value.ref T != Value.none)=true by simp)]
 have z3:=(Array.getElem?_eq_some_iff.mp fT).1
 have ot : ∀ b,b≠T->(s.heap.update T (Obj.mapFields (·.setIfInBounds 3 ((none:Option Addr).elim Value.none fun f=>rawInt f)))).get? b=s.heap.get? b:=fun b n=>Heap.get?_update_other _ _ (Ne.symm n)
 have self:=Heap.get?_update_self (Obj.mapFields (·.setIfInBounds 3 ((none:Option Addr).elim Value.none fun f=>rawInt f))) hT (by rw[d0p dT]; rfl)
 refine wpAny_setField hT dT z3 (k _ (Heap.size_after_update ..) (fun b o q n=>(ot b n).trans q) (fun b o q=>?_) ⟨(ot e (Ne.symm nT)).trans x.at_,x.cls,x.dict,x.data,x.size,x.tb1,x.cx⟩ ⟨_,_,self,by rw[d0p dT],by simp[z3],nT⟩)
 by_cases n:b=T
 ·subst n; exact⟨_,self⟩
 ·exact⟨o,(ot b n).trans q⟩
end
def xφ(e C:Addr)(od:Option Addr)(q:Bool):Heap->Prop:=fun h=>∃ tb oe vs,XAt h e C od tb oe vs q
def xν(e C:Addr)(od:Option Addr):Heap->Prop:=fun h=>∃ oe vs,XAt h e C od .none oe vs
def XO(e C:Addr)(od:Option Addr)(q:Bool:=false):HO:=.ext (xφ e C od q)
def XN(e C:Addr)(od:Option Addr):HO:=.ext (xν e C od)
theorem XAt.keeps{h h':Heap}{e C:Addr}{od:Option Addr}{tb:Value}{oe:Obj}{vs:Array Value}{q:Bool}(x:XAt h e C od tb oe vs q)(k : ∀ o,h.get? e=some o->h'.get? e=some o):XAt h' e C od tb oe vs q:=⟨k _ x.at_,x.cls,x.dict,x.data,x.size,x.tb1,x.cx⟩
section
variable {P:Program}{w:World}{H:Hp}{h:Heap}{e C:Addr}{od:Option Addr}
theorem g9e{tb:Value}{oe:Obj}{vs:Array Value}{q:Bool}(x:XAt h e C od tb oe vs q):a8r P w H h e (XO e C od q) :=
 ⟨⟨tb,oe,vs,x⟩,⟨oe,x.at_⟩,fun _ _ ⟨tb,oe,vs,y⟩ k=>⟨tb,oe,vs,y.keeps k⟩⟩
end
def CX1(P:Program)(w:World):CXT:=fun outer H s E v s'=>∃ (e C T:Addr) (od:Option Addr) (q:Bool) (H':Hp) (oe:Obj) (vs:Array Value),v=.ref e/\s'.os=s.os/\AllBare s'.gens /\
 Un (frs outer) [] H H' s.heap s'.heap/\HOk P w H' s'.heap/\H' e=some (XO e C od q)/\s.heap.get? e=none/\s.heap.objs.size<=T/\s.heap.objs.size<=s'.heap.objs.size/\H' T=none /\
 XAt s'.heap e C od (.ref T) oe vs q/\g0l s'.heap e T .none/\E (.ref C) (some e) H'
theorem a8r.there{P:Program}{w:World}{H:Hp}{h:Heap}{a:Addr}{o:HO}(x:a8r P w H h a o) : ∃ u,h.get? a=some u:=by
 cases o with
 | lst xs=>obtain⟨_,_,_,_,e⟩:=x; exact⟨_,e⟩
 | tup xs=>obtain⟨_,_,_,ob,e,_⟩:=x; exact⟨_,e⟩
 | dK kvs=>obtain⟨_,_,_,_,ob,_,_,e,_⟩:=x; exact⟨_,e⟩
 | dT kvs=>obtain⟨_,_,_,_,ob,_,_,e,_⟩:=x; exact⟨_,e⟩
 | set S n=>obtain⟨ob,_,_,_,e,_⟩:=x; exact⟨_,e⟩
 | ins C dx fs=>obtain⟨_,_,_,e,_⟩:=x; exact⟨_,e⟩
 | own y=>exact x
 | xd fs=>obtain⟨_,⟨_,_,_,e,_⟩,_⟩:=x; exact⟨_,e⟩
 | rng lo hi=>obtain⟨_,_,_,e⟩:=x; exact⟨_,e⟩
 | frz ob u=>obtain⟨e,_⟩:=x; exact⟨_,e⟩
 | tbl ps=>exact⟨_,show h.get? a=some _ from x⟩
 | met f y=>exact⟨_,show h.get? a=some _ from x⟩
 | ext φ=>exact x.2.1
def h3r(X:Cx)(pins:List (Addr × Obj))(Es:St->XK)(v:Value)(s':Shared):Prop:=∃ (σ:St) (H':Hp) (e C:Addr) (od:Option Addr) (q:Bool) (tb:Value) (oe:Obj) (vs:Array Value),v=.ref e/\Inv X pins σ H' s' /\
 H' e=some (XO e C od q)/\XAt s'.heap e C od tb oe vs q/\h1x s'.heap e tb/\(∀ T,tb=.ref T->H' T=none/\X.s₀.heap.objs.size<=T/\∀ p∈X.pn++pins,p.1≠T)/\(X.ex=[]->X.s₀.heap.get? e=none)/\Es σ (.ref C) (some e) H'
structure f5j (X:Cx) (Es:St->XK):Prop where
 up : ∀ pins v s',h3r X pins Es v s'->X.xe v s'
section
variable {X:Cx}{pins:List (Addr × Obj)}{σ:St}{H:Hp}{s s':Shared}{Es:St->XK}{v:Value}
theorem f4w.hok{P:Program}{w:World}{l:List Env}{e C T':Addr}{od:Option Addr}{tb fl:Value}{h h':Heap}{qq:Bool}(N:f4w l e C T' od tb fl h h' qq)(ok:HOk P w H h)(hx:H e=some (XO e C od qq))(ht : ∀ T,tb=.ref T->H T=none)
 (hf : ∀ b∈frs l,H b=none):HOk P w H h':=fun b o q=>by
 have kp : ∀ c u ou,H c=some u->c≠e->h.get? c=some ou->h'.get? c=some ou:=fun c u ou z n y=>N.keep c ou y n (fun y2=>by rw[ht c y2.symm]at z; cases z) fun m=>by rw[hf c m]at z; cases z
 by_cases n:b=e
 ·subst n
  rw[hx]at q; cases q
  obtain⟨oe,vs,x⟩:=N.exc
  exact g9e x
 ·refine (ok b o q).stay (fun c u hc y=>?_) (fun _ z=>z) fun _ _ z=>z
  rcases hc with rfl | hc
  ·exact kp c o u q n y
  ·refine kp c _ u hc (fun z=>?_) y
   rw[z,hx]at hc; cases hc
end
structure h6q (P:Program) (w:World) (K:W.Frag) (mg:Str->Option Value) (base:Heap) (x:Str) (k:Nat) (f:Addr) (fd:FuncData) (ps:List Str) (dvs:List V) (sp:Sp):Prop where
 g:mg x=some (.ref f)
 kp:W.keepIn K (.ref f)=true
 b : ∃ ds,a1h K fd ps ds/\a5s dvs ds
 ok:b8g P w K mg base (CX1 P w) k f fd ps sp
structure h6h (P:Program) (w:World) (K:W.Frag) (mg:Str->Option Value) (base:Heap) (C:Addr) (m:Str) (k:Nat) (f:Addr) (fd:FuncData) (ps:List Str) (dvs:List V) (sp:Sp):Prop where
 c:Cls K C
 mt:b3d K C m f
 b : ∃ ds,a1h K fd ps ds/\a5s dvs ds
 ok:b8g P w K mg base (CX1 P w) k f fd ps sp
structure h6j (P:Program) (w:World) (K:W.Frag) (mg:Str->Option Value) (base:Heap) (x:Str) (C:Addr) (k:Nat) (f:Addr) (fd:FuncData) (ps:List Str) (dvs:List V) (sp:Sp):Prop where
 g:mg x=some (.ref C)
 mkx:Mk K C f
 b : ∃ ds,a1h K fd ps ds/\a5s dvs ds
 ok:b8g P w K mg base (CX1 P w) k f fd ps sp
abbrev bmV:List Value:=[.type "ValueError",.type "Exception",.type "BaseException",.type "object"]
section
variable {X:Cx}{pins:List (Addr × Obj)}{σ:St}{H:Hp}{s:Shared}{h':Heap}
abbrev Cx.tryc(X:Cx)(pn:List (Addr × Obj))(W:Value->Shared->Prop):Cx:={ X with pn:=pn,xe:=W }
abbrev Cx.hand(X:Cx)(e:Addr)(W:Value->Shared->Prop):Cx:={ X with A:=X.A.mark (some (.ref e)),calm:=false,xe:=W }
theorem Cx.Ok.tryc{pn:List (Addr × Obj)}{W:Value->Shared->Prop}(ok:X.Ok):(X.tryc pn W).Ok :=
 ⟨ok.mod,ok.kind,ok.glob,ok.blt,ok.above,ok.inj,ok.has,ok.cab,ok.hd,ok.frames,ok.stk,ok.exf,ok.bs,ok.bsz,ok.noex,ok.exfs,ok.funs,ok.frf⟩
theorem Cx.Ok.untry{pn:List (Addr × Obj)}{W:Value->Shared->Prop}(ok:(X.tryc pn W).Ok):X.Ok :=
 ⟨ok.mod,ok.kind,ok.glob,ok.blt,ok.above,ok.inj,ok.has,ok.cab,ok.hd,ok.frames,ok.stk,ok.exf,ok.bs,ok.bsz,ok.noex,ok.exfs,ok.funs,ok.frf⟩
theorem Inv.tryc{W:Value->Shared->Prop}(I:Inv X pins σ H s):Inv (X.tryc (X.pn++pins) W) [] σ H s :=
 ⟨I.ok.tryc,I.os,I.bare,I.base,I.loc,I.cell,I.free,I.freeC,fun p hp=>I.pin p (by simpa using hp),I.hok,I.len⟩
theorem Inv.untry{W:Value->Shared->Prop}{pins':List (Addr × Obj)}(I:Inv (X.tryc (X.pn++pins) W) pins' σ H s):Inv X pins σ H s :=
 ⟨I.ok.untry,I.os,I.bare,I.base,I.loc,I.cell,I.free,I.freeC,fun p hp=>I.pin p (List.mem_append_left _ hp),I.hok,I.len⟩
theorem Inv.hand{e:Addr}{W:Value->Shared->Prop}(I:Inv X pins σ H s):Inv (X.hand e W) pins σ H s :=
 ⟨⟨I.ok.mod,I.ok.kind,I.ok.glob,I.ok.blt,I.ok.above,I.ok.inj,I.ok.has,I.ok.cab,(fun z=>nomatch z),I.ok.frames,I.ok.stk,I.ok.exf,I.ok.bs,I.ok.bsz,I.ok.noex,I.ok.exfs,I.ok.funs,I.ok.frf⟩,I.os,I.bare,I.base,I.loc,I.cell,I.free,I.freeC,I.pin,I.hok,I.len⟩
theorem Inv.unhand{e:Addr}{W:Value->Shared->Prop}(I:Inv (X.hand e W) pins σ H s)(hd:X.calm=true->X.A.handled=none):Inv X pins σ H s :=
 ⟨⟨I.ok.mod,I.ok.kind,I.ok.glob,I.ok.blt,I.ok.above,I.ok.inj,I.ok.has,I.ok.cab,hd,I.ok.frames,I.ok.stk,I.ok.exf,I.ok.bs,I.ok.bsz,I.ok.noex,I.ok.exfs,I.ok.funs,I.ok.frf⟩,I.os,I.bare,I.base,I.loc,I.cell,I.free,I.freeC,I.pin,I.hok,I.len⟩
theorem SP.untry{W:Value->Shared->Prop}{D:f4z}{f:Flow}(h:SP (X.tryc (X.pn++pins) W) [] D f s):SP X pins D f s:=by
 cases f with
 | next=>obtain⟨σ',H',I,q⟩:=h; exact⟨σ',H',I.untry,q⟩
 | brk=>obtain⟨σ',H',I,q⟩:=h; exact⟨σ',H',I.untry,q⟩
 | cont=>obtain⟨σ',H',I,q⟩:=h; exact⟨σ',H',I.untry,q⟩
 | ret u=>obtain⟨v,σ',H',I,r,q⟩:=h; exact⟨v,σ',H',I.untry,r,q⟩
theorem Inv.noTb{T e:Addr}{fl:Value}(I:Inv X pins σ H s)(t:g0l s.heap e T fl):T≠X.env.locals/\∀ x c,X.env.cells.lookup x=some c->c≠T:=by
 obtain⟨oT,ts,h1,h2,_⟩:=t
 refine⟨fun z=>?_,fun x c hc z=>?_⟩
 ·obtain⟨m,⟨o,es,ep,ho,hd,_⟩,_⟩:=I.loc
  rw[<- z,h1]at ho; cases ho
  rw[h2]at hd; cases hd
 ·obtain⟨v,o,ho,hd⟩:=I.cell x c hc
  rw[z,h1]at ho; cases ho
  rw[h2]at hd; cases hd
theorem Inv.noted{e C T':Addr}{od:Option Addr}{tb fl:Value}{qq:Bool}(I:Inv X pins σ H s)(hx:H e=some (XO e C od qq))(ht:h1x s.heap e tb)(hT : ∀ T,tb=.ref T->H T=none/\X.s₀.heap.objs.size<=T/\∀ p∈X.pn++pins,p.1≠T)
 (N:f4w X.stack e C T' od tb fl s.heap h' qq):Inv X pins σ H { s with heap:=h' }:=by
 have ne : ∀ b,H b=none->b≠e:=fun b n z=>by rw[z,hx]at n; cases n
 have ok:=N.hok I.hok hx (fun T z=>(hT T z).1) I.stkFree
 have un : ∀ ch:List Addr,(∀ T,tb=.ref T->T∈ch)->Un (frs X.stack) ch H H s.heap h':=fun ch hc=>⟨fun b o q n m c=>N.keep b o q (ne b n) (fun z=>c (hc b z.symm)) m,fun b o q n m c=>N.slot b o q m,fun _ _ _ n _=>n,fun b o q _=>N.there b o q,fun _ _ q=>q,fun _ _ _ q=>q,fun b ps q=>⟨#[],by rw[q]; simp⟩⟩
 rcases ht with rfl | ⟨T,rfl,t⟩
 ·exact I.call (g':=s.gens) (d':=s.drawn) (t':=s.toks) (ch:=[]) (un [] fun T z=>by cases z) ok I.bare fun b z=>absurd z (by simp)
 ·refine I.call (g':=s.gens) (d':=s.drawn) (t':=s.toks) (ch:=[T]) (un [T] fun T' z=>by cases z; simp) ok I.bare fun b hb=>?_
  have eb:b=T:=by simpa using hb
  subst eb
  obtain⟨h1,h2,h3⟩:=hT b rfl
  obtain⟨g1,g2⟩:=I.noTb t
  exact⟨.inr h2,g1,g2,h3⟩
end
structure d8f (P:Program) (w:World) (K:W.Frag) (mg:Str->Option Value) (base:Heap) (x:Str) (C:Addr) (k:Nat) (f:Addr) (fd:FuncData) (ps:List Str) (dvs:List V) (sp:Sp):Prop where
 g:mg x=some (.ref C)
 mkx:Mk K C f
 b : ∃ ds,a1h K fd ps ds/\a5s dvs ds
 ok:b8g P w K mg base CX0 k f fd ps sp
section
variable {X:Cx}{k j:Nat}{f C:Addr}{fd:FuncData}{ps:List Str}{sp:Sp}{x:Str}{p pos:Pos}{e:Expr}{es:List Expr}{t:TA}{dvs:List V}
theorem a4e{t1 t2:TE}(h1:QE X e t1)(h2:QE X e t2):QE X e (fun σ H Q=>t1 σ H Q\/t2 σ H Q) :=
 ⟨fun pins s σ H Q I z=>z.elim (h1.h pins s σ H Q I) (h2.h pins s σ H Q I)⟩
theorem b6i(F:d8f X.prog X.w X.K X.mg X.base x C j f fd ps dvs sp)(hr:c2r k X.A)(ha:QA X (e :: es) t)(hj:j+1<=k:=by decide)(hg:Gl X x:=by rfl)(hdb:(x == ("__debug__" : Str))=false:=by decide)(hn:b0x (e :: es)=true:=by rfl) :
 QE X (.Call (.Name x p) (e :: es) [] pos) (g4p C sp dvs E0 t):=by
 obtain⟨ds,hb,hd⟩:=F.b
 exact⟨g2a F.mkx F.ok (hr.mono hj) hg F.g hb hd d6g ha.h hdb (a2h (a2j hn).1) (a9f (a2j hn).2)⟩
end
end L2
namespace L2
open PySem PySem.Spec PyProof.Rows PySem.W
structure h1w (K:W.Frag) (C:Addr):Prop where
 ga:findIn K (.ref C) "__getattribute__" = some (some (.builtin "BaseException.__getattribute__"))
 noga:findIn K (.ref C) "__getattr__" = some none
 base:mroIn K C (.type "BaseException")=some true
 obj:mroIn K C (.type "object")=some true
 hd:hasDictIn K C=true
 cls:findIn K (.ref C) "__class__" = some (some (.builtin "object.__class__"))
 clsG:specialIn K (.builtin "object.__class__") "__get__" = some (some (.builtin "getset_descriptor.__get__"))
 clsT:takesIn K (.builtin "object.__class__")=some true
inductive TyX (K:W.Frag) (H:Hp):V->Value->Prop where
 | of {x:V} {t:Value} (h:c7c K H x t):TyX K H x t
 | exc {e C:Addr} {q:Bool} (h:H e=some (XO e C none q)) (c:h1w K C):TyX K H (.ref e) (.ref C)
def g0a(K:W.Frag)(C:Addr)(bmB:List Value)(newId:String):Bool:=match K.lookup C with
 | some ⟨.type "type",_,.cls cd,sl⟩=>(match cd.mro,sl.toList with
  | .ref C' :: bm,[_,_,_,_,some (.builtin n),_]=>C' == C && (n == newId && (!cd.hasDel && (W.tailIn K bmB bm && W.nsOkIn K cd.ns)))
  | _,_=>false)
 | _=>false
structure MkE (K:W.Frag) (C f:Addr):Prop where
 x:g0a K C bmV "ValueError.__new__" = true
 init:W.findIn K (.ref C) "__init__" = some (some (.ref f))
 fn:W.isFn K (.ref f)=true
 kp:W.keepIn K (.ref C)=true
structure h6t (P:Program) (w:World) (K:W.Frag) (mg:Str->Option Value) (base:Heap) (x:Str) (C:Addr) (k:Nat) (f:Addr) (fd:FuncData) (ps:List Str) (sp:Sp):Prop where
 g:mg x=some (.ref C)
 mkx:MkE K C f
 b:a1h K fd ps []
 ok:b8g P w K mg base CX0 k f fd ps sp
section
variable {X:Cx}{pins:List (Addr × Obj)}{σ:St}{H:Hp}{s:Shared}{h':Heap}{e C d0:Addr}{fs:List (Str × V)}{f:Str}
structure StE (K:W.Frag) (C:Addr):Prop where
 x:g0a K C bmV "ValueError.__new__" = true
 c:h1w K C
 sa:W.findIn K (.ref C) "__setattr__" = some (some (.builtin "object.__setattr__"))
end
structure h6p (K:W.Frag) (Y:Addr):Prop where
 sp:W.specialIn K (.ref Y) "__getattribute__" = some (some (.builtin "type.__getattribute__"))
 rd:W.readsIn K Y (.type "type")=true
 fc:W.findCls K (.ref Y) (.type "type") "__init__" = some (.val (.builtin "ValueError.__init__"))
inductive TyY (K:W.Frag) (H:Hp):V->Value->Prop where
 | of {x:V} {t:Value} (h:TyX K H x t):TyY K H x t
 | exd {e C d0:Addr} {fs:List (Str × V)} (h:H e=some (XN e C (some d0))\/∃ q,H e=some (XO e C (some d0) q)) (hd:H d0=some (.xd fs)) (c:h1w K C):TyY K H (.ref e) (.ref C)
structure h1y (k:Nat) (A:Around):Prop where
 dp:A.depth+3*k+5 < recursionLimit
 un:A.units+16*k+200 < cLine
structure g4a (P:Program) (w:World) (K:W.Frag) (mg:Str->Option Value) (base:Heap) (k:Nat) (f:Addr) (fd:FuncData) (ps:List Str) (sp:Sp):Prop where
 len : ∀ vs H Q E,sp vs H Q E->vs.length=ps.length
 run : ∀ (A:Around) (outer:List Env) (s:Shared) (H:Hp) (args:Args) (us:List Value) (vs:List V) (Q:VK) (E:XK),h1y k A->g0m P w K mg base A outer s H->BindsTo s fd args (ps.zip us)->a5s vs us->sp vs H Q E ->
  codeAny (model P w) A (.call (.ref f) args) (CR CX0 outer P w H s Q E) s
structure h6m (P:Program) (w:World) (K:W.Frag) (mg:Str->Option Value) (base:Heap) (x:Str) (C:Addr) (k:Nat) (f:Addr) (fd:FuncData) (ps:List Str) (sp:Sp):Prop where
 g:mg x=some (.ref C)
 mkx:MkE K C f
 b:a1h K fd ps []
 ok:g4a P w K mg base k f fd ps sp
def g4n(K:W.Frag)(c:Value)(tb:(St->XK)->TS)(th:Addr->TS):TS:=fun D σ H=>∃ Eb:St->XK,tb Eb D σ H/\∀ σ' C e od qq H',Eb σ' (.ref C) (some e) H'->H' e=some (XO e C od qq)->W.exmOne K (.ref C) c=some true/\th e D σ' H'
theorem f1f{X:Cx}{e:Addr}{Es:St->XK}(hx:f5j X Es)(hd:X.calm=true->X.A.handled=none):f5j (X.hand e X.xe) Es:=⟨by
 rintro pins v s' ⟨σ',H',e',C,od,qq,tb',oe,vs,hv,I',hx',x,ht,hT,he,q⟩
 exact hx.up pins v s' ⟨σ',H',e',C,od,qq,tb',oe,vs,hv,I'.unhand hd,hx',x,ht,hT,he,q⟩⟩
section
variable {X:Cx}{y:Str}{np hpos pos:Pos}{body suite:List Stmt}{b₀:Stmt}{Cy:Addr}{tb:(St->XK)->TS}{th:Addr->TS}{Es:St->XK}
theorem g5p(hst:X.stack=X.env :: X.outer/\X.env.frame=some X.env.locals)(hm:X.mg y=some (.ref Cy))(hE : ∀ e:Addr,PassesOwnAt (model X.prog X.w) (X.A.mark (some (.ref e))) X.A X.env X.xe)(hx:f5j X Es)
 (hb : ∀ pn W Eb,f5j (X.tryc pn W) Eb->QSs (X.tryc pn W) body (tb Eb)) (hh : ∀ e,f5j (X.hand e X.xe) Es->QSs (X.hand e X.xe) (b₀ :: suite) (th e))
 (hg:Gl X y:=by rfl) (hd:(y == ("__debug__" : Str))=false:=by decide):QS X (.Try body [.ExceptHandler (some (.Name y np)) none (b₀ :: suite) hpos] [] [] pos) (g4n X.K (.ref Cy) tb th):=⟨by
 intro pins s σ H D I h
 obtain⟨Eb,h1,h2⟩:=h
 have L:f5j (X.tryc (X.pn++pins) (h3r X pins Eb)) Eb:=⟨by
  rintro pins' v s' ⟨σ',H',e,C,od,qq,tb',oe,vs,hv,I',hx,x,ht,hT,he,q⟩
  exact⟨σ',H',e,C,od,qq,tb',oe,vs,hv,I'.untry,hx,x,ht,fun T z=>⟨(hT T z).1,(hT T z).2.1,fun p hp=>(hT T z).2.2 p (List.mem_append_left _ hp)⟩,he,q⟩⟩
 refine wpAny_Try_except (wpAny_mono ((hb _ _ Eb L).h [] s σ H D I.tryc h1) (fun f s1 q=>?_) fun v s1 q=>?_)
 ·cases f with
  | next=>obtain⟨σ',H',I',q⟩:=q; exact wpAny_execs_nil ⟨σ',H',I'.untry,q⟩
  | brk=>exact SP.untry (f:=.brk) q
  | cont=>exact SP.untry (f:=.cont) q
  | ret u=>exact SP.untry (f:=.ret u) q
 ·obtain⟨σ',H',e,C,od,qq,tb',oe,vs,rfl,I1,hxo,x,ht,hT,he,q⟩:=q
  obtain⟨hex,hth⟩:=h2 σ' C e od qq H' q hxo
  have hfr:X.A.frames=some (X.env :: X.outer):=by rw[<- hst.1]; exact I1.ok.frames
  have hff:s1.heap.FunFrames X.base (X.env :: X.outer):=by rw[<- hst.1]; exact I1.stack
  refine g6q (base:=X.base) hfr hff hst.2 x ht fun h1' T1 N1=>?_
  rw[<- hst.1]at N1
  have I2:=I1.noted hxo ht hT N1
  obtain⟨oe1,vs1,x1⟩:=N1.exc
  have T1new:X.s₀.heap.objs.size<=T1:=Nat.le_trans I1.sz N1.new
  have T1none:H' T1=none:=by
   cases z:H' T1 with
   | none=>rfl
   | some o =>
    obtain⟨u,w⟩:=a8r.there (I1.hok T1 o z)
    exact absurd (Nat.lt_of_lt_of_le (Heap.lt_size w) N1.new) (Nat.lt_irrefl _)
  have T1pin : ∀ p∈X.pn++pins,p.1≠T1:=fun p hp z=>absurd (Nat.lt_of_lt_of_le (Heap.lt_size (I1.pin p hp).1) N1.new) (by rw[z]; exact Nat.lt_irrefl _)
  have land : ∀ {M:Model} {A:Around} {Ex:Value->Shared->Prop} {fl:Value} {s2:Shared} {oe2:Obj} {vs2:Array Value} {Q:Unit->Shared->Prop},Inv X pins σ' H' s2->XAt s2.heap e C od (.ref T1) oe2 vs2 qq->g0l s2.heap e T1 fl ->
   (∀ s3,Inv X pins σ' H' s3->XAt s3.heap e C od (.ref T1) oe2 vs2 qq->g0l s3.heap e T1 .none->Q () s3)->wpAny M A (setFlight (.ref e) none) Q Ex s2:=fun {M A Ex fl s2 oe2 vs2 Q} J y t kk=>by
   refine g7f y t fun h3 sz k3 t3 y3 e3=>kk { s2 with heap:=h3 } ?_ y3 e3
   have ok3:HOk X.prog X.w H' h3:=fun b o z=>by
    refine (J.hok b o z).stay (fun c u hc w=>k3 c u w fun v=>?_) (fun _ q=>q) fun _ _ q=>q
    rcases hc with rfl | hc
    ·rw[v,T1none]at z; cases z
    ·rw[v,T1none]at hc; cases hc
   refine J.call (g':=s2.gens) (d':=s2.drawn) (t':=s2.toks) (ch:=[T1]) ⟨fun b o z n m c=>k3 b o z (by simpa using c),fun b o z n m c=>⟨o.slots,k3 b o z (by simpa using c)⟩,fun _ _ _ n _=>n,fun b o z _=>t3 b o z,fun _ _ z=>z,fun _ _ _ z=>z,fun b ps z=>⟨#[],by rw[z]; simp⟩⟩ ok3 J.bare fun b hb'=>?_
   have eb:b=T1:=by simpa using hb'
   subst eb
   obtain⟨g1,g2⟩:=J.noTb t
   exact⟨.inr T1new,g1,g2,T1pin⟩
  refine land I2 x1 N1.ent fun s3 I3 x3 t3=>?_
  refine wpAny_handleBy_cons (codeAny_handlers_test ?_) (by intro z; cases z)
  refine d0s (X:=X.hand e fun _ _=>False) I3.hand hg hm ?_ hd
  have LT:W.Looks (model X.prog X.w) s3.heap (typeOf (.ref e)) (.ref C):=by
   have z:W.Looks (model X.prog X.w) s3.heap (typeOf (.ref e)) oe1.cls:=(W.Looks.ld x3.at_).andThen .now
   rw[x3.cls]at z
   exact z
  refine (W.exm_one I3.kIn LT hex) _ _ _ _ (fun b o w=>w) ?_
  refine codeAny_handlers_suite (land I3 x3 t3 fun s4 I4 x4 t4=>?_)
  have hd0:=I.ok.hd
  refine wpAny_mono ((hh e (f1f hx hd0)).h pins s4 _ H' _ (I4.hand (e:=e)) hth) (fun f s6 q6=>?_) fun v s6 z=>hE e v s6 z
  cases f with
  | next=>obtain⟨σ6,H6,I6,q6⟩:=q6; exact⟨_,H6,I6.unhand hd0,q6⟩
  | brk=>obtain⟨σ6,H6,I6,q6⟩:=q6; exact⟨_,H6,I6.unhand hd0,q6⟩
  | cont=>obtain⟨σ6,H6,I6,q6⟩:=q6; exact⟨_,H6,I6.unhand hd0,q6⟩
  | ret u=>obtain⟨v,σ6,H6,I6,r6,q6⟩:=q6; exact⟨v,_,H6,I6.unhand hd0,r6,q6⟩⟩
theorem g1j{K:W.Frag}(h:X.K=K)(hst:X.stack=X.env :: X.outer/\X.env.frame=some X.env.locals)(hm:X.mg y=some (.ref Cy))(hE : ∀ e:Addr,PassesOwnAt (model X.prog X.w) (X.A.mark (some (.ref e))) X.A X.env X.xe)(hx:f5j X Es)
 (hb : ∀ pn W Eb,f5j (X.tryc pn W) Eb->QSs (X.tryc pn W) body (tb Eb)) (hh : ∀ e,f5j (X.hand e X.xe) Es->QSs (X.hand e X.xe) (b₀ :: suite) (th e))
 (hg:Gl X y:=by rfl) (hd:(y == ("__debug__" : Str))=false:=by decide):QS X (.Try body [.ExceptHandler (some (.Name y np)) none (b₀ :: suite) hpos] [] [] pos) (g4n K (.ref Cy) tb th):=by subst h; exact g5p hst hm hE hx hb hh hg hd
end
section
variable {X:Cx}{k j:Nat}{f C:Addr}{fd:FuncData}{ps:List Str}{sp:Sp}{x m:Str}{p pos:Pos}{e:Expr}{es:List Expr}{t:TA}{dvs:List V}{ds:List Value}{Es:St->XK}
structure h6s (P:Program) (w:World) (K:W.Frag) (mg:Str->Option Value) (base:Heap) (x:Str) (k:Nat) (f:Addr) (fd:FuncData) (ps:List Str) (sp:Sp):Prop where
 g:mg x=some (.ref f)
 kp:W.keepIn K (.ref f)=true
 b:a1h K fd ps []
 ok:g4a P w K mg base k f fd ps sp
end
section
variable {X:Cx}{K:W.Frag}{o i value:Expr}{td ty tv:TE}{pos pos':Pos}
def g3h:R2:=fun y x H Q=>∃ a ov,x=.ref a/\c9w H a y ov/\Q (.bl (!ov.isSome)) H
theorem e5h(hu:X.A.units+64 < cLine):OpR X (compareOp .NotIn) g3h:=by
 intro pins s σ H x y v u Q I rx ry q
 obtain⟨a,ov,rfl,g,q⟩:=q
 obtain rfl:u=Value.ref a:=ry
 exact g3m (by omega) I g rx fun s' I'=>⟨.bl (!ov.isSome),H,I',rfl,q⟩
theorem e2m(hu:X.A.units+64 < cLine)(ho:QE X o td)(hi:QE X i ty)(hs:g8y i:=by intro _ _; rfl):QE X (.Subscript o i pos) (g4t td ty):=⟨g2b (by omega) ho.h hi.h hs⟩
theorem d6e(hu:X.A.units+64 < cLine)(ho:QE X o td)(hi:QE X i ty)(hv:QE X value tv)(hs:swapsWith value (some (.Subscript o i pos')) pos.line X.env=pure false:=by rfl):QS X (.Assign [.Subscript o i pos'] value pos) (g5n td ty tv):=⟨g1t (by omega) ho.h hi.h hv.h hs⟩
end
section
variable {X:Cx}{K:W.Frag}{k j:Nat}{f C:Addr}{fd:FuncData}{ps:List Str}{sp:Sp}{x m:Str}{p pos apos pos' tpos:Pos}{e o value:Expr}{es:List Expr}{ta tv:TE}{t:TA}
theorem d9i{f:Str}(h:X.K=K)(ha:QE X o ta)(hv:QE X value tv):QS X (.AugAssign (.Attribute o f tpos) .Add value pos) (e9r K ta tv h2y f):=by subst h; exact⟨f0f ha.h hv.h g7r⟩
structure h6i (P:Program) (w:World) (K:W.Frag) (mg:Str->Option Value) (base:Heap) (C:Addr) (m:Str) (k:Nat) (f:Addr) (fd:FuncData) (ps:List Str) (sp:Sp):Prop where
 c:Cls K C
 mt:b3d K C m f
 b:a1h K fd ps []
 ok:g4a P w K mg base k f fd ps sp
theorem f1e{X:Cx}:f5j X (fun _=>E0):=⟨by
 rintro pins v s' ⟨σ',H',e',C,od,qq,tb',oe,vs,hv,I',hx',x,ht,hT,he,q⟩
 exact q.elim⟩
end
section
variable {X:Cx}{K:W.Frag}
def h5t:R2:=fun y x H Q=>∃ a ov,x=.ref a/\c9w H a y ov/\Q (.bl ov.isSome) H
theorem f8f(hu:X.A.units+64 < cLine):OpR X (compareOp .In) h5t:=by
 intro pins s σ H x y v u Q I rx ry q
 obtain⟨a,ov,rfl,g,q⟩:=q
 obtain rfl:u=Value.ref a:=ry
 exact h5z (by omega) I g rx fun s' I'=>⟨.bl ov.isSome,H,I',rfl,q⟩
def f9z(K:W.Frag):V->List V->Hp->VK->Prop:=fun x vs H Q=>∃ (a:Addr) (y:V) (xs:List V) (j:Nat),x=.ref a/\vs=[y]/\H a=some (.lst xs)/\c5t y=true/\xs.all c5t=true/\(∃ z,xs[j]? = some z/\eqV z y=true)/\(∀ i z,i < j->xs[i]? = some z->eqV z y=false)/\Q (.int (j:Int)) H
theorem f7i:MtR X "list.index" (f9z X.K):=by
 intro pins s σ H x vs v us Q I rx rs q
 obtain⟨a,y,xs,j,rfl,rfl,hx,fy,fx,⟨z,hz,ez⟩,hno,q⟩:=q
 cases rx
 obtain⟨u,rfl,ru⟩:=e6k rs
 obtain⟨its,rv,pl,hsz⟩:=I.list (.of hx)
 have hl:=rv.length
 have hj:j < its.length:=by have:=(List.getElem?_eq_some_iff.mp hz).1; omega
 obtain⟨⟨ocl,odc,oda,osl⟩,n,e1,e2,e3,e4⟩:=pl
 simp only at e2 e3 e4
 subst e2 e3 e4
 have at_ : ∀ i (hi:i < its.toArray.size),∃ z,xs[i]? = some z/\eqU y its.toArray[i]=eqV z y:=fun i hi=>by
  have hi':i < xs.length:=by rw[List.size_toArray]at hi; omega
  obtain⟨w,hw,rw'⟩:=rv.get (i:=i) (x:=xs[i]) (by simp[hi'])
  have e:its.toArray[i]=w:=by simpa using (List.getElem?_eq_some_iff.mp hw).2
  refine⟨xs[i],by simp[hi'],?_⟩
  rw[e]
  exact f2x rw' (List.all_eq_true.mp fx _ (List.getElem_mem hi'))
 refine call_meets PySem.F.slot_list_index ⟨_,e1,rfl⟩ PySem.F.entry_list_index (PySem.F.args_list_index_2 _ _)
  (SeqAt.list_indexAt a its.toArray n _ _ u (eqU y) j (by simpa using hj) ?_ ?_ ?_) ⟨e1,fun w hw=>c1z ru fy rv fx w (by simpa using hw),⟨.int j,H,I.tok _,⟨_,rfl⟩,q⟩⟩
 ·have:sizeLine<=2 ^ 40:=by decide
  have:(2:Int) ^ 63=9223372036854775808:=by decide
  have:(2:Nat) ^ 40=1099511627776:=by decide
  omega
 ·obtain⟨z',h1,h2⟩:=at_ j (by simpa using hj)
  rw[hz]at h1
  cases h1
  rw[h2]; exact ez
 ·intro i hi hij
  obtain⟨z',h1,h2⟩:=at_ i hi
  rw[h2]
  exact hno i z' hij h1
theorem d0o (h:X.K=K):MtR X "list.index" (f9z K):=by subst h; exact f7i
end
section
open HT
variable {prog:Program}{w:World}{A:Around}{E:Value->Shared->Prop}{s:Shared}
theorem c3x{t sl:Addr}{items:Array Value}{vl vu:Value}{lo hi:Option Int}{Q:Value->Shared->Prop}(ht:IsTup s.heap t items)(hs:s.heap.IsSliceOf sl vl vu .none)(pl:IsPart vl lo)(pu:IsPart vu hi)
 (hw:sIx items.size 0 lo=0/\sIx items.size items.size hi=items.size) (h:Q (.ref t) s):wpAny (model prog w) A (getItem (.ref t) (.ref sl)) Q E s:=by
 obtain⟨os,hos,hcs,hds⟩:=id hs
 have hTs:s.TypeIs (.ref sl) "slice":=⟨os,hos,hcs⟩
 unfold getItem
 try with_reducible refine wpAny_holding ?_
 first | refine wpAny_bind (wpAny_pure ?_) | skip
 refine wpAny_bind (wpAny_sequenceKey ht.typeIs (by decide) ?_)
 refine wpAny_bind (wpAny_callSpecial?_slot (name:=Str.ofString "__getitem__") ht.typeIs PyProof.Rows.slot_tuple_getitem
  (wpAny_call_entry PyProof.Rows.slot_tuple_getitem ht.typeIs entry_tuple_getitem ?_ (args_tuple_getitem _ _)))
 show wpAny _ _ (Builtin.Tuple.tupleItemsOf (.ref t) >>= _) _ _ s
 refine wpAny_bind (tupleItemsOf_ ht ?_)
 refine wpAny_bind (wpAny_typeOf hTs ?_)
 rw[if_pos (by decide)]
 refine wpAny_bind (c0f hs pl pu ?_)
 have hyes:((((sIx items.size 0 lo:Nat):Int) == 0 && (1:Int) == 1 && (sIx items.size items.size hi - sIx items.size 0 lo) == items.size)=true):=by
  rw[hw.1,hw.2]
  simp
 show wpAny _ _ (if (((sIx items.size 0 lo:Nat):Int) == 0 && (1:Int) == 1 && (sIx items.size items.size hi - sIx items.size 0 lo) == items.size)=true then _ else _) _ _ s
 rw[if_pos hyes]
 unfold Builtin.Tuple.tupleIsExact
 refine wpAny_bind (wpAny_bind (wpAny_typeOf ht.typeIs (wpAny_pure ?_)))
 rw[if_pos (by decide)]
 refine wpAny_bind (wpAny_rule ?_)
 first
  | exact wpAny_pure ⟨_,rfl,wpAny_pure h⟩
  | exact wpAny_bind (wpAny_pure ⟨_,rfl,wpAny_pure h⟩)
  | exact wpAny_bind (wpAny_pure (wpAny_pure ⟨_,rfl,wpAny_pure h⟩))
end
section
variable {X:Cx}{K:W.Frag}{pos:Pos}
def h0s:TE:=fun _ H Q=>∀ p H',Gro H p (.dT []) H'->Q (.ref p) H'
theorem d9h:QE X (.Dict [] [] pos) h0s:=⟨f6u.imp fun σ H Q q=>fun p hp=>q p _ (.mk' hp)⟩
def h3j(K:W.Frag):V->Option Int->Option Int->Hp->VK->Prop:=fun x lo hi H Q=>match x with
 | .ref a=>∃ xs,SqT K H a xs/\H a=some (.tup xs)/\∀ p H',a1l H H'->H' p=some (.tup (d5g xs lo hi))->Q (.ref p) H'
 | _=>False
theorem h1e:SlR X (h3j X.K):=by
 intro pins s σ H x v vl vu lo hi sl Q I rx hs pl pu q
 cases x with
 | ref a =>
  obtain⟨xs,h1,h2,q⟩:=q
  by_cases hw:HT.sIx xs.length 0 lo=0/\HT.sIx xs.length xs.length hi=xs.length
  ·cases rx
   obtain⟨its,r,ht,hz⟩:=I.tuple h1
   have hlen:its.toArray.size=xs.length:=by rw[List.size_toArray]; exact r.length.symm
   refine⟨"tuple",_,PyProof.Rows.slot_tuple_getitem.lookup,ht.typeIs,?_⟩
   refine c3x ht hs pl pu (by rw[hlen]; exact hw) ?_
   refine⟨.ref a,H,I,rfl,q a H (a1l.refl _) ?_⟩
   rw[h2]
   unfold d5g
   rw[hw.1,hw.2,List.drop_zero,List.take_of_length_le (by omega)]
  ·exact g5k pins s σ H _ v vl vu lo hi sl Q I rx hs pl pu ⟨a,xs,rfl,h1,hw,fun p hp=>q p _ (Gro.mk' hp).sm (Gro.mk' hp).at_⟩
 | _=>exact False.elim q
theorem f9x(h:X.K=K):SlR X (h3j K):=by subst h; exact h1e
end
structure g3z (K:W.Frag) (Y f:Addr):Prop where
 sp:W.specialIn K (.ref Y) "__getattribute__" = some (some (.builtin "type.__getattribute__"))
 rd:W.readsIn K Y (.type "type")=true
 fc:W.findCls K (.ref Y) (.type "type") "__init__" = some (.val (.ref f))
structure h2b (P:Program) (w:World) (K:W.Frag) (mg:Str->Option Value) (base:Heap) (j:Nat) (f:Addr) (fd:FuncData) (ps:List Str) (dvs:List V) (sp:Sp):Prop where
 kp:W.keepIn K (.ref f)=true
 b : ∃ ds,a1h K fd ps ds/\a5s dvs ds
 ok:b8g P w K mg base CX0 j f fd ps sp
section
variable {X:Cx}{K:W.Frag}{Y g:Addr}{y:Str}{np apos pos:Pos}{a:Expr}{es:List Expr}{t:TA}{k j:Nat}{fd:FuncData}{ps:List Str}{sp:Sp}{dvs:List V}
theorem f0d{pl:Sem Bool}(h:X.K=K)(B:g3z K Y g)(hm:X.mg y=some (.ref Y))(F:h2b X.prog X.w X.K X.mg X.base j g fd ps dvs sp)(hr:c2r k X.A)(ha:QA X (a :: es) t)(hj:j<=k:=by decide)(hg:Gl X y:=by rfl)(hd:(y == ("__debug__" : Str))=false:=by decide)(hn:b0x (a :: es)=true:=by rfl)
 (ht:eval (.Call (.Attribute (.Name y np) "__init__" apos) (a :: es) [] pos) X.env=(do
   let ov <- eval (.Name y np) X.env
   standAt apos.atName
   let (f,first) <- holding [ov] (getMethod ov "__init__" pl)
   callWith pos f first (backTo pos (starEach (a :: es) X.env)) (backToKw pos (keywordEach [] X.env))):=by rfl) :
 QE X (.Call (.Attribute (.Name y np) "__init__" apos) (a :: es) [] pos) (e9d sp dvs E0 t):=⟨by
 subst h
 intro pins s σ H Q I h
 have ho:PE X (.Name y np) (tC (.ref Y)):=(b0v (v:=.ref Y) hg hm rfl hd).h
 refine W.methodCall_KW (pl:=pl) (thn (ho pins s σ H (fun v H'=>v=.ref Y/\e9d sp dvs E0 t σ H' Q) I ⟨rfl,h⟩) fun u s1 ⟨x,H1,I1,rx,ex,q⟩=>?_) ht
 subst ex
 obtain rfl:u=Value.ref Y:=rx
 refine W.method_cls I1.kIn B.sp (W.cls_value (s:=s1) I1.kIn B.rd B.fc rfl ?_)
 have I2:=I1.tok (s1.toks+1)
 obtain⟨ds,hb,hds⟩:=F.b
 refine W.callWith_K (h₀:=X.base) I2.ok.mod.kin F.kp (thn (ha.h pos pins { s1 with toks:=s1.toks+1 } σ H1 _ I2 q) fun us s2 ⟨vs,H2,I3,r,q2⟩=>⟨I3.kIn,?_⟩) (a2h (a2j hn).1) (a9f (a2j hn).2)
 exact e4s F.ok (hr.mono hj) hb hds g6g I3 r q2⟩
end
open PySem.AutoSeq1 (wpAny_loadPart')
open PySem.MeetsSeq
theorem g2s(n:Int)(ns:List Int):inV (.int n) (ns.map V.int)=decide (n∈ns):=by
 induction ns with
 | nil=>rfl
 | cons m ns ih =>
  unfold inV at *
  rw[List.map_cons,List.any_cons,ih]
  simp only [eqV,List.mem_cons]
  by_cases e:m=n
  ·simp[e]
  ·have : ¬ n=m:=fun z=>e z.symm
   simp[e,this]
section
variable {X:Cx}{o e:Expr}{apos cpos:Pos}{td ty:TE}
theorem e4w (hu:X.A.units+64 < cLine) (ho:QE X o td) (he:QE X e ty) (hb:attributeBase o "get" X.env (eval o X.env)=eval o X.env:=by rfl)
 (hf:((backTo cpos (starEach [e] X.env)).all (fun x=>!x.1) && (backToKw cpos (keywordEach [] X.env)).all (fun x=>x.1.isSome)
   && decide (([e]:List Expr).length+([]:List Keyword).length+(if ([]:List Keyword).isEmpty then 0 else 1) < 30))=true:=by rfl)
 (hl:(apos.endLine == cpos.line)=true:=by rfl) (ht:backTo cpos (starEach [e] X.env)=[(false,eval e X.env)]:=by rfl) :
 QE X (.Call (.Attribute o "get" apos) [e] [] cpos) (f9d td ty):=⟨f6w (by omega) ho.h he.h ⟨hb,hf,hl,ht⟩⟩
end
section
variable {X:Cx}{K:W.Frag}
def FlL(H:Hp)(y:V):Prop:=c5t y=true\/∃ a zs,y=.ref a/\H a=some (.lst zs)
end
def strOf? : Value->Option Str
 | .str x _=>some x
 | _=>none
def refOf? : Value->Option Addr
 | .ref a=>some a
 | _=>none
theorem strOf?.eq{v:Value}{x:Str}(h:strOf? v=some x) : ∃ t,v=.str x t:=by
 cases v <;> first | (cases h; exact⟨_,rfl⟩) | cases h
theorem refOf?.eq{v:Value}{a:Addr}(h:refOf? v=some a):v=.ref a:=by
 cases v <;> first | (cases h; rfl) | cases h
def c1c:List DictEntry->Option (List (Int × Str × Addr))
 | []=>some []
 | e :: r=>(strOf? e.key).bind fun x=>(refOf? e.val).bind fun a=>(c1c r).map fun l=>(e.hash,x,a) :: l
theorem c1c.pairs{P:Program}{w:World} : ∀ {es:List DictEntry} {m:List (Int × Str × Addr)},c1c es=some m->(∀ p∈m,p.1=hashStr w p.2.1) ->
 (∀ e∈es,∃ k,(a3q P w).is k e.key=true/\e.hash=(a3q P w).hash k)/\Pairs (a3q P w) es (m.map fun p=>((Sum.inr p.2.1:Key),Value.ref p.2.2))
 | [],m,h,_=>by cases h; exact⟨fun _ z=>(nomatch z),.nil⟩
 | e :: r,m,h,hs=>by
  unfold c1c at h
  obtain⟨x,hx,h⟩:=Option.bind_eq_some_iff.mp h
  obtain⟨a,ha,h⟩:=Option.bind_eq_some_iff.mp h
  obtain⟨l,hl,h⟩:=Option.map_eq_some_iff.mp h
  subst h
  obtain⟨tk,ek⟩:=strOf?.eq hx
  obtain⟨i1,i2⟩:=c1c.pairs (P:=P) (w:=w) hl fun p hp=>hs p (List.mem_cons_of_mem _ hp)
  have kk:(a3q P w).is (.inr x) e.key=true:=by rw[ek]; exact d0n P w x tk
  refine⟨fun e' he=>?_,.cons kk (refOf?.eq ha) i2⟩
  rcases List.mem_cons.mp he with rfl | he
  ·exact⟨.inr x,kk,hs _ List.mem_cons_self⟩
  ·exact i1 e' he
structure g8q (K:W.Frag) (w:World) (a:Addr) (m:List (Int × Str × Addr)):Prop where
 ex : ∃ es ep,K.lookup a=some ⟨.type "dict",none,.dict es ep,#[]⟩/\c1c es.toList=some m
 hs : ∀ p∈m,p.1=hashStr w p.2.1
 nd:(m.map (·.2.1)).Nodup
 ns:(a == sysModules)=false
theorem g8q.rd{K:W.Frag}{a:Addr}{m:List (Int × Str × Addr)}{P:Program}{w:World}{h:Heap}(D:g8q K w a m)(X:K.In h):h.DictOf (a3q P w) a (m.map fun p=>((Sum.inr p.2.1:Key),Value.ref p.2.2)):=by
 obtain⟨es,ep,l,e⟩:=D.ex
 obtain⟨i1,i2⟩:=c1c.pairs (P:=P) (w:=w) e D.hs
 refine⟨_,es,ep,X _ _ l,⟨rfl,rfl,rfl⟩,rfl,fun e he=>i1 e (Array.mem_toList_iff.mpr he),i2,?_⟩
 rw[List.map_map]
 have:(((fun x=>x.1) ∘ fun p:Int × Str × Addr=>((Sum.inr p.2.1:Key),Value.ref p.2.2)):Int × Str × Addr->Key)=(fun i:Str=>(Sum.inr i:Key)) ∘ (·.2.1):=rfl
 rw[this,<- List.map_map]
 exact List.Pairwise.map _ (fun a b (z:a≠b) (q:(Sum.inr a:Key)=Sum.inr b)=>z (Sum.inr.inj q)) D.nd
def f5e(m:List (Int × Str × Addr))(z:Str):Option Addr:=(m.find? fun p=>decide (p.2.1=z)).map (·.2.2)
theorem d6s : ∀ (m:List (Int × Str × Addr)) (z:Str),valueAt (m.map fun p=>((Sum.inr p.2.1:Key),Value.ref p.2.2)) (Sum.inr z)=(f5e m z).map Value.ref
 | [],z=>rfl
 | p :: m,z=>by
  have ih:=d6s m z
  unfold f5e valueAt at ih ⊢
  rw[List.map_cons,List.find?_cons,List.find?_cons]
  by_cases c:p.2.1=z
  ·have c':(Sum.inr p.2.1:Key)=Sum.inr z:=congrArg _ c
   simp only [decide_eq_true c,decide_eq_true c',Option.map_some]
  ·have c' : ¬ (Sum.inr p.2.1:Key)=Sum.inr z:=fun q=>c (Sum.inr.inj q)
   simp only [decide_eq_false c,decide_eq_false c']
   exact ih
def h5s(a:Addr)(m:List (Int × Str × Addr))(neg:Bool):R2:=fun x y H Q=>∃ z,x=.str z/\y=.ref a/\Q (.bl (if neg then !(f5e m z).isSome else (f5e m z).isSome)) H
section
variable {X:Cx}{K:W.Frag}{w:World}{a:Addr}{m:List (Int × Str × Addr)}
theorem f8c(h:X.K=K)(hw:X.w=w)(D:g8q K w a m):OpR X (compareOp .NotIn) (h5s a m true):=by
 subst h hw
 intro pins s σ H x y v u Q I rx ry q
 obtain⟨z,rfl,rfl,q⟩:=q
 obtain rfl:u=Value.ref a:=ry
 refine wpAny_notIn_of (d6l (k:=.inr z) rx) D.ns (D.rd (P:=X.prog) (w:=X.w) I.kIn).mapOf ?_
 rw[d6s,Option.isSome_map]
 exact⟨.bl _,H,I.tok _,rfl,q⟩
theorem g5q{i:Expr}{ti:TE}{x:Str}{p pos:Pos}(h:X.K=K)(hw:X.w=w)(D:g8q K w a m)(hg:Gl X x)(hm:X.mg x=some (.ref a))(hi:QE X i ti)(hs:g8y i:=by intro _ _; rfl)(hd:(x == ("__debug__" : Str))=false:=by decide) :
 QE X (.Subscript (.Name x p) i pos) (fun σ H Q=>ti σ H fun y H1=>∃ z b,y=.str z/\f5e m z=some b/\Q (.ref b) H1):=⟨by
 subst h hw
 intro pins s σ H Q I h
 have ho:PE X (.Name x p) (tC (.ref a)):=(b0v (v:=.ref a) hg hm rfl hd).h
 refine e9e PySem.F.slot_dict_getitem.lookup hs (thn (ho pins s σ H (fun v H'=>v=.ref a/\ti σ H' fun y H1=>∃ z b,y=.str z/\f5e m z=some b/\Q (.ref b) H1) I ⟨rfl,h⟩) fun u s1 ⟨x,H1,I1,rx,ex,q1⟩=>thn (hi.h pins s1 σ H1 _ I1 q1) fun iv s2 ⟨y,H2,I2,ry,z,b,ey,g,q2⟩=>?_)
 subst ex ey
 obtain rfl:u=Value.ref a:=rx
 have dd:=D.rd (P:=X.prog) (w:=X.w) I2.kIn
 exact⟨dd.typeIs,wpAny_getItem_of (d6l (k:=.inr z) ry) dd.mapOf (by rw[d6s,g]; rfl) ⟨.ref b,H2,I2.tok _,rfl,q2⟩⟩⟩
end
structure h6u (P:Program) (w:World) (K:W.Frag) (mg:Str->Option Value) (base:Heap) (x:Str) (k:Nat) (f:Addr) (fd:FuncData) (ps:List Str) (dvs:List V) (sp:Sp):Prop where
 g:mg x=some (.ref f)
 kp:W.keepIn K (.ref f)=true
 b : ∃ ds,a1h K fd ps ds/\a5s dvs ds
 ok:b8g P w K mg base CX0 k f fd ps sp
def c2v:List Value->Option (List Addr)
 | []=>some []
 | .ref m :: u=>(match c2v u with | some l=>some (m :: l) | none=>none)
 | _=>none
theorem c2v.vals : ∀ {us:List Value} {ns:List Addr},c2v us=some ns->a5s (ns.map V.ref) us
 | [],ns,h=>by cases h; exact .nil
 | .ref m :: u,ns,h=>by
  unfold c2v at h
  cases q:c2v u with
  | none=>rw[q]at h; cases h
  | some l=>rw[q]at h; cases h; exact .cons rfl (c2v.vals q)
theorem h2h {K:W.Frag} {a:Addr} {od:Option Addr} {its:Array Value} {n:Nat} {sl:Array (Option Value)} {ns:List Addr} (h:K.lookup a=some ⟨.type "tuple",od,.seq its n,sl⟩) (hv:c2v its.toList=some ns) (hz:its.size<=1000:=by decide) (H:Hp):SqT K H a (ns.map V.ref) :=
 .inr ⟨_,its,n,h,rfl,rfl,sz (Nat.ble_eq_true_of_le hz),c2v.vals hv⟩
end L2
namespace L2
open PySem
theorem e3l{lo c:Int}{n:Nat}{cs:St}{tt:TT}{te:TE}{H:Hp}{Q:VK}(Pv:Nat->List V->Hp->Prop)(h0:Pv 0 [] H)(hl : ∀ i ys H,i<=n->Pv i ys H->ys.length<=i)(hz:n<=sizeLine)
 (hs : ∀ i ys H (N:List V->Hp->Prop),i < n->Pv i ys H->(∀ ys' H',Pv (i+1) ys' H'->N ys' H')->tt (some (.int (lo+i*c)) :: cs) H fun b H4=>if b=true then te (some (.int (lo+i*c)) :: cs) H4 fun y H5=>N (ys++[y]) H5 else N ys H4)
 (hd : ∀ ys H p H',Pv n ys H->Gro H p (.lst ys) H'->Q (.ref p) H') :
 e1l (g8z lo c n) H (List.replicate 1 none++cs) (b5k 0) tt te Q:=by
 refine⟨fun i m ys σ H=>m=n - i/\i<=n/\Pv i ys H/\∃ v0,σ=v0 :: cs,⟨n,by simp,Nat.zero_le _,h0,none,rfl⟩,?_⟩
 rintro i m ys σ H2 ⟨rfl,hi,p,v0,rfl⟩
 have ql:=hl i ys H2 hi p
 by_cases hlt:i < n
 ·refine .inr ⟨hlt,by omega,fun ys' σ' H'=>Pv (i+1) ys' H'/\∃ v0,σ'=v0 :: cs,fun ys' σ' H' ⟨p',e⟩=>⟨n - (i+1),by omega,rfl,hlt,p',e⟩,fun x H' y=>?_⟩
  obtain⟨e,y⟩:=y
  subst e y
  exact hs i ys H' (fun ys' H'=>Pv (i+1) ys' H'/\∃ v0,some (V.int (lo+i*c)) :: cs=v0 :: cs) hlt p fun _ _ z=>⟨z,_,rfl⟩
 ·have e:i=n:=by omega
  subst e
  exact .inl ⟨Nat.le_refl _,by omega,fun p' H' g=>hd ys H2 p' H' p g⟩
theorem f3m{lo c:Int}{n:Nat}{cs:St}{te:TE}{H:Hp}{Q:VK}(rs:List V)(hl:rs.length=n)(hz:n<=sizeLine)
 (hs : ∀ (i:Nat) y H' (N:VK),i < n->rs[i]? = some y->a1l H H'->(∀ H'',a1l H' H''->N y H'')->te (some (.int (lo+i*c)) :: cs) H' N) (hd : ∀ p H',Gro H p (.lst rs) H'->Q (.ref p) H') :
 e1l (g8z lo c n) H (List.replicate 1 none++cs) (b5k 0) c9y te Q:=by
 refine e3l (fun i ys H'=>a1l H H'/\ys=rs.take i) ⟨a1l.refl _,rfl⟩ (fun i ys H' hi z=>by rw[z.2,List.length_take]; omega) hz (fun i ys H' N hi z hN=>?_) fun ys H' p H'' z g=>?_
 ·obtain⟨s,rfl⟩:=z
  have hi':i < rs.length:=by omega
  have hy:rs[i]? = some rs[i]:=List.getElem?_eq_getElem hi'
  simp only [c9y,if_true]
  exact hs i _ H' _ hi hy s fun H'' s'=>hN _ _ ⟨s.trans s',by rw[a5w hy]⟩
 ·obtain⟨s,rfl⟩:=z
  rw[<- hl,List.take_length]at g
  exact hd p H'' (g.after s)
end L2
namespace My
open PySem L2
def top(i:Nat):Stmt:=PySem.Challenge.pw_bytetongue_k74_whole_seen_and_back.main.body.getD i (.Pass ⟨0,0,0,0⟩)
abbrev b1n:Stmt:=top 10
abbrev b7z:Stmt:=top 11
abbrev b7y:Stmt:=top 12
abbrev b7w:Stmt:=top 13
abbrev a6y:Stmt:=top 14
abbrev b7x:Stmt:=top 15
abbrev b8p:Stmt:=top 16
abbrev b5b:Stmt:=top 17
abbrev b0o:Stmt:=top 26
abbrev c7f:Stmt:=top 27
abbrev a3v:Stmt:=a1s (top 31) 0
abbrev a3j:Stmt:=a1s (top 31) 1
abbrev a8w:Stmt:=a1s (top 29) 0
abbrev a4l:Stmt:=a1s (top 32) 0
abbrev a8x:Stmt:=a1s (top 29) 2
abbrev b0n:Stmt:=top 33
abbrev b4q:Stmt:=a1s (top 37) 0
abbrev b4s:Stmt:=a1s (top 39) 0
abbrev b4r:Stmt:=a1s (top 39) 1
abbrev b1o:Stmt:=a1s (top 40) 0
abbrev a9d:Stmt:=a1s (top 35) 0
abbrev a4c:Stmt:=a1s (top 42) 0
abbrev a4b:Stmt:=a1s (top 42) 1
abbrev a6a:Stmt:=a1s (top 35) 4
abbrev a9e:Stmt:=a1s (top 35) 7
abbrev b0q:Stmt:=a1s (top 35) 8
abbrev a9b:Stmt:=a1s (top 35) 9
abbrev a2p:Stmt:=a1s (top 35) 10
abbrev a3w:Stmt:=a1s (top 35) 11
abbrev a9c:Stmt:=a1s (top 35) 13
abbrev b0p:Stmt:=top 44
abbrev c1w:Stmt:=top 45
abbrev b4o:Stmt:=top 46
abbrev a8y:Stmt:=a1s (top 48) 1
abbrev a7a:Stmt:=a1s (top 48) 3
abbrev a6z:Stmt:=a1s (top 48) 4
abbrev a9a:Stmt:=a1s (top 48) 5
abbrev a8z:Stmt:=a1s (top 48) 6
abbrev b1l:Stmt:=top 55
abbrev b1m:Stmt:=top 56
abbrev a5y:Stmt:=top 57
abbrev a5z:Stmt:=top 58
abbrev a8u:Stmt:=top 59
abbrev b7v:Stmt:=top 60
abbrev b5c:Stmt:=top 61
abbrev a4a:Stmt:=a1s (top 62) 1
abbrev a3z:Stmt:=a1s (top 62) 2
abbrev a3m:Stmt:=a1s (top 62) 3
abbrev b4n:Stmt:=top 67
abbrev b7u:Stmt:=top 68
abbrev a4n:Stmt:=a1s (top 69) 0
abbrev a4m:Stmt:=a1s (top 69) 1
abbrev a3k:Stmt:=a1s (top 69) 3
abbrev a3l:Stmt:=a1s (top 69) 4
abbrev a2i:Stmt:=a1s (top 69) 5
abbrev a3y:Stmt:=a1s (top 69) 6
abbrev a3x:Stmt:=a1s (top 69) 7
abbrev a4o:Stmt:=a1s (top 69) 8
abbrev c1x:Stmt:=top 71
abbrev b1k:Stmt:=top 75
abbrev a3t:Stmt:=a1s (top 76) 0
abbrev a2f:Stmt:=a1s (top 76) 1
abbrev a3i:Stmt:=a1s (top 76) 6
abbrev a2u:Stmt:=a1s (top 76) 7
abbrev a3h:Stmt:=a1s (top 76) 8
abbrev a3u:Stmt:=a1s (top 76) 9
abbrev b4p:Stmt:=top 80
abbrev b8a:Stmt:=top 81
abbrev a8v:Stmt:=top 82
abbrev a3r:Stmt:=a1s (top 83) 0
abbrev a3g:Stmt:=a1s (top 83) 1
abbrev a3f:Stmt:=a1s (top 83) 4
abbrev a3e:Stmt:=a1s (top 83) 5
abbrev a3s:Stmt:=a1s (top 83) 6
abbrev b7t:Stmt:=top 85
abbrev b7s:Stmt:=top 87
abbrev b4m:Stmt:=top 88
abbrev b1j:Stmt:=top 89
abbrev b2s:Stmt:=top 90
abbrev b5a:Stmt:=top 91
abbrev b7r:Stmt:=top 92
abbrev b1i:Stmt:=top 93
abbrev b0m:Stmt:=top 95
abbrev b0l:Stmt:=top 96
abbrev b7q:Stmt:=top 97
abbrev b3q:Stmt:=top 98
abbrev b4l:Stmt:=top 99
abbrev c7e:Stmt:=top 100
abbrev a8t:Stmt:=top 101
abbrev b1h:Stmt:=top 102
abbrev d6c:Stmt:=top 103
theorem d9d:a0u ["thing"] ["thing"] (a0f b1n):=by constructor<;>first|rfl|decide +kernel
theorem e6v:a0u ["thing"] ["thing"] (a0f b7z):=by constructor<;>first|rfl|decide +kernel
theorem e6u:a0u ["number"] ["number"] (a0f b7y):=by constructor<;>first|rfl|decide +kernel
theorem e6r:a0u ["number"] ["number"] (a0f b7w):=by constructor<;>first|rfl|decide +kernel
theorem d0a:a0u ["thing"] ["thing"] (a0f a6y):=by constructor<;>first|rfl|decide +kernel
theorem e6s:a0u ["thing"] ["thing"] (a0f b7x):=by constructor<;>first|rfl|decide +kernel
theorem e9p:a0u ["thing"] ["thing"] (a0f b8p):=by constructor<;>first|rfl|decide +kernel
theorem e6t:a0u ["thing"] ["thing"] (a0f b5b):=by constructor<;>first|rfl|decide +kernel
theorem a8s:a0u ["tongue", "text", "page", "row", "at", "sign", "spelled"] ["tongue", "text", "page"] (a0f b0o):=by constructor<;>first|rfl|decide +kernel
theorem f5z:a0u ["tongue", "text"] ["tongue", "text"] (a0f c7f):=by constructor<;>first|rfl|decide +kernel
theorem c3g:a0u ["self", "tongue"] ["self", "tongue"] (a0f a3v):=by constructor<;>first|rfl|decide +kernel
theorem b3h:a0u ["self", "sign", "page"] ["self", "sign", "page"] (a0f a3j):=by constructor<;>first|rfl|decide +kernel
theorem d3u:a0u ["self", "tongue"] ["self", "tongue"] (a0f a8w):=by constructor<;>first|rfl|decide +kernel
theorem c5g:a0u ["self", "tongue"] ["self", "tongue"] (a0f a4l):=by constructor<;>first|rfl|decide +kernel
theorem c2s:a0u ["self", "text", "written"] ["self", "text"] (a0f a8x):=by constructor<;>first|rfl|decide +kernel
theorem d5z:a0u ["tongue", "text"] ["tongue", "text"] (a0f b0n):=by constructor<;>first|rfl|decide +kernel
theorem e2g:a0u ["self", "row"] ["self", "row"] (a0f b4q):=by constructor<;>first|rfl|decide +kernel
theorem e2j:a0u ["self", "sign"] ["self", "sign"] (a0f b4s):=by constructor<;>first|rfl|decide +kernel
theorem e2i:a0u ["self", "row"] ["self", "row"] (a0f b4r):=by constructor<;>first|rfl|decide +kernel
theorem e2h:a0u ["self", "row"] ["self", "row"] (a0f b1o):=by constructor<;>first|rfl|decide +kernel
theorem d3z:a0u ["self", "tongue", "place"] ["self", "tongue", "place"] (a0f a9d):=by constructor<;>first|rfl|decide +kernel
theorem c3k:a0u ["self", "tongue", "way", "place"] ["self", "tongue", "way", "place"] (a0f a4c):=by constructor<;>first|rfl|decide +kernel
theorem a6l:a0u ["self", "length", "kind", "told"] ["self", "length", "kind"] (a0f a4b):=by constructor<;>first|rfl|decide +kernel
theorem c9h:a0u ["self"] ["self"] (a0f a6a):=by constructor<;>first|rfl|decide +kernel
theorem b6h:a0u ["self", "row", "signs", "byte"] ["self", "row"] (a0f a9e):=by constructor<;>first|rfl|decide +kernel
theorem c5h:a0u ["self", "signs"] ["self"] (a0f b0q):=by constructor<;>first|rfl|decide +kernel
theorem d3x:a0u ["self", "byte"] ["self", "byte"] (a0f a9b):=by constructor<;>first|rfl|decide +kernel
theorem a2v:a0u ["self", "found"] ["self"] (a0f a2p):=by constructor<;>first|rfl|decide +kernel
theorem a6k:a0u ["self", "ahead_of_last"] ["self"] (a0f a3w):=by constructor<;>first|rfl|decide +kernel
theorem d3y:a0u ["self", "length", "kind"] ["self", "length", "kind"] (a0f a9c):=by constructor<;>first|rfl|decide +kernel
theorem d6a:a0u ["number", "bits"] ["number", "bits"] (a0f b0p):=by constructor<;>first|rfl|decide +kernel
theorem c0n:a0u ["number", "bits", "many", "rising", "step", "higher"] ["number", "bits", "many"] (a0f c1w):=by constructor<;>first|rfl|decide +kernel
theorem b8o:a0u ["parts", "bits", "number", "part"] ["parts", "bits"] (a0f b4o):=by constructor<;>first|rfl|decide +kernel
theorem d3v:a0u ["self"] ["self"] (a0f a8y):=by constructor<;>first|rfl|decide +kernel
theorem d0c:a0u ["self", "sign", "page"] ["self", "sign", "page"] (a0f a7a):=by constructor<;>first|rfl|decide +kernel
theorem d0b:a0u ["self", "row", "page"] ["self", "row", "page"] (a0f a6z):=by constructor<;>first|rfl|decide +kernel
theorem d3w:a0u ["self", "row", "page"] ["self", "row", "page"] (a0f a9a):=by constructor<;>first|rfl|decide +kernel
theorem c2t:a0u ["self", "begun", "page", "found"] ["self", "begun", "page"] (a0f a8z):=by constructor<;>first|rfl|decide +kernel
theorem d9c:a0u ["sign"] ["sign"] (a0f b1l):=by constructor<;>first|rfl|decide +kernel
theorem c3d:a0u ["sign", "length", "parts"] ["sign"] (a0f b1m):=by constructor<;>first|rfl|decide +kernel
theorem c9f:a0u ["first"] ["first"] (a0f a5y):=by constructor<;>first|rfl|decide +kernel
theorem c9g:a0u ["row", "place"] ["row", "place"] (a0f a5z):=by constructor<;>first|rfl|decide +kernel
theorem b6g:a0u ["row", "place", "bounds"] ["row"] (a0f a8u):=by constructor<;>first|rfl|decide +kernel
theorem d4v:a0u ["row", "lack"] ["row"] (a0f b7v):=by constructor<;>first|rfl|decide +kernel
theorem e6x:a0u ["row"] ["row"] (a0f b5c):=by constructor<;>first|rfl|decide +kernel
theorem c3j:a0u ["self", "sign", "page"] ["self", "sign", "page"] (a0f a4a):=by constructor<;>first|rfl|decide +kernel
theorem c3i:a0u ["self", "row", "page"] ["self", "row", "page"] (a0f a3z):=by constructor<;>first|rfl|decide +kernel
theorem b5y:a0u ["self", "row", "page", "lack"] ["self", "row", "page"] (a0f a3m):=by constructor<;>first|rfl|decide +kernel
theorem c9z:a0u ["sign", "parts"] ["sign"] (a0f b4n):=by constructor<;>first|rfl|decide +kernel
theorem e6q:a0u ["units"] ["units"] (a0f b7u):=by constructor<;>first|rfl|decide +kernel
theorem c5j:a0u ["self", "order"] ["self", "order"] (a0f a4n):=by constructor<;>first|rfl|decide +kernel
theorem c5i:a0u ["self"] ["self"] (a0f a4m):=by constructor<;>first|rfl|decide +kernel
theorem c2g:a0u ["self", "pair"] ["self", "pair"] (a0f a3k):=by constructor<;>first|rfl|decide +kernel
theorem a9n:a0u ["self", "units", "row", "number"] ["self", "units"] (a0f a3l):=by constructor<;>first|rfl|decide +kernel
theorem c0k:a0u ["self", "row"] ["self", "row"] (a0f a2i):=by constructor<;>first|rfl|decide +kernel
theorem c3h:a0u ["self", "sign", "page"] ["self", "sign", "page"] (a0f a3y):=by constructor<;>first|rfl|decide +kernel
theorem b4z:a0u ["self", "row", "page", "sign"] ["self", "row", "page"] (a0f a3x):=by constructor<;>first|rfl|decide +kernel
theorem b5x:a0u ["self", "row", "page", "rest"] ["self", "row", "page"] (a0f a4o):=by constructor<;>first|rfl|decide +kernel
theorem e9q:a0u ["one", "other"] ["one", "other"] (a0f c1x):=by constructor<;>first|rfl|decide +kernel
theorem b5w:a0u ["signs", "which", "places", "place", "sign"] ["signs", "which"] (a0f b1k):=by constructor<;>first|rfl|decide +kernel
theorem c3e:a0u ["self", "first", "second"] ["self", "first", "second"] (a0f a3t):=by constructor<;>first|rfl|decide +kernel
theorem a5r:a0u ["self", "page", "place", "sign"] ["self", "page"] (a0f a2f):=by constructor<;>first|rfl|decide +kernel
theorem c2f:a0u ["self", "sign", "page"] ["self", "sign", "page"] (a0f a3i):=by constructor<;>first|rfl|decide +kernel
theorem c0j:a0u ["self", "byte", "page"] ["self", "byte", "page"] (a0f a2u):=by constructor<;>first|rfl|decide +kernel
theorem a9m:a0u ["self", "row", "page", "sign"] ["self", "row", "page"] (a0f a3h):=by constructor<;>first|rfl|decide +kernel
theorem c3f:a0u ["self", "row", "page"] ["self", "row", "page"] (a0f a3u):=by constructor<;>first|rfl|decide +kernel
theorem e2f:a0u ["thing"] ["thing"] (a0f b4p):=by constructor<;>first|rfl|decide +kernel
theorem e6w:a0u ["one", "other"] ["one", "other"] (a0f b8a):=by constructor<;>first|rfl|decide +kernel
theorem a9u:a0u ["rows", "other", "entry", "one", "earlier"] ["rows"] (a0f a8v):=by constructor<;>first|rfl|decide +kernel
theorem b4x:a0u ["self", "rows", "entry"] ["self", "rows"] (a0f a3r):=by constructor<;>first|rfl|decide +kernel
theorem b3g:a0u ["self", "sign", "row", "size"] ["self", "sign", "row"] (a0f a3g):=by constructor<;>first|rfl|decide +kernel
theorem c2e:a0u ["self", "sign", "page"] ["self", "sign", "page"] (a0f a3f):=by constructor<;>first|rfl|decide +kernel
theorem b3f:a0u ["self", "row", "page", "sign"] ["self", "row", "page"] (a0f a3e):=by constructor<;>first|rfl|decide +kernel
theorem b4y:a0u ["self", "row", "page", "rest"] ["self", "row", "page"] (a0f a3s):=by constructor<;>first|rfl|decide +kernel
theorem e6p:a0u ["_law_script", "_law_at"] ["_law_script", "_law_at"] (a0f b7t):=by constructor<;>first|rfl|decide +kernel
theorem d4u:a0u ["_law_number", "_law_k"] ["_law_number", "_law_k"] (a0f b7s):=by constructor<;>first|rfl|decide +kernel
theorem b8n:a0u ["_law_number", "_law_sign"] ["_law_number"] (a0f b4m):=by constructor<;>first|rfl|decide +kernel
theorem c8t:a0u ["_law_number", "_law_edges"] ["_law_number"] (a0f b1j):=by constructor<;>first|rfl|decide +kernel
theorem b4k:a0u ["_law_number", "_law_sizes", "_law_base", "_law_first", "_law_second"] ["_law_number"] (a0f b2s):=by constructor<;>first|rfl|decide +kernel
theorem b0k:a0u ["_law_number", "_law_signs", "_law_rows", "_law_k", "_law_far", "_law_row_here"] ["_law_number"] (a0f b5a):=by constructor<;>first|rfl|decide +kernel
theorem b4j:a0u ["_law_cell", "_law_number", "_law_first", "_law_second", "_law_signs", "_law_rows"] ["_law_cell"] (a0f b7r):=by constructor<;>first|rfl|decide +kernel
theorem b8m:a0u ["_law_model_here", "_law_word", "_law_first", "_law_second"] ["_law_model_here"] (a0f b1i):=by constructor<;>first|rfl|decide +kernel
theorem d5y:a0u ["_law_sign"] ["_law_sign"] (a0f b0m):=by constructor<;>first|rfl|decide +kernel
theorem a6j:a0u ["_law_sign", "_law_word", "_law_units", "_law_row_here", "_law_number"] ["_law_sign", "_law_word"] (a0f b0l):=by constructor<;>first|rfl|decide +kernel
theorem c1v:a0u ["_law_model_here", "_law_sign", "_law_page", "_law_word", "_law_first", "_law_second"] ["_law_model_here", "_law_sign", "_law_page"] (a0f b7q):=by constructor<;>first|rfl|decide +kernel
theorem b7p:a0u ["_law_model_here", "_law_cells", "_law_word", "_law_first", "_law_second", "_law_some"] ["_law_model_here", "_law_cells"] (a0f b3q):=by constructor<;>first|rfl|decide +kernel
theorem a9z:a0u ["_law_row_here", "_law_cell", "_law_pieces_here", "_law_at", "_law_number", "_law_size"] ["_law_row_here", "_law_cell"] (a0f b4l):=by constructor<;>first|rfl|decide +kernel
theorem a7i:a0u ["_law_model_here", "_law_cells", "_law_edges", "_law_text_here", "_law_row_here", "_law_page", "_law_k", "_law_cell", "_law_way", "_law_part", "_law_after"] ["_law_model_here", "_law_cells"] (a0f c7e):=by constructor<;>first|rfl|decide +kernel
theorem a6x:a0u ["_law_reader", "_law_other", "_law_pieces_here", "_law_found", "_law_beside", "_law_piece"] ["_law_reader", "_law_other", "_law_pieces_here"] (a0f a8t):=by constructor<;>first|rfl|decide +kernel
theorem b2r:a0u ["_law_tongue_here", "_law_text_here", "_law_cell", "_law_writer", "_law_found", "_law_piece"] ["_law_tongue_here", "_law_text_here", "_law_cell"] (a0f b1h):=by constructor<;>first|rfl|decide +kernel
theorem b4w:a0u ["_law_script", "_law_model_here", "_law_row_here", "_law_tongue_here", "_law_pieces_here", "_law_seer", "_law_putter", "_law_seen", "_law_put", "_law_text_here", "_law_leaver", "_law_signs", "_law_passed"] ["_law_script"] (a0f d6c):=by constructor<;>first|rfl|decide +kernel
set_option genInjectivity false in
structure Adr where
 c4u:Addr
 c4d:FuncData
 d3h:Addr
 d1s:FuncData
 d3g:Addr
 d1r:FuncData
 d3d:Addr
 d1o:FuncData
 b7l:Addr
 b6m:FuncData
 d3e:Addr
 d1p:FuncData
 d8d:Addr
 d7c:FuncData
 d3f:Addr
 d1q:FuncData
 c1o:Addr
 c0y:FuncData
 e4e:Addr
 e3f:FuncData
 b1f:Addr
 b1a:FuncData
 a6w:Addr
 a6r:FuncData
 b9y:Addr
 b8x:FuncData
 b1u:Addr
 b1r:FuncData
 b9z:Addr
 b8y:FuncData
 c1n:Addr
 c0x:FuncData
 c8i:Addr
 c7t:FuncData
 c8l:Addr
 c2c:FuncData
 ud_Put_init_0:Tok
 c8k:Addr
 c7v:FuncData
 c8j:Addr
 c7u:FuncData
 c0d:Addr
 b3u:FuncData
 ud_Reader_init_0:Tok
 a5q:Addr
 a4d:FuncData
 ud_GoingReader_init_0:Tok
 a8b:Addr
 a7r:FuncData
 b5s:Addr
 b5o:FuncData
 c0e:Addr
 b9b:FuncData
 c1q:Addr
 c1a:FuncData
 c0b:Addr
 b8z:FuncData
 a3c:Addr
 a3a:FuncData
 a7w:Addr
 a7q:FuncData
 c0c:Addr
 b9a:FuncData
 c1p:Addr
 c0z:FuncData
 d8c:Addr
 d7b:FuncData
 c8f:Addr
 c7q:FuncData
 a3n:Addr
 a6q:FuncData
 b7n:Addr
 b1z:FuncData
 ud_Tongue_spell_0:Tok
 b7m:Addr
 b1y:FuncData
 ud_Tongue_whole_0:Tok
 c0a:Addr
 b3t:FuncData
 ud_Tongue_fill_0:Tok
 a2t:Addr
 a4j:FuncData
 ud_Tongue_look_0:Tok
 c4t:Addr
 c4c:FuncData
 c8g:Addr
 c7r:FuncData
 b5q:Addr
 b5m:FuncData
 b5r:Addr
 b5n:FuncData
 b9w:Addr
 b8v:FuncData
 d3c:Addr
 d1n:FuncData
 d3j:Addr
 d1u:FuncData
 a8a:Addr
 a5o:FuncData
 ud_LeadTongue_spell_0:Tok
 a7z:Addr
 a5n:FuncData
 ud_LeadTongue_whole_0:Tok
 a9l:Addr
 a6g:FuncData
 ud_LeadTongue_fill_0:Tok
 c8e:Addr
 c7p:FuncData
 d3b:Addr
 d1m:FuncData
 a9j:Addr
 a6e:FuncData
 ud_PairTongue_init_0:Tok
 b1v:Addr
 b1s:FuncData
 b0i:Addr
 b0d:FuncData
 b0j:Addr
 b0e:FuncData
 a8q:Addr
 a8j:FuncData
 a7y:Addr
 a5m:FuncData
 ud_PairTongue_spell_0:Tok
 a7x:Addr
 a5l:FuncData
 ud_PairTongue_whole_0:Tok
 a9k:Addr
 a6f:FuncData
 ud_PairTongue_fill_0:Tok
 d8e:Addr
 d7d:FuncData
 c4s:Addr
 c4b:FuncData
 a7u:Addr
 a7p:FuncData
 a6h:Addr
 a6d:FuncData
 a6v:Addr
 a4u:FuncData
 ud_ShiftTongue_spell_0:Tok
 a8p:Addr
 a8i:FuncData
 a6u:Addr
 a4t:FuncData
 ud_ShiftTongue_whole_0:Tok
 a7v:Addr
 a5k:FuncData
 ud_ShiftTongue_fill_0:Tok
 c8h:Addr
 c7s:FuncData
 d3i:Addr
 d1t:FuncData
 b9x:Addr
 b8w:FuncData
 a7s:Addr
 a7o:FuncData
 b0h:Addr
 b0c:FuncData
 a6t:Addr
 a4s:FuncData
 ud_TableTongue_spell_0:Tok
 a6s:Addr
 a4r:FuncData
 ud_TableTongue_whole_0:Tok
 a7t:Addr
 a5j:FuncData
 ud_TableTongue_fill_0:Tok
 d3a:Addr
 d1l:FuncData
 d2y:Addr
 d1j:FuncData
 c8d:Addr
 c7o:FuncData
 c4r:Addr
 c4a:FuncData
 d2z:Addr
 d1k:FuncData
 d2v:Addr
 d1g:FuncData
 d2x:Addr
 d1i:FuncData
 c8b:Addr
 c7m:FuncData
 c1m:Addr
 c0w:FuncData
 c1l:Addr
 c0v:FuncData
 d2w:Addr
 d1h:FuncData
 d8b:Addr
 d7a:FuncData
 c8c:Addr
 c7n:FuncData
 e4d:Addr
 e3e:FuncData
 b9v:Addr
 b8u:FuncData
 c4q:Addr
 c3z:FuncData
 g3x:Addr
 f8j:FuncData
 a1t:Addr
 a2o:Addr
 b3c:Addr
 b8e:Addr
 c9m:Addr
 a0p:Addr
 a5v:Addr
 a2c:Addr
 a1k:Addr
 a1a:Addr
 a1d:Addr
 e6a:Addr
 e6b:Addr
 f8l:Addr
 g4j:Tok
 e1y:Tok
 e4f:Addr
 h_FILLS_0:Int
 a_FILLS_0:Addr
 a_FILLS_0_0:Addr
 a_FILLS_0_1:Addr
 a_FILLS_0_2:Addr
 a_FILLS_0_3:Addr
 a_FILLS_0_4:Addr
 h_FILLS_1:Int
 a_FILLS_1:Addr
 a_FILLS_1_0:Addr
 a_FILLS_1_1:Addr
 a_FILLS_1_2:Addr
 a_FILLS_1_3:Addr
 a_FILLS_1_4:Addr
 d3s:Tok
 d8x:Tok
 d8w:Tok
 d8v:Tok
 d8u:Tok
 e1x:Tok
 d5t:Tok
 e1w:Tok
 e1v:Tok
 e1u:Tok
 e1t:Tok
 d3k:Addr
 d8t:Tok
 d8s:Tok
 d5s:Tok
 e0u:Addr
 a_SECONDS_0:Addr
 a_SECONDS_1:Addr
 a_SECONDS_2:Addr
 a_SECONDS_3:Addr
 a_SECONDS_4:Addr
 c2d:Addr
structure Txt (w:World) (K:PySem.W.Frag) (mg:Str->Option Value) (t:Adr):Prop where
 d3p:Fun K "is_number" "is_number" b1n t.c4u t.c4d
 e4c:a1h K t.c4d ["thing"] []
 e3c:mg "is_number" = some (.ref t.c4u)
 e1h:Fun K "is_byte" "is_byte" b7z t.d3h t.d1s
 f4r:a1h K t.d1s ["thing"] []
 f2p:mg "is_byte" = some (.ref t.d3h)
 e1g:Fun K "is_head" "is_head" b7y t.d3g t.d1r
 f4q:a1h K t.d1r ["number"] []
 f2o:mg "is_head" = some (.ref t.d3g)
 e1d:Fun K "is_tail" "is_tail" b7w t.d3d t.d1o
 f4n:a1h K t.d1o ["number"] []
 f2l:mg "is_tail" = some (.ref t.d3d)
 c3c:Fun K "is_seen_byte" "is_seen_byte" a6y t.b7l t.b6m
 d4m:a1h K t.b6m ["thing"] []
 d4l:mg "is_seen_byte" = some (.ref t.b7l)
 e1e:Fun K "is_sign" "is_sign" b7x t.d3e t.d1p
 f4o:a1h K t.d1p ["thing"] []
 f2m:mg "is_sign" = some (.ref t.d3e)
 e6i:Fun K "is_row" "is_row" b8p t.d8d t.d7c
 f8w:a1h K t.d7c ["thing"] []
 f8e:mg "is_row" = some (.ref t.d8d)
 e1f:Fun K "is_seen" "is_seen" b5b t.d3f t.d1q
 f4p:a1h K t.d1q ["thing"] []
 f2n:mg "is_seen" = some (.ref t.d3f)
 c9c:Fun K "write_from" "write_from" b0o t.c1o t.c0y
 e0q:a1h K t.c0y ["tongue", "text", "page"] []
 d9z:mg "write_from" = some (.ref t.c1o)
 f4y:Fun K "write" "write" c7f t.e4e t.e3f
 g3u:a1h K t.e3f ["tongue", "text"] []
 g3d:mg "write" = some (.ref t.e4e)
 c6u:Fun K "__init__" "SeenSpeller.__init__" a3v t.b1f t.b1a
 c6g:a1h K t.b1a ["self", "tongue"] []
 b5t:Fun K "spell" "SeenSpeller.spell" a3j t.a6w t.a6r
 b5p:a1h K t.a6r ["self", "sign", "page"] []
 c6p:Fun K "__init__" "Writer.__init__" a8w t.b9y t.b8x
 d7u:a1h K t.b8x ["self", "tongue"] []
 c8m:Fun K "__init__" "SeenWriter.__init__" a4l t.b1u t.b1r
 c7w:a1h K t.b1r ["self", "tongue"] []
 d8g:Fun K "feed" "Writer.feed" a8x t.b9z t.b8y
 d7v:a1h K t.b8y ["self", "text"] []
 c9b:Fun K "write_seen" "write_seen" b0n t.c1n t.c0x
 e0p:a1h K t.c0x ["tongue", "text"] []
 d9y:mg "write_seen" = some (.ref t.c1n)
 e8q:Fun K "told" "Way.told" b4q t.c8i t.c7t
 e8k:a1h K t.c7t ["self", "row"] []
 e8t:c9n K "__init__" "Put.__init__" b4s t.c8l t.c2c [.int 65533 t.ud_Put_init_0]
 g3s:a1h K t.c2c ["self", "sign"] [.int 65533 t.ud_Put_init_0]
 e8n:a1h K t.c2c ["self", "sign"] []
 e8s:Fun K "told" "Put.told" b4r t.c8k t.c7v
 e8m:a1h K t.c7v ["self", "row"] []
 e8r:Fun K "told" "See.told" b1o t.c8j t.c7u
 e8l:a1h K t.c7u ["self", "row"] []
 c6v:c9n K "__init__" "Reader.__init__" a9d t.c0d t.b3u [.int 0 t.ud_Reader_init_0]
 f5i:a1h K t.b3u ["self", "tongue", "place"] [.int 0 t.ud_Reader_init_0]
 d7z:a1h K t.b3u ["self", "tongue", "place"] []
 c7a:c9n K "__init__" "GoingReader.__init__" a4c t.a5q t.a4d [.int 0 t.ud_GoingReader_init_0]
 c4i:a1h K t.a4d ["self", "tongue", "way", "place"] [.int 0 t.ud_GoingReader_init_0]
 c6l:a1h K t.a4d ["self", "tongue", "way", "place"] []
 b6f:Fun K "meet" "GoingReader.meet" a4b t.a8b t.a7r
 b6d:a1h K t.a7r ["self", "length", "kind"] []
 d3q:Fun K "faults" "Reader.faults" a6a t.b5s t.b5o
 d2s:a1h K t.b5o ["self"] []
 d8m:Fun K "feed" "Reader.feed" a9e t.c0e t.b9b
 d8a:a1h K t.b9b ["self", "row"] []
 e1k:Fun K "end" "Reader.end" b0q t.c1q t.c1a
 e0s:a1h K t.c1a ["self"] []
 d8k:Fun K "take" "Reader.take" a9b t.c0b t.b8z
 d7x:a1h K t.b8z ["self", "byte"] []
 a7h:Fun K "look_at_begun" "Reader.look_at_begun" a2p t.a3c t.a3a
 a7g:a1h K t.a3a ["self"] []
 b6e:Fun K "meet_none" "Reader.meet_none" a3w t.a7w t.a7q
 b6c:a1h K t.a7q ["self"] []
 d8l:Fun K "note" "Reader.note" a9c t.c0c t.b9a
 d7y:a1h K t.b9a ["self", "length", "kind"] []
 c9d:Fun K "check_room" "check_room" b0p t.c1p t.c0z
 e0r:a1h K t.c0z ["number", "bits"] []
 e0a:mg "check_room" = some (.ref t.c1p)
 e6h:Fun K "parted" "parted" c1w t.d8c t.d7b
 f8v:a1h K t.d7b ["number", "bits", "many"] []
 f8b:mg "parted" = some (.ref t.d8c)
 d5o:Fun K "together" "together" b4o t.c8f t.c7q
 e8h:a1h K t.c7q ["parts", "bits"] []
 e7t:mg "together" = some (.ref t.c8f)
 d8h:Fun K "unit" "Tongue.unit" a8y t.a3n t.a6q
 b4h:a1h K t.a6q ["self"] []
 d4q:c9n K "spell" "Tongue.spell" a7a t.b7n t.b1z [.int 0 t.ud_Tongue_spell_0]
 f4e:a1h K t.b1z ["self", "sign", "page"] [.int 0 t.ud_Tongue_spell_0]
 d4o:a1h K t.b1z ["self", "sign", "page"] []
 d4p:c9n K "whole" "Tongue.whole" a6z t.b7m t.b1y [.int 0 t.ud_Tongue_whole_0]
 f4d:a1h K t.b1y ["self", "row", "page"] [.int 0 t.ud_Tongue_whole_0]
 d4n:a1h K t.b1y ["self", "row", "page"] []
 d8j:c9n K "fill" "Tongue.fill" a9a t.c0a t.b3t [.int 0 t.ud_Tongue_fill_0]
 f5h:a1h K t.b3t ["self", "row", "page"] [.int 0 t.ud_Tongue_fill_0]
 d7w:a1h K t.b3t ["self", "row", "page"] []
 d8i:c9n K "look" "Tongue.look" a8z t.a2t t.a4j [.int 0 t.ud_Tongue_look_0]
 f5g:a1h K t.a4j ["self", "begun", "page"] [.int 0 t.ud_Tongue_look_0]
 b1e:a1h K t.a4j ["self", "begun", "page"] []
 d3o:Fun K "length_of" "length_of" b1l t.c4t t.c4c
 e4b:a1h K t.c4c ["sign"] []
 e3b:mg "length_of" = some (.ref t.c4t)
 d5p:Fun K "lead_row" "lead_row" b1m t.c8g t.c7r
 e8i:a1h K t.c7r ["sign"] []
 e7u:mg "lead_row" = some (.ref t.c8g)
 c1r:Fun K "length_behind" "length_behind" a5y t.b5q t.b5m
 d2q:a1h K t.b5m ["first"] []
 d1e:mg "length_behind" = some (.ref t.b5q)
 c1s:Fun K "bounds_behind" "bounds_behind" a5z t.b5r t.b5n
 d2r:a1h K t.b5n ["row", "place"] []
 d1f:mg "bounds_behind" = some (.ref t.b5r)
 c6n:Fun K "fits_behind" "fits_behind" a8u t.b9w t.b8v
 d7s:a1h K t.b8v ["row"] []
 d6y:mg "fits_behind" = some (.ref t.b9w)
 e1c:Fun K "missing" "missing" b7v t.d3c t.d1n
 f4m:a1h K t.d1n ["row"] []
 f2k:mg "missing" = some (.ref t.d3c)
 e1j:Fun K "carried" "carried" b5c t.d3j t.d1u
 f4t:a1h K t.d1u ["row"] []
 f2r:mg "carried" = some (.ref t.d3j)
 c6z:c9n K "spell" "LeadTongue.spell" a4a t.a8a t.a5o [.int 0 t.ud_LeadTongue_spell_0]
 e3x:a1h K t.a5o ["self", "sign", "page"] [.int 0 t.ud_LeadTongue_spell_0]
 c6k:a1h K t.a5o ["self", "sign", "page"] []
 c6y:c9n K "whole" "LeadTongue.whole" a3z t.a7z t.a5n [.int 0 t.ud_LeadTongue_whole_0]
 e3w:a1h K t.a5n ["self", "row", "page"] [.int 0 t.ud_LeadTongue_whole_0]
 c6j:a1h K t.a5n ["self", "row", "page"] []
 c8q:c9n K "fill" "LeadTongue.fill" a3m t.a9l t.a6g [.int 0 t.ud_LeadTongue_fill_0]
 e6e:a1h K t.a6g ["self", "row", "page"] [.int 0 t.ud_LeadTongue_fill_0]
 c8a:a1h K t.a6g ["self", "row", "page"] []
 d5n:Fun K "units_of" "units_of" b4n t.c8e t.c7p
 e8g:a1h K t.c7p ["sign"] []
 e7s:mg "units_of" = some (.ref t.c8e)
 e1b:Fun K "sign_of" "sign_of" b7u t.d3b t.d1m
 f4l:a1h K t.d1m ["units"] []
 f2j:mg "sign_of" = some (.ref t.d3b)
 c8o:c9n K "__init__" "PairTongue.__init__" a4n t.a9j t.a6e [.str "high" t.ud_PairTongue_init_0]
 e6c:a1h K t.a6e ["self", "order"] [.str "high" t.ud_PairTongue_init_0]
 c7y:a1h K t.a6e ["self", "order"] []
 c8n:Fun K "unit" "PairTongue.unit" a4m t.b1v t.b1s
 c7x:a1h K t.b1s ["self"] []
 c5b:Fun K "turned" "PairTongue.turned" a3k t.b0i t.b0d
 c4o:a1h K t.b0d ["self", "pair"] []
 c5c:Fun K "row_of" "PairTongue.row_of" a3l t.b0j t.b0e
 c4p:a1h K t.b0e ["self", "units"] []
 c1u:Fun K "units_in" "PairTongue.units_in" a2i t.a8q t.a8j
 c1j:a1h K t.a8j ["self", "row"] []
 c6x:c9n K "spell" "PairTongue.spell" a3y t.a7y t.a5m [.int 0 t.ud_PairTongue_spell_0]
 e3v:a1h K t.a5m ["self", "sign", "page"] [.int 0 t.ud_PairTongue_spell_0]
 c6i:a1h K t.a5m ["self", "sign", "page"] []
 c6w:c9n K "whole" "PairTongue.whole" a3x t.a7x t.a5l [.int 0 t.ud_PairTongue_whole_0]
 e3u:a1h K t.a5l ["self", "row", "page"] [.int 0 t.ud_PairTongue_whole_0]
 c6h:a1h K t.a5l ["self", "row", "page"] []
 c8p:c9n K "fill" "PairTongue.fill" a4o t.a9k t.a6f [.int 0 t.ud_PairTongue_fill_0]
 e6d:a1h K t.a6f ["self", "row", "page"] [.int 0 t.ud_PairTongue_fill_0]
 c7z:a1h K t.a6f ["self", "row", "page"] []
 e6j:Fun K "begins" "begins" c1x t.d8e t.d7d
 f8x:a1h K t.d7d ["one", "other"] []
 f8h:mg "begins" = some (.ref t.d8e)
 d3n:Fun K "places_in" "places_in" b1k t.c4s t.c4b
 e4a:a1h K t.c4b ["signs", "which"] []
 e3a:mg "places_in" = some (.ref t.c4s)
 c6s:Fun K "__init__" "ShiftTongue.__init__" a3t t.a7u t.a7p
 c6e:a1h K t.a7p ["self", "first", "second"] []
 b8h:Fun K "row_beyond" "ShiftTongue.row_beyond" a2f t.a6h t.a6d
 b8f:a1h K t.a6d ["self", "page"] []
 c5a:c9n K "spell" "ShiftTongue.spell" a3i t.a6v t.a4u [.int 0 t.ud_ShiftTongue_spell_0]
 e1q:a1h K t.a4u ["self", "sign", "page"] [.int 0 t.ud_ShiftTongue_spell_0]
 c4n:a1h K t.a4u ["self", "sign", "page"] []
 c1t:Fun K "sign_of" "ShiftTongue.sign_of" a2u t.a8p t.a8i
 c1i:a1h K t.a8i ["self", "byte", "page"] []
 c4z:c9n K "whole" "ShiftTongue.whole" a3h t.a6u t.a4t [.int 0 t.ud_ShiftTongue_whole_0]
 e1p:a1h K t.a4t ["self", "row", "page"] [.int 0 t.ud_ShiftTongue_whole_0]
 c4m:a1h K t.a4t ["self", "row", "page"] []
 c6t:c9n K "fill" "ShiftTongue.fill" a3u t.a7v t.a5k [.int 0 t.ud_ShiftTongue_fill_0]
 e3t:a1h K t.a5k ["self", "row", "page"] [.int 0 t.ud_ShiftTongue_fill_0]
 c6f:a1h K t.a5k ["self", "row", "page"] []
 d5q:Fun K "is_entry" "is_entry" b4p t.c8h t.c7s
 e8j:a1h K t.c7s ["thing"] []
 e7w:mg "is_entry" = some (.ref t.c8h)
 e1i:Fun K "collide" "collide" b8a t.d3i t.d1t
 f4s:a1h K t.d1t ["one", "other"] []
 f2q:mg "collide" = some (.ref t.d3i)
 c6o:Fun K "check_table" "check_table" a8v t.b9x t.b8w
 d7t:a1h K t.b8w ["rows"] []
 d6z:mg "check_table" = some (.ref t.b9x)
 c6q:Fun K "__init__" "TableTongue.__init__" a3r t.a7s t.a7o
 c6c:a1h K t.a7o ["self", "rows"] []
 c4y:Fun K "enter" "TableTongue.enter" a3g t.b0h t.b0c
 c4l:a1h K t.b0c ["self", "sign", "row"] []
 c4x:c9n K "spell" "TableTongue.spell" a3f t.a6t t.a4s [.int 0 t.ud_TableTongue_spell_0]
 e1o:a1h K t.a4s ["self", "sign", "page"] [.int 0 t.ud_TableTongue_spell_0]
 c4k:a1h K t.a4s ["self", "sign", "page"] []
 c4w:c9n K "whole" "TableTongue.whole" a3e t.a6s t.a4r [.int 0 t.ud_TableTongue_whole_0]
 e1n:a1h K t.a4r ["self", "row", "page"] [.int 0 t.ud_TableTongue_whole_0]
 c4j:a1h K t.a4r ["self", "row", "page"] []
 c6r:c9n K "fill" "TableTongue.fill" a3s t.a7t t.a5j [.int 0 t.ud_TableTongue_fill_0]
 e3s:a1h K t.a5j ["self", "row", "page"] [.int 0 t.ud_TableTongue_fill_0]
 c6d:a1h K t.a5j ["self", "row", "page"] []
 e1a:Fun K "_law_drawn" "_law_drawn" b7t t.d3a t.d1l
 f4k:a1h K t.d1l ["_law_script", "_law_at"] []
 f2i:mg "_law_drawn" = some (.ref t.d3a)
 e0y:Fun K "_law_mixed" "_law_mixed" b7s t.d2y t.d1j
 f4i:a1h K t.d1j ["_law_number", "_law_k"] []
 f2g:mg "_law_mixed" = some (.ref t.d2y)
 d5m:Fun K "_law_gapped" "_law_gapped" b4m t.c8d t.c7o
 e8f:a1h K t.c7o ["_law_number"] []
 e7r:mg "_law_gapped" = some (.ref t.c8d)
 d3m:Fun K "_law_as_sign" "_law_as_sign" b1j t.c4r t.c4a
 e3z:a1h K t.c4a ["_law_number"] []
 e2z:mg "_law_as_sign" = some (.ref t.c4r)
 e0z:Fun K "_law_lists" "_law_lists" b2s t.d2z t.d1k
 f4j:a1h K t.d1k ["_law_number"] []
 f2h:mg "_law_lists" = some (.ref t.d2z)
 e0v:Fun K "_law_table" "_law_table" b5a t.d2v t.d1g
 f4f:a1h K t.d1g ["_law_number"] []
 f2d:mg "_law_table" = some (.ref t.d2v)
 e0x:Fun K "_law_model" "_law_model" b7r t.d2x t.d1i
 f4h:a1h K t.d1i ["_law_cell"] []
 f2f:mg "_law_model" = some (.ref t.d2x)
 d5k:Fun K "_law_tongue" "_law_tongue" b1i t.c8b t.c7m
 e8d:a1h K t.c7m ["_law_model_here"] []
 e7p:mg "_law_tongue" = some (.ref t.c8b)
 c9a:Fun K "_law_lead_row" "_law_lead_row" b0m t.c1m t.c0w
 e0o:a1h K t.c0w ["_law_sign"] []
 d9x:mg "_law_lead_row" = some (.ref t.c1m)
 c8z:Fun K "_law_pair_row" "_law_pair_row" b0l t.c1l t.c0v
 e0n:a1h K t.c0v ["_law_sign", "_law_word"] []
 d9w:mg "_law_pair_row" = some (.ref t.c1l)
 e0w:Fun K "_law_spell" "_law_spell" b7q t.d2w t.d1h
 f4g:a1h K t.d1h ["_law_model_here", "_law_sign", "_law_page"] []
 f2e:mg "_law_spell" = some (.ref t.d2w)
 e6g:Fun K "_law_text" "_law_text" b3q t.d8b t.d7a
 f8u:a1h K t.d7a ["_law_model_here", "_law_cells"] []
 f8a:mg "_law_text" = some (.ref t.d8b)
 d5l:Fun K "_law_pieces" "_law_pieces" b4l t.c8c t.c7n
 e8e:a1h K t.c7n ["_law_row_here", "_law_cell"] []
 e7q:mg "_law_pieces" = some (.ref t.c8c)
 f4x:Fun K "_law_row" "_law_row" c7e t.e4d t.e3e
 g3t:a1h K t.e3e ["_law_model_here", "_law_cells"] []
 g3c:mg "_law_row" = some (.ref t.e4d)
 c6m:Fun K "_law_read_both" "_law_read_both" a8t t.b9v t.b8u
 d7r:a1h K t.b8u ["_law_reader", "_law_other", "_law_pieces_here"] []
 d6w:mg "_law_read_both" = some (.ref t.b9v)
 d3l:Fun K "_law_written" "_law_written" b1h t.c4q t.c3z
 e3y:a1h K t.c3z ["_law_tongue_here", "_law_text_here", "_law_cell"] []
 e2y:mg "_law_written" = some (.ref t.c4q)
 g4b:Fun K "law" "law" d6c t.g3x t.f8j
 h1v:a1h K t.f8j ["_law_script"] []
 g8d:mg "law" = some (.ref t.g3x)
 d4j:mg "SeenSpeller" = some (.ref t.a1t)
 a4v:Cls K t.a1t
 d4f:Mk K t.a1t t.b1f
 b3k:b3d K t.a1t "spell" t.a6w
 a3p:a6i K t.a1t "tongue"
 f5c : ∀ H a dx fs,H a=some (.ins t.a1t dx fs)->c7c K H (.ref a) (.ref t.a1t)
 d6t:mg "SeenWriter" = some (.ref t.a2o)
 a7c:Cls K t.a2o
 d6i:Mk K t.a2o t.b1u
 mt_SeenWriter_feed:b3d K t.a2o "feed" t.b9z
 a8g:a6i K t.a2o "at_page"
 b3i:a6i K t.a2o "tongue"
 f5m : ∀ H a dx fs,H a=some (.ins t.a2o dx fs)->c7c K H (.ref a) (.ref t.a2o)
 f7z:mg "Leave" = some (.ref t.b3c)
 f3q:Cls K t.b3c
 f1a:Mk0 K t.b3c
 mt_Leave_told:b3d K t.b3c "told" t.c8i
 g8r : ∀ H a dx fs,H a=some (.ins t.b3c dx fs)->c7c K H (.ref a) (.ref t.b3c)
 g8c:mg "Put" = some (.ref t.b8e)
 e3m:Cls K t.b8e
 g6v:Mk K t.b8e t.c8l
 e2r:b3d K t.b8e "told" t.c8k
 d0k:a6i K t.b8e "sign"
 h2g : ∀ H a dx fs,H a=some (.ins t.b8e dx fs)->c7c K H (.ref a) (.ref t.b8e)
 g8b:mg "See" = some (.ref t.c9m)
 g3o:Cls K t.c9m
 g2m:Mk0 K t.c9m
 e2q:b3d K t.c9m "told" t.c8j
 h2f : ∀ H a dx fs,H a=some (.ins t.c9m dx fs)->c7c K H (.ref a) (.ref t.c9m)
 c2z:mg "GoingReader" = some (.ref t.a0p)
 a0d:Cls K t.a0p
 c2x:Mk K t.a0p t.a5q
 b5f:b3d K t.a0p "meet" t.a8b
 mt_GoingReader_faults:b3d K t.a0p "faults" t.b5s
 mt_GoingReader_feed:b3d K t.a0p "feed" t.c0e
 mt_GoingReader_end:b3d K t.a0p "end" t.c1q
 mt_GoingReader_take:b3d K t.a0p "take" t.c0b
 mt_GoingReader_look_at_begun:b3d K t.a0p "look_at_begun" t.a3c
 mt_GoingReader_meet_none:b3d K t.a0p "meet_none" t.a7w
 mt_GoingReader_note:b3d K t.a0p "note" t.c0c
 a1i:a6i K t.a0p "at_page"
 a0k:a6i K t.a0p "begun"
 a4g:a6i K t.a0p "ended"
 a6m:a6i K t.a0p "many"
 b0y:a6i K t.a0p "met"
 b3j:a6i K t.a0p "place"
 a0m:a6i K t.a0p "tongue"
 a2x:a6i K t.a0p "way"
 f5d : ∀ H a dx fs,H a=some (.ins t.a0p dx fs)->c7c K H (.ref a) (.ref t.a0p)
 f2b:mg "Tongue" = some (.ref t.a5v)
 b8d:Cls K t.a5v
 e7d:Mk0 K t.a5v
 d4a:b3d K t.a5v "unit" t.a3n
 d0m:b3d K t.a5v "spell" t.b7n
 d0l:b3d K t.a5v "whole" t.b7m
 d4c:b3d K t.a5v "fill" t.c0a
 d4b:b3d K t.a5v "look" t.a2t
 g4k : ∀ H a dx fs,H a=some (.ins t.a5v dx fs)->c7c K H (.ref a) (.ref t.a5v)
 d6v:mg "LeadTongue" = some (.ref t.a2c)
 a9w:Cls K t.a2c
 d4g:Mk0 K t.a2c
 c3q:b3d K t.a2c "spell" t.a8a
 c3p:b3d K t.a2c "whole" t.a7z
 c5n:b3d K t.a2c "fill" t.a9l
 mt_LeadTongue_unit:b3d K t.a2c "unit" t.a3n
 mt_LeadTongue_look:b3d K t.a2c "look" t.a2t
 f5o : ∀ H a dx fs,H a=some (.ins t.a2c dx fs)->c7c K H (.ref a) (.ref t.a2c)
 d6u:mg "PairTongue" = some (.ref t.a1k)
 a2s:Cls K t.a1k
 d6j:Mk K t.a1k t.a9j
 c5l:b3d K t.a1k "unit" t.b1v
 c2m:b3d K t.a1k "turned" t.b0i
 c2n:b3d K t.a1k "row_of" t.b0j
 c0m:b3d K t.a1k "units_in" t.a8q
 c3o:b3d K t.a1k "spell" t.a7y
 c3n:b3d K t.a1k "whole" t.a7x
 c5m:b3d K t.a1k "fill" t.a9k
 mt_PairTongue_look:b3d K t.a1k "look" t.a2t
 b0a:a6i K t.a1k "order"
 f5n : ∀ H a dx fs,H a=some (.ins t.a1k dx fs)->c7c K H (.ref a) (.ref t.a1k)
 d4i:mg "ShiftTongue" = some (.ref t.a1a)
 a1g:Cls K t.a1a
 d4e:Mk K t.a1a t.a7u
 b6j:b3d K t.a1a "row_beyond" t.a6h
 c2l:b3d K t.a1a "spell" t.a6v
 c0l:b3d K t.a1a "sign_of" t.a8p
 c2k:b3d K t.a1a "whole" t.a6u
 c3m:b3d K t.a1a "fill" t.a7v
 mt_ShiftTongue_unit:b3d K t.a1a "unit" t.a3n
 mt_ShiftTongue_look:b3d K t.a1a "look" t.a2t
 a5u:a6i K t.a1a "lists"
 a2k:a6i K t.a1a "places"
 a4y:a6i K t.a1a "shifted"
 f5b : ∀ H a dx fs,H a=some (.ins t.a1a dx fs)->c7c K H (.ref a) (.ref t.a1a)
 d4h:mg "TableTongue" = some (.ref t.a1d)
 a1q:Cls K t.a1d
 d4d:Mk K t.a1d t.a7s
 c2j:b3d K t.a1d "enter" t.b0h
 c2i:b3d K t.a1d "spell" t.a6t
 c2h:b3d K t.a1d "whole" t.a6s
 c3l:b3d K t.a1d "fill" t.a7t
 mt_TableTongue_unit:b3d K t.a1d "unit" t.a3n
 mt_TableTongue_look:b3d K t.a1d "look" t.a2t
 a5a:a6i K t.a1d "rest_by_row"
 a2z:a6i K t.a1d "row_by_sign"
 a4z:a6i K t.a1d "sign_by_row"
 f5a : ∀ H a dx fs,H a=some (.ins t.a1d dx fs)->c7c K H (.ref a) (.ref t.a1d)
 f2a:mg "Writer" = some (.ref t.e6a)
 f4b:g3z K t.e6a t.b9y
 f2c:mg "Reader" = some (.ref t.e6b)
 f4c:g3z K t.e6b t.c0d
 c0u:mg "NoSign" = some (.ref t.f8l)
 g0i:mg "BITS" = some (.int 6 t.g4j)
 d2i:mg "BYTE_BITS" = some (.int 8 t.e1y)
 f3z:mg "FILLS" = some (.ref t.e4f)
 f3f:g8q K w t.e4f [(t.h_FILLS_0, "high",t.a_FILLS_0),(t.h_FILLS_1, "low",t.a_FILLS_1)]
 q_FILLS_0 : ∀ H,SqT K H t.a_FILLS_0 (([t.a_FILLS_0_0,t.a_FILLS_0_1,t.a_FILLS_0_2,t.a_FILLS_0_3,t.a_FILLS_0_4]:List Addr).map V.ref)
 q_FILLS_0_0 : ∀ H,SqT K H t.a_FILLS_0_0 (([]:List Int).map V.int)
 q_FILLS_0_1 : ∀ H,SqT K H t.a_FILLS_0_1 (([0]:List Int).map V.int)
 q_FILLS_0_2 : ∀ H,SqT K H t.a_FILLS_0_2 (([0,0]:List Int).map V.int)
 q_FILLS_0_3 : ∀ H,SqT K H t.a_FILLS_0_3 (([220,0]:List Int).map V.int)
 q_FILLS_0_4 : ∀ H,SqT K H t.a_FILLS_0_4 (([0,220,0]:List Int).map V.int)
 q_FILLS_1 : ∀ H,SqT K H t.a_FILLS_1 (([t.a_FILLS_1_0,t.a_FILLS_1_1,t.a_FILLS_1_2,t.a_FILLS_1_3,t.a_FILLS_1_4]:List Addr).map V.ref)
 q_FILLS_1_0 : ∀ H,SqT K H t.a_FILLS_1_0 (([]:List Int).map V.int)
 q_FILLS_1_1 : ∀ H,SqT K H t.a_FILLS_1_1 (([0]:List Int).map V.int)
 q_FILLS_1_2 : ∀ H,SqT K H t.a_FILLS_1_2 (([220]:List Int).map V.int)
 q_FILLS_1_3 : ∀ H,SqT K H t.a_FILLS_1_3 (([0,0]:List Int).map V.int)
 q_FILLS_1_4 : ∀ H,SqT K H t.a_FILLS_1_4 (([0,220]:List Int).map V.int)
 b2q:mg "FIRST_BEHIND" = some (.int 128 t.d3s)
 c1h:mg "FIRST_HEAD" = some (.int 55296 t.d8x)
 c1g:mg "FIRST_SEEN" = some (.int 61184 t.d8w)
 b6b:mg "FIRST_TAIL" = some (.int 56320 t.d8v)
 c1f:mg "FIRST_WIDE" = some (.int 65536 t.d8u)
 d2h:mg "HALF_BITS" = some (.int 10 t.e1x)
 c6b:mg "LAST_BEHIND" = some (.int 191 t.d5t)
 e3q:mg "LAST_BYTE" = some (.int 255 t.e1w)
 e3p:mg "LAST_SEEN" = some (.int 61439 t.e1v)
 e3o:mg "LAST_SIGN" = some (.int 1114111 t.e1u)
 e3n:mg "LAST_TAIL" = some (.int 57343 t.e1t)
 f3y:mg "LEADS" = some (.ref t.d3k)
 f0e : ∀ H,SqT K H t.d3k (([0,0,192,224,240]:List Int).map V.int)
 h0w : ∃ o,K.lookup t.d3k=some o/\o.cls=.type "tuple"/\o.dict=none
 e0i:mg "MOST_BYTES" = some (.int 6 t.d8t)
 e0h:mg "MOST_SIGNS" = some (.int 250 t.d8s)
 d7q:mg "MOST_TUPLES" = some (.int 64 t.d5s)
 f3x:mg "SECONDS" = some (.ref t.e0u)
 f3e:g9b K t.e0u [(224,t.a_SECONDS_0),(237,t.a_SECONDS_1),(238,t.a_SECONDS_2),(240,t.a_SECONDS_3),(244,t.a_SECONDS_4)]
 q_SECONDS_0 : ∀ H,SqT K H t.a_SECONDS_0 (([160,191]:List Int).map V.int)
 q_SECONDS_1 : ∀ H,SqT K H t.a_SECONDS_1 (([128,159]:List Int).map V.int)
 q_SECONDS_2 : ∀ H,SqT K H t.a_SECONDS_2 (([128,187]:List Int).map V.int)
 q_SECONDS_3 : ∀ H,SqT K H t.a_SECONDS_3 (([144,191]:List Int).map V.int)
 q_SECONDS_4 : ∀ H,SqT K H t.a_SECONDS_4 (([128,143]:List Int).map V.int)
 d7p:mg "SHIFTS" = some (.ref t.c2d)
 d6f : ∀ H,SqT K H t.c2d (([254,255]:List Int).map V.int)
 g8v : ∃ o,K.lookup t.c2d=some o/\o.cls=.type "tuple"/\o.dict=none
 n_all:mg "all" = none
 n_bool:mg "bool" = none
 n_enumerate:mg "enumerate" = none
 n_int:mg "int" = none
 n_isinstance:mg "isinstance" = none
 n_len:mg "len" = none
 n_list:mg "list" = none
 n_range:mg "range" = none
 n_reversed:mg "reversed" = none
 n_str:mg "str" = none
 n_sum:mg "sum" = none
 n_tuple:mg "tuple" = none
 n_zip:mg "zip" = none
end My
namespace My
open PySem L2
def e2u:V->Bool
 | .int _=>true
 | _=>false
def d3r(v:V)(lo hi:Int):Bool:=match v with
 | .int i=>decide (lo<=i) && decide (i<=hi)
 | _=>false
def b6k(v:V):Bool:=d3r v 0 1114111 && !(d3r v 55296 57343) && !(d3r v 61184 61439)
theorem d0u{v:V}(h:e2u v=true) : ∃ i,v=.int i:=by
 cases v <;> first | exact⟨_,rfl⟩ | cases h
def sp1(f:V->Bool)(K:PySem.W.Frag):Sp:=fun vs H Q _=>∃ v,vs=[v]/\Knd K H v/\Q (.bl (f v)) H
def spI(f:Int->Bool):Sp:=fun vs H Q _=>∃ i,vs=[.int i]/\Q (.bl (f i)) H
theorem g8u{f:V->Bool}{K:PySem.W.Frag}{x:Str} : ∀ vs H Q E,sp1 f K vs H Q E->vs.length=[x].length:=fun vs H Q E h=>by
 obtain⟨v,rfl,_⟩:=h
 rfl
theorem h3g{f:Int->Bool}{x:Str} : ∀ vs H Q E,spI f vs H Q E->vs.length=[x].length:=fun vs H Q E h=>by
 obtain⟨v,rfl,_⟩:=h
 rfl
def Sg(n:Int):Prop:=0<=n/\n<=1114111/\¬ (55296<=n/\n<=57343)/\¬ (61184<=n/\n<=61439)
theorem c5f(n:Int):b6k (.int n)=true ↔ Sg n:=by
 unfold b6k d3r Sg
 simp
 omega
def a3d(n:Int):List Int:=if n < 65536 then [n] else [55296+(n - 65536) / 1024,56320+(n - 65536)%1024]
def ub(h:Bool)(m:Int):List Int:=if h then [m / 256,m%256] else [m%256,m / 256]
def e2p(h:Bool)(n:Int):List Int:=(a3d n).flatMap (ub h)
def d0i(h:Bool):Str:=if h then "high" else "low"
theorem g4i(h:Bool)(m:Int):(ub h m).length=2:=by unfold ub; cases h <;> rfl
theorem c9x(n:Int):(a3d n).length<=2:=by
 unfold a3d
 by_cases c:n < 65536
 ·rw[if_pos c]; simp
 ·rw[if_neg c]; simp
theorem e4j{n u:Int}(h:Sg n)(hu:u∈a3d n):0<=u/\u < 65536:=by
 obtain⟨h0,h1,_,_⟩:=h
 unfold a3d at hu
 by_cases c:n < 65536
 ·rw[if_pos c]at hu; simp at hu; omega
 ·rw[if_neg c]at hu; simp at hu; omega
theorem c5s(h:Bool)(us:List Int):(us.flatMap (ub h)).length=2*us.length:=by
 induction us with
 | nil=>rfl
 | cons a r ih=>rw[List.flatMap_cons,List.length_append,g4i,ih,List.length_cons]; omega
theorem f6o(h:Bool)(n:Int):(e2p h n).length<=4:=by
 unfold e2p; rw[c5s]; have:=c9x n; omega
def u2(h:Bool)(x y:Int):Int:=if h then x*256+y else y*256+x
def b1g(h:Bool):List Int->List Int
 | x :: y :: r=>u2 h x y :: b1g h r
 | _=>[]
def c8s:List Int->Option Int
 | [u]=>if b6k (.int u) then some u else none
 | [u,v]=>if (55296<=u/\u < 56320)/\56320<=v/\v<=57343 then some (65536+((u - 55296)*1024+(v - 56320))) else none
 | _=>none
def whl(h:Bool)(r:List Int):Option Int:=if r.length=2\/r.length=4 then c8s (b1g h r) else none
def oV(o:Option Int):V:=o.elim .non V.int
def e0d(h:Bool):List (List Int):=if h then [[],[0],[0,0],[220,0],[0,220,0]] else [[],[0],[220],[0,0],[0,220]]
def b5u(r:List Int):Prop:=∀ b∈r,0<=b/\b<=255
theorem b5u.app{r s:List Int}(a:b5u r)(b:b5u s):b5u (r++s):=fun x hx=>by
 rcases List.mem_append.mp hx with h | h
 ·exact a x h
 ·exact b x h
theorem e7x{h:Bool}{f:List Int}(hf:f∈e0d h):b5u f:=by
 unfold e0d at hf
 cases h <;> simp at hf <;> rcases hf with rfl | rfl | rfl | rfl | rfl <;> intro x hx <;> simp at hx <;> omega
theorem f2u{h:Bool}{f:List Int}(hf:f∈e0d h):f.length<=3:=by
 unfold e0d at hf
 cases h <;> simp at hf <;> rcases hf with rfl | rfl | rfl | rfl | rfl <;> decide
def lb(f:Int):Int:=if f < 128 then 1 else if f < 194\/244 < f then 0 else if f < 224 then 2 else if f < 240 then 3 else 4
def lo1(f:Int):Int:=if f=224 then 160 else if f=240 then 144 else 128
def hi1(f:Int):Int:=if f=237 then 159 else if f=238 then 187 else if f=244 then 143 else 191
def loB(f:Int)(p:Nat):Int:=if p=1 then lo1 f else 128
def hiB(f:Int)(p:Nat):Int:=if p=1 then hi1 f else 191
def g9a(f:Int)(r:List Int):Prop:=∀ i x,r[i]? = some x->loB f (i+1)<=x/\x<=hiB f (i+1)
def Beg(f:Int)(r:List Int):Prop:=(r.length:Int)+1<=lb f/\g9a f r
def h2e:List Int->Prop
 | []=>True
 | f :: r=>Beg f r
def Whl:List Int->Prop
 | []=>False
 | f :: r=>Beg f r/\(r.length:Int)+1=lb f
def flo:List Int->List Int
 | []=>[0]
 | f :: r=>(List.range (lb f - ((r.length:Int)+1)).toNat).map fun i=>loB f (r.length+1+i)
theorem f7m(f:Int):0<=lb f/\lb f<=4:=by unfold lb; repeat' split <;> omega
theorem g7d(f:Int)(p:Nat):128<=loB f p:=by unfold loB lo1; repeat' split <;> omega
theorem g7w(f:Int)(p:Nat):hiB f p<=191:=by unfold hiB hi1; repeat' split <;> omega
theorem e5k(f:Int)(r:List Int):g9a f r ↔ (∀ x∈r,128<=x/\x<=191)/\∀ x,r[0]? = some x->lo1 f<=x/\x<=hi1 f:=by
 constructor
 ·intro h
  refine⟨fun x hx=>?_,fun x hx=>?_⟩
  ·obtain⟨i,hi⟩:=List.getElem?_of_mem hx
   have:=h i x hi
   have h1:=g7d f (i+1)
   have h2:=g7w f (i+1)
   omega
  ·have:=h 0 x hx
   simpa [loB,hiB] using this
 ·rintro⟨h1,h2⟩ i x hx
  cases i with
  | zero=>simpa [loB,hiB] using h2 x hx
  | succ i =>
   have:=h1 x (List.mem_of_getElem? hx)
   simp only [loB,hiB]
   rw[if_neg (by omega),if_neg (by omega)]
   exact this
def row(n:Int):List Int:=if n < 128 then [n] else if n < 2048 then [192+n / 64,128+n%64] else if n < 65536 then [224+n / 4096,128+n / 64%64,128+n%64] else [240+n / 262144,128+n / 4096%64,128+n / 64%64,128+n%64]
theorem e9v(n:Int):1<=(row n).length/\(row n).length<=4:=by
 unfold row
 by_cases c1:n < 128
 ·rw[if_pos c1]; simp
 rw[if_neg c1]
 by_cases c2:n < 2048
 ·rw[if_pos c2]; simp
 rw[if_neg c2]
 by_cases c3:n < 65536
 ·rw[if_pos c3]; simp
 rw[if_neg c3]; simp
def c9e{α β:Type}(R:α->β->Prop)(xs:List α)(ys:List β):Prop:=xs.length=ys.length/\∀ (i:Nat) x y,xs[i]? = some x->ys[i]? = some y->R x y
theorem c9e.nil{α β:Type}{R:α->β->Prop}:c9e R [] []:=⟨rfl,fun i x y h=>by simp at h⟩
theorem c9e.cons{α β:Type}{R:α->β->Prop}{x:α}{y:β}{xs:List α}{ys:List β}(h:R x y)(t:c9e R xs ys):c9e R (x :: xs) (y :: ys):=⟨by simp[t.1],fun i a b ha hb=>by
 cases i with
 | zero=>simp at ha hb; subst ha hb; exact h
 | succ i=>exact t.2 i a b (by simpa using ha) (by simpa using hb)⟩
theorem c9e.imp{α β:Type}{R S:α->β->Prop}{xs:List α}{ys:List β}(h:c9e R xs ys)(k : ∀ x y,R x y->S x y):c9e S xs ys:=⟨h.1,fun i x y a b=>k x y (h.2 i x y a b)⟩
theorem c9e.app{α β:Type}{R:α->β->Prop}{xs us:List α}{ys vs:List β}(h:c9e R xs ys)(k:c9e R us vs):c9e R (xs++us) (ys++vs):=by
 refine⟨by simp[h.1,k.1],fun i x y a b=>?_⟩
 by_cases hi:i < xs.length
 ·rw[List.getElem?_append_left hi]at a
  rw[List.getElem?_append_left (by rw[<- h.1]; exact hi)]at b
  exact h.2 i x y a b
 ·rw[List.getElem?_append_right (by omega)]at a
  rw[List.getElem?_append_right (by rw[<- h.1]; omega),<- h.1]at b
  exact k.2 _ x y a b
theorem c9e.right{α β:Type}{R:α->β->Prop}{xs:List α}{ys:List β}(h:c9e R xs ys){i:Nat}{x:α}(hx:xs[i]? = some x) : ∃ y,ys[i]? = some y/\R x y:=by
 have hi:=(List.getElem?_eq_some_iff.mp hx).1
 have hy:ys[i]? = some (ys[i]'(by rw[<- h.1]; exact hi)):=by simp
 exact⟨_,hy,h.2 i x _ hx hy⟩
theorem c9e.left{α β:Type}{R:α->β->Prop}{xs:List α}{ys:List β}(h:c9e R xs ys){i:Nat}{y:β}(hy:ys[i]? = some y) : ∃ x,xs[i]? = some x/\R x y:=by
 have hi:=(List.getElem?_eq_some_iff.mp hy).1
 have hx:xs[i]? = some (xs[i]'(by rw[h.1]; exact hi)):=by simp
 exact⟨_,hx,h.2 i _ y hx hy⟩
def Kp(a:Addr)(H H':Hp):Prop:=∀ c u,c≠a->H c=some u->H' c=some u
theorem Kp.trans{a:Addr}{H H1 H2:Hp}(h:Kp a H H1)(h':Kp a H1 H2):Kp a H H2:=fun c u n e=>h' c u n (h c u n e)
theorem Kp.of{a:Addr}{H H1:Hp}(h:a1l H H1):Kp a H H1:=fun c u _ e=>h c u e
theorem Kp.upd{a:Addr}{H:Hp}{o:HO}:Kp a H (upd H a o):=fun c u n e=>by rw[a1c n]; exact e
end My
namespace My
open PySem L2
section
variable {P:Program}{w:World}{K:PySem.W.Frag}{mg:Str->Option Value}{base:Heap}{t:Adr}
def g5d:Sp:=fun vs H Q _=>∃ (n:Int) (b:Nat),vs=[.int n,.int (b:Int)]/\0<=n/\n < 2 ^ b/\Q .non H
theorem c8w (T:Txt w K mg t):Has P w K mg base "check_room" 1 t.c1p t.c0z ["number", "bits"] g5d:=by
 refine⟨T.e0a,T.c9d.kp,T.e0r,T.c9d.okQ d6a (fun vs H Q E h=>by obtain⟨n,b,rfl,_⟩:=h; rfl) fun cdv A outer s H vs Q E hr h=>?_⟩
 obtain⟨n,b,rfl,h0,h1,k⟩:=h
 refine⟨_,(a0e (a0w (a2w (a7d (a0o d8n (a0h 0) a0g (a1e _)) (a4w (a0o f5f (d9g (K:=K) rfl PySem.F.plainAttrs_int PySem.F.slot_int_bit_length PySem.F.type_int_bit_length g2n (a0h 0)) (a0h 1) (a1e _))))) (a0e a5e) a0n)),?_⟩
 refine a1v (fun e=>absurd (of_decide_eq_true e) (by omega)) (fun _=>?_)
 refine⟨rfl,?_⟩
 have hb:Builtin.Int.intBits n<=b:=intBits_le_iff.mpr (by
  have:(n.natAbs:Int) < ((2 ^ b:Nat):Int):=by rw[Int.natAbs_of_nonneg h0,Int.natCast_pow]; exact h1
  exact Int.ofNat_lt.mp this)
 refine a1v (fun e=>absurd (of_decide_eq_true e) (by omega)) (fun _=>?_)
 exact k
def g9l(K:PySem.W.Frag):Sp:=fun vs H Q _=>∃ (a:Addr) (ps:List Int) (b:Nat),vs=[.ref a,.int (b:Int)]/\SqL K H a (ps.map V.int)/\(∀ p∈ps,0<=p/\p < 2 ^ b)/\b<=1000/\ps.length<=1000/\Q (.int (tog b ps)) H
theorem c7j (T:Txt w K mg t):Has P w K mg base "together" 2 t.c8f t.c7q ["parts", "bits"] (g9l K):=by
 refine⟨T.e7t,T.d5o.kp,T.e8h,T.d5o.okQ b8o (fun vs H Q E h=>by obtain⟨a,ps,b,rfl,_⟩:=h; rfl) fun cdv A outer s H vs Q E hr h=>?_⟩
 obtain⟨a,ps,b,rfl,h1,h2,hb,hl,k⟩:=h
 refine⟨_,(a0b (a0r (i:=2) b8o.nd rfl (by first | exact Or.inl rfl | exact Or.inr rfl) a0g)
  (a0b (a4x PassesOwn.never rfl (a2q (K:=K) rfl (a0h 0)) (a0x (i:=3) b8o.nd rfl (by first | exact Or.inl rfl | exact Or.inr rfl)) (a0b (a2n (a2a (c8w T) hr (a0c (a0h 3) (a0c (a0h 1) a0a))))
  (a0e (a0r (i:=2) b8o.nd rfl (by first | exact Or.inl rfl | exact Or.inr rfl) (a0q (a1r (K:=K) rfl) (a0q f9y (a0h 2) (a0h 1)) (a0h 3))))))
  (a0e (a0i (a0h 2))))),?_⟩
 refine⟨a,rfl,⟨_,h1⟩,b8t (K:=K) (a:=a) (xs:=ps.map V.int) (fun i σ H'=>H'=H/\∃ v3,σ=[some (.ref a),some (.int b),some (.int (tog b (ps.take i))),v3]) ⟨rfl,_,rfl⟩ (fun i σ H' _ z=>by rw[z.1]; exact h1) ?_ ?_⟩
 ·rintro i x σ H2 hi ⟨rfl,v3,rfl⟩
  obtain⟨p,hp,rfl⟩ : ∃ p,ps[i]? = some p/\x=.int p:=by
   rw[List.getElem?_map]at hi
   cases e:ps[i]? with
   | none=>rw[e]at hi; cases hi
   | some p=>rw[e]at hi; cases hi; exact⟨p,rfl,rfl⟩
  have hpm:=h2 p (List.mem_of_getElem? hp)
  refine⟨p,b,rfl,hpm.1,hpm.2,?_⟩
  have hi':i < ps.length:=(List.getElem?_eq_some_iff.mp hp).1
  have ht:=g4m (b:=b) (ps:=ps.take i) fun q hq=>h2 q (List.mem_of_mem_take hq)
  have hbits:Builtin.Int.intBits (tog b (ps.take i))<=b*(ps.take i).length:=intBits_le_iff.mpr (by
   have:((tog b (ps.take i)).natAbs:Int) < ((2 ^ (b*(ps.take i).length):Nat):Int):=by rw[Int.natAbs_of_nonneg ht.1,Int.natCast_pow]; exact ht.2
   exact Int.ofNat_lt.mp this)
  have hl2:(ps.take i).length<=1000:=by rw[List.length_take]; omega
  have hbm:b*(ps.take i).length<=1000000:=Nat.mul_le_mul hb hl2
  refine⟨⟨by omega,show ((Builtin.Int.intBits (tog b (ps.take i)):Nat):Int)+(b:Int)<=2 ^ 27 by omega⟩,?_⟩
  refine⟨rfl,?_⟩
  have e:ps.take (i+1)=ps.take i++[p]:=by rw[List.take_add_one,hp]; rfl
  rw[e,f5q]
  exact⟨_,rfl⟩
 ·rintro σ H2 ⟨rfl,v3,rfl⟩
  rw[List.length_map,List.take_length]
  exact k
theorem c3s (T:Txt w K mg t):Has P w K mg base "is_number" 1 t.c4u t.c4d ["thing"] (sp1 e2u K):=by
 refine⟨T.e3c,T.d3p.kp,T.e4c,T.d3p.okQ d9d g8u fun cdv A outer s H vs Q E hr h=>?_⟩
 obtain⟨v,rfl,kd,k⟩:=h
 refine⟨_,(a0e (a0i (b5z (a2g (c4h (K:=K) rfl) T.n_isinstance PyProof.Rows.boot_isinstance (a0c (a0h 0) (a0c (e2n rfl T.n_int PyProof.Rows.boot_int) a0a))) (b1x (e4u (a2g (c4h (K:=K) rfl) T.n_isinstance PyProof.Rows.boot_isinstance (a0c (a0h 0) (a0c (e2n rfl T.n_bool PyProof.Rows.boot_bool) a0a)))))))),?_⟩
 obtain⟨ty,hty,e0⟩:=kd.isInt
 refine⟨ty,_,hty,e0,?_⟩
 refine a1v (fun e=>?_) (fun e=>?_)
 ·obtain⟨ty,hty,e0⟩:=kd.isBl
  refine⟨ty,_,hty,e0,?_⟩
  exact c7b k (by cases v <;> simp_all [e2u,f1i,g7q])
 ·exact c7b k (by cases v <;> simp_all [e2u,f1i])
theorem d9v (T:Txt w K mg t):Has P w K mg base "is_head" 1 t.d3g t.d1r ["number"] (spI fun i=>decide (55296<=i) && decide (i < 56320)):=by
 refine⟨T.f2o,T.e1g.kp,T.f4q,T.e1g.okQ e6u h3g fun cdv A outer s H vs Q E hr h=>?_⟩
 obtain⟨i,rfl,k⟩:=h
 refine⟨_,(a0e (a0i (b4u e7v d8n (c2w T.c1h) (a0h 0) (c2w T.b6b)))),?_⟩
 refine a1v (fun e1=>?_) (fun e1=>?_)
 ·exact c7b k (by simp at *; omega)
 ·exact c7b k (by simp at *; omega)
theorem d9u (T:Txt w K mg t):Has P w K mg base "is_tail" 1 t.d3d t.d1o ["number"] (spI fun i=>decide (56320<=i) && decide (i<=57343)):=by
 refine⟨T.f2l,T.e1d.kp,T.f4n,T.e1d.okQ e6r h3g fun cdv A outer s H vs Q E hr h=>?_⟩
 obtain⟨i,rfl,k⟩:=h
 refine⟨_,(a0e (a0i (b4u e7v e7v (c2w T.b6b) (a0h 0) (c2w T.e3n)))),?_⟩
 refine a1v (fun e1=>?_) (fun e1=>?_)
 ·exact c7b k (by simp at *; omega)
 ·exact c7b k (by simp at *; omega)
theorem b6l (T:Txt w K mg t):Has P w K mg base "is_seen_byte" 2 t.b7l t.b6m ["thing"] (sp1 (fun v=>d3r v 61184 61439) K):=by
 refine⟨T.d4l,T.c3c.kp,T.d4m,T.c3c.okQ d0a g8u fun cdv A outer s H vs Q E hr h=>?_⟩
 obtain⟨v,rfl,kd,k⟩:=h
 refine⟨_,(a0e (a0i (b5z (a2a (c3s T) hr (a0c (a0h 0) a0a)) (b1x (b4u e7v e7v (c2w T.c1g) (a0h 0) (c2w T.e3p)))))),?_⟩
 refine⟨v,rfl,kd,?_⟩
 refine a1v (fun e=>?_) (fun e=>?_)
 ·obtain⟨i,rfl⟩:=d0u e
  refine a1v (fun e1=>?_) (fun e1=>?_)
  ·exact c7b k (by simp[d3r]at *; omega)
  ·exact c7b k (by simp[d3r]at *; omega)
 ·exact c7b k (by cases v <;> simp_all [e2u,d3r])
theorem b2u (T:Txt w K mg t):Has P w K mg base "is_sign" 3 t.d3e t.d1p ["thing"] (sp1 b6k K):=by
 refine⟨T.f2m,T.e1e.kp,T.f4o,T.e1e.okQ e6s g8u fun cdv A outer s H vs Q E hr h=>?_⟩
 obtain⟨v,rfl,kd,k⟩:=h
 refine⟨_,(a0b (a0w (a2w (a7d (a7j (a5h (a2a (c3s T) hr (a0c (a0h 0) a0a)))) (a4w (a7j (d4w e7v e7v a0g (a0h 0) (c2w T.e3o)))))) (a0e (a0i b5d)) a0n)
  (a0e (a0i (e4u (d0g (a2a (d9v T) hr (a0c (a0h 0) a0a)) (d0g (a2a (d9u T) hr (a0c (a0h 0) a0a)) (b1x (a2a (b6l T) hr (a0c (a0h 0) a0a))))))))),?_⟩
 refine⟨v,rfl,kd,?_⟩
 refine a1v (fun e=>?_) (fun e=>?_)
 ·refine f7o ?_
  exact c7b k (by cases v <;> simp_all [e2u,d3r,b6k])
 ·obtain⟨i,rfl⟩:=d0u (v:=v) (by simpa using e)
  refine a1v (fun e1=>?_) (fun e1=>?_)
  ·refine a1v (fun e2=>?_) (fun e2=>?_)
   ·exact c7b k (by simp[b6k,d3r]at *; omega)
   ·refine⟨i,rfl,?_⟩
    refine a1v (fun e3=>?_) (fun e3=>?_)
    ·exact c7b k (by simp[b6k,d3r]at *; omega)
    ·refine⟨i,rfl,?_⟩
     refine a1v (fun e4=>?_) (fun e4=>?_)
     ·exact c7b k (by simp[b6k,d3r]at *; omega)
     ·refine⟨_,rfl,kd,?_⟩
      exact c7b k (by rw[Bool.eq_iff_iff]; simp[b6k,d3r]at *; omega)
  ·refine f7o ?_
   exact c7b k (by simp[b6k,d3r]at *; omega)
def g9p(K:PySem.W.Frag):Sp:=fun vs H Q _=>∃ (a:Addr) (us:List Int),vs=[.ref a]/\SqL K H a (us.map V.int)/\us.length<=2/\∀ H',a1l H H'->Q (oV (c8s us)) H'
theorem g4l : ∀ {us:List Int},us.length=2->∃ u v,us=[u,v]
 | [u,v],_=>⟨u,v,rfl⟩
theorem g9f(x y:Int):tog 10 [x,y]=x*1024+y:=by
 show (0*2 ^ 10+x)*2 ^ 10+y=_
 have:(2:Int) ^ 10=1024:=by decide
 rw[this]
 omega
theorem f1s (T:Txt w K mg t):Has P w K mg base "sign_of" 4 t.d3b t.d1m ["units"] (g9p K):=by
 refine⟨T.f2j,T.e1b.kp,T.f4l,T.e1b.okQ e6q (fun vs H Q E h=>by obtain⟨a,us,rfl,_⟩:=h; rfl) fun cdv A outer s H vs Q E hr h=>?_⟩
 obtain⟨a,us,rfl,ha,hl,k⟩:=h
 have hu:=hr.units
 obtain⟨o,eo⟩ : ∃ o,o=c8s us:=⟨_,rfl⟩
 rw[<- eo]at k
 obtain⟨L,eL⟩ : ∃ L:Int,L=((us.map V.int).length:Int):=⟨_,rfl⟩
 have eL2:L=(us.length:Int):=by rw[eL,List.length_map]
 refine⟨_,(a0b (a0w (a2w (a9x (a0o (a4q (K:=K) rfl hu) (a2g (a3b (K:=K) rfl) T.n_len PySem.boot_len (a0c (a0h 0) a0a)) a0g (a1e _)) (a8d (a5h (a2a (b2u T) hr (a0c (a1b (a1y (K:=K) rfl) (a0h 0) a0g (fun _ _=>rfl)) a0a)))))) (a0e (a0i (a1b (a1y (K:=K) rfl) (a0h 0) a0g (fun _ _=>rfl)))) a0n)
  (a0b (a0w (a2w (a9x (a0o (a4q (K:=K) rfl hu) (a2g (a3b (K:=K) rfl) T.n_len PySem.boot_len (a0c (a0h 0) a0a)) a0g (a1e _)) (a9x (a5h (a2a (d9v T) hr (a0c (a1b (a1y (K:=K) rfl) (a0h 0) a0g (fun _ _=>rfl)) a0a))) (a8d (a5h (a2a (d9u T) hr (a0c (a1b (a1y (K:=K) rfl) (a0h 0) a0g (fun _ _=>rfl)) a0a))))))) (a0e (a0i (a0q (a1r (K:=K) rfl) (c2w T.c1f) (a2a (c7j T) hr (a0c (a0y (a0c (a0q b2z (a1b (a1y (K:=K) rfl) (a0h 0) a0g (fun _ _=>rfl)) (c2w T.c1h)) (a0c (a0q b2z (a1b (a1y (K:=K) rfl) (a0h 0) a0g (fun _ _=>rfl)) (c2w T.b6b)) a0a))) (a0c (c2w T.d2h) a0a)))))) a0n)
  (a0e (a0i a2e)))),?_⟩
 have second : ∀ {Q1:Prop} {Q2:Prop} {b:Bool},(b=true->Q1)->(b=false->Q2)->if b=true then Q1 else Q2:=fun {Q1 Q2 b} x y=>by
  cases b with
  | true=>exact x rfl
  | false=>exact y rfl
 refine⟨_,.inl ha,?_⟩
 rw[<- eL]
 refine a1v (fun e=>?_) (fun e=>?_)
 ·have e:L=1:=of_decide_eq_true e
  obtain⟨u,rfl⟩ : ∃ u,us=[u]:=List.length_eq_one_iff.mp (by omega)
  refine⟨_,.int u,.inl ha,a1f (j:=0) rfl,?_⟩
  refine⟨.int u,rfl,.int u,?_⟩
  refine a1v (fun e1=>?_) (fun e1=>?_)
  ·refine⟨_,.int u,.inl ha,a1f (j:=0) rfl,?_⟩
   have es:o=some u:=eo.trans (if_pos e1)
   subst es
   exact k _ (a1l.refl _)
  ·have es:o=none:=eo.trans (if_neg e1)
   subst es
   refine⟨_,.inl ha,?_⟩
   rw[<- eL]
   refine a1v (fun e2=>absurd (of_decide_eq_true e2) (by omega)) (fun _=>?_)
   exact k _ (a1l.refl _)
 have e : ¬ L=1:=fun z=>e (decide_eq_true z)
 refine⟨_,.inl ha,?_⟩
 rw[<- eL]
 refine a1v (fun e2=>?_) (fun e2=>?_)
 ·have e2:L=2:=of_decide_eq_true e2
  obtain⟨u,v,rfl⟩ : ∃ u v,us=[u,v]:=g4l (by omega)
  refine⟨_,.int u,.inl ha,a1f (j:=0) rfl,?_⟩
  refine⟨u,rfl,?_⟩
  refine a1v (fun e1=>?_) (fun e1=>?_)
  ·simp only [Bool.and_eq_true,decide_eq_true_eq]at e1
   refine⟨_,.int v,.inl ha,a1f (j:=1) rfl,?_⟩
   refine⟨v,rfl,?_⟩
   refine a1v (fun e2=>?_) (fun e2=>?_)
   ·simp only [Bool.and_eq_true,decide_eq_true_eq]at e2
    have es:o=some (65536+((u - 55296)*1024+(v - 56320))):=eo.trans (if_pos ⟨e1,e2⟩)
    subst es
    refine⟨_,.int u,.inl ha,a1f (j:=0) rfl,?_⟩
    refine⟨_,.int v,.inl ha,a1f (j:=1) rfl,?_⟩
    refine⟨sz rfl,fun p1 H1 g1=>?_⟩
    have et:=g9f (u - 55296) (v - 56320)
    have g2:SqL K H1 p1 (([u - 55296,v - 56320]:List Int).map V.int):=g1.lst
    obtain⟨ps,e5⟩ : ∃ ps:List Int,ps=[u - 55296,v - 56320]:=⟨_,rfl⟩
    rw[<- e5]at g2 et
    have e10:(2:Int) ^ 10=1024:=by decide
    refine⟨p1,ps,10,rfl,g2,?_,by decide,by rw[e5]; simp,?_⟩
    ·intro x hx
     rw[e5]at hx
     simp at hx
     rcases hx with rfl | rfl <;> omega
    ·rw[et]
     exact k _ g1.sm
   ·have es:o=none:=eo.trans (if_neg fun z=>e2 (by simp; exact z.2))
    subst es
    exact k _ (a1l.refl _)
  ·have es:o=none:=eo.trans (if_neg fun z=>e1 (by simp; exact z.1))
   subst es
   exact k _ (a1l.refl _)
 ·have e2 : ¬ L=2:=fun z=>e2 (decide_eq_true z)
  have z0:us=[]:=List.length_eq_zero_iff.mp (by omega)
  subst z0
  subst eo
  exact k _ (a1l.refl _)
def Po(t:Adr)(H:Hp)(o:Addr)(h:Bool):Prop:=∃ dx,H o=some (.ins t.a1k dx [("order",.str (d0i h))])
theorem Po.mono{H H':Hp}{o:Addr}{h:Bool}(p:Po t H o h)(s:a1l H H'):Po t H' o h:=let ⟨dx,z⟩:=p; ⟨dx,s _ _ z⟩
def e9m(t:Adr):Sp:=fun vs H Q _=>∃ (x dx:Addr) (h:Bool),vs=[.ref x,.str (d0i h)]/\H x=some (.ins t.a1k dx [])/\Q .non (upd H x (.ins t.a1k dx [("order",.str (d0i h))]))
theorem f7c (T:Txt w K mg t):b8g P w K mg base CX0 1 t.a9j t.a6e ["self", "order"] (e9m t):=by
 refine T.c8o.okQ c5j (fun vs H Q E h=>by obtain⟨x,dx,v,rfl,_⟩:=h; rfl) fun cdv A outer s H vs Q E hr h=>?_
 obtain⟨x,dx,h,rfl,hx,k⟩:=h
 refine⟨_,(a0b (a0w (a2w (a7d (a7j (a5h (a2g (c4h (K:=K) rfl) T.n_isinstance PyProof.Rows.boot_isinstance (a0c (a0h 1) (a0c (e2n rfl T.n_str PyProof.Rows.boot_str) a0a))))) (a4w (a0o (f8c (K:=K) rfl rfl T.f3f) (a0h 1) (b0v (v:=.ref t.e4f) rfl T.f3z rfl) (by with_unfolding_all rfl))))) (a0e a5e) a0n)
  (a0e (a1w (K:=K) rfl (a0h 0) (a0h 1)))),?_⟩
 refine⟨_,_,.str _,by with_unfolding_all rfl,?_⟩
 refine⟨_,rfl,rfl,?_⟩
 refine a1v (fun e=>absurd e (by cases h <;> simp[f5e,d0i])) (fun _=>?_)
 exact⟨x,_,dx,_,rfl,hx,T.a2s,T.b0a,by decide,k⟩
theorem d0x (T:Txt w K mg t):d8f P w K mg base "PairTongue" t.a1k 1 t.a9j t.a6e ["self", "order"] [] (e9m t):=⟨T.d6u,T.d6j,⟨[],T.c7y,.nil⟩,f7c T⟩
theorem f1w (T:Txt w K mg t):Has P w K mg base "is_byte" 2 t.d3h t.d1s ["thing"] (sp1 (fun v=>d3r v 0 255) K):=by
 refine⟨T.f2p,T.e1h.kp,T.f4r,T.e1h.okQ e6v g8u fun cdv A outer s H vs Q E hr h=>?_⟩
 obtain⟨v,rfl,kd,k⟩:=h
 refine⟨_,(a0e (a0i (b5z (a2a (c3s T) hr (a0c (a0h 0) a0a)) (b1x (b4u e7v e7v a0g (a0h 0) (c2w T.e3q)))))),?_⟩
 refine⟨v,rfl,kd,?_⟩
 refine a1v (fun e=>?_) (fun e=>?_)
 ·obtain⟨i,rfl⟩:=d0u e
  refine a1v (fun e1=>?_) (fun e1=>?_)
  ·exact c7b k (by simp[d3r]at *; omega)
  ·exact c7b k (by simp[d3r]at *; omega)
 ·exact c7b k (by cases v <;> simp_all [e2u,d3r])
def g4x(t:Adr):Sp:=fun vs H Q _=>∃ (o a:Addr) (h:Bool) (x y:Int),vs=[.ref o,.ref a]/\Po t H o h/\H a=some (.lst [.int x,.int y])/\∀ p H',a1l H H'->H' p=some (.lst ((if h then [x,y] else [y,x]).map V.int))->Q (.ref p) H'
theorem b5h (T:Txt w K mg t):c4v P w K mg base t.a1k "turned" 1 t.b0i t.b0d ["self", "pair"] (g4x t):=by
 refine⟨T.a2s,T.c2m,T.c4o,T.c5b.okQ c2g (fun vs H Q E h=>by obtain⟨o,a,h,x,y,rfl,_⟩:=h; rfl) fun cdv A outer s H vs Q E hr h=>?_⟩
 obtain⟨o,a,h,x,y,rfl,⟨dx,ho⟩,ha,k⟩:=h
 have hu:=hr.units
 refine⟨_,(a0e (a0i (a7b (a0o (a4q (K:=K) rfl hu) (a0z (K:=K) rfl (a0h 0)) a2d (a1e _)) (a0h 1) (a0y (a0c (a1b (a1y (K:=K) rfl) (a0h 1) a0g (fun _ _=>rfl)) (a0c (a1b (a1y (K:=K) rfl) (a0h 1) a0g (fun _ _=>rfl)) a0a)))))),?_⟩
 refine⟨o,_,dx,_,_,rfl,ho,T.a2s,T.b0a,rfl,?_⟩
 cases h with
 | true =>
  refine⟨_,_,a1j.str _,a1j.str _,by decide +kernel,by decide +kernel,?_⟩
  refine a1v (fun _=>?_) (fun e=>absurd (by decide +kernel) e)
  exact k _ _ (a1l.refl _) ha
 | false =>
  refine⟨_,_,a1j.str _,a1j.str _,by decide +kernel,by decide +kernel,?_⟩
  refine a1v (fun e=>absurd e (by decide +kernel)) (fun _=>?_)
  refine⟨_,.int y,.inl (.of ha),a1f (j:=1) rfl,?_⟩
  refine⟨_,.int x,.inl (.of ha),a1f (j:=0) rfl,?_⟩
  exact⟨sz rfl,fun p H' g=>k _ _ g.sm g.at_⟩
def g9k(K:PySem.W.Frag)(t:Adr):Sp:=fun vs H Q _=>∃ (o a:Addr) (h:Bool) (r:List Int),vs=[.ref o,.ref a]/\Po t H o h/\SqL K H a (r.map V.int)/\(r.length=2\/r.length=4)/\b5u r/\∀ p H',Gro H p (.lst ((b1g h r).map V.int)) H'->Q (.ref p) H'
theorem c0t (T:Txt w K mg t):c4v P w K mg base t.a1k "units_in" 3 t.a8q t.a8j ["self", "row"] (g9k K t):=by
 refine⟨T.a2s,T.c0m,T.c1j,T.c1u.okQ c0k (fun vs H Q E h=>by obtain⟨o,a,h,r,rfl,_⟩:=h; rfl) fun cdv A outer s H vs Q E hr h=>?_⟩
 obtain⟨o,a,h,r,rfl,po,ha,hl,hb,k⟩:=h
 have hu:=hr.units
 refine⟨_,(a0e (a0i (a6b rfl (a2b.of (fns:=(a0f a2i).names) (N:=["self", "row"]) (Nc:=["at", "self", "row"]) (nv:=1) (caps:=[0,1]) rfl rfl (by decide +kernel)) (e2l rfl T.n_range (a0c a0g (a0c (a2g (a3b (K:=K) rfl) T.n_len PySem.boot_len (a0c (a0h 1) a0a)) (a0c a0g a0a)))) (fun _ _ _ _=>(a0x (i:=0) (show List.Nodup (["at", "self", "row"]:List Str) by decide +kernel) rfl (Or.inl rfl) (Or.inr rfl))) (fun _ _ _ _=>a4p) (fun _ _ _ _=>(a2a (c7j T) hr (a0c (a4f (b5h T) hr (a0h 1) (a0c (a1z (b8c (K:=K) rfl) (a0h 2) (a1x (a0h 0)) (a1x (a0q (a1r (K:=K) rfl) (a0h 0) a0g))) a0a)) (a0c (c2w T.d2i) a0a))))))),?_⟩
 refine⟨_,.inl ha,?_⟩
 refine⟨r.length,2,by rw[List.length_map]; rfl,by omega,by decide,by decide,?_⟩
 have hn:(b1g h r).length=(r.length+(2 - 1)) / 2:=by
  match r,hl with
  | [x,y],_=>simp[b1g]
  | [x,y,z,v],_=>simp[b1g]
 refine f3m (cs:=[some (.ref o),some (.ref a)]) ((b1g h r).map V.int) (by rw[List.length_map,hn]) (szl (by omega)) (fun i y H2 N hi hy s2 hN=>?_) k
 obtain⟨x1,x2,ec,m1,m2,rfl⟩ : ∃ x1 x2,e5q r (some ((0:Int)+(i:Int)*((2:Nat):Int))) (some ((0:Int)+(i:Int)*((2:Nat):Int)+2))=[x1,x2]/\x1∈r/\x2∈r/\y=.int (u2 h x1 x2):=by
  match r,hl,hi,hy with
  | [x,z],_,hi,hy =>
   have:i=0:=by simp at hi; omega
   subst this
   cases hy
   exact⟨x,z,rfl,by simp,by simp,rfl⟩
  | [x,z,v,u],_,hi,hy =>
   have:i=0\/i=1:=by simp at hi; omega
   rcases this with rfl | rfl
   ·cases hy
    exact⟨x,z,rfl,by simp,by simp,rfl⟩
   ·cases hy
    exact⟨v,u,rfl,by simp,by simp,rfl⟩
 obtain⟨dx,ho⟩:=po.mono s2
 refine⟨o,dx,_,rfl,ho,rfl,?_⟩
 refine⟨_,rfl,_,rfl,_,s2.seq ha,fun p3 H3 g3=>?_⟩
 rw[a5p,ec]at g3
 refine⟨o,p3,h,x1,x2,rfl,⟨dx,g3.sm _ _ ho⟩,g3.at_,fun p4 H4 s4 h4=>?_⟩
 have b1:=hb x1 m1
 have b2:=hb x2 m2
 have e8:(2:Int) ^ 8=256:=by decide
 refine⟨p4,if h then [x1,x2] else [x2,x1],8,rfl,.of h4,?_,by decide,by cases h <;> simp,?_⟩
 ·intro q hq
  cases h <;> simp at hq <;> rcases hq with rfl | rfl <;> omega
 ·have et:tog 8 (if h then [x1,x2] else [x2,x1])=u2 h x1 x2:=by cases h <;> simp[tog,u2]
  rw[et]
  exact hN _ (g3.sm.trans s4)
theorem d8r(h:Bool) : ∀ r:List Int,r.length=2\/r.length=4->(b1g h r).length<=2
 | [_,_],_=>by simp[b1g]
 | [_,_,_,_],_=>by simp[b1g]
def g4v(K:PySem.W.Frag)(t:Adr):Sp:=fun vs H Q _=>∃ (o a:Addr) (h:Bool) (r:List Int),vs=[.ref o,.ref a,.int 0]/\Po t H o h/\SqL K H a (r.map V.int)/\b5u r/\r.length<=1000/\(∀ n,whl h r=some n->∀ p H',Gro H p (.tup [.int n,.int 0]) H'->Q (.ref p) H')/\(whl h r=none->∀ H',a1l H H'->Q .non H')
theorem f0r (T:Txt w K mg t):b8g P w K mg base CX0 5 t.a7x t.a5l ["self", "row", "page"] (g4v K t):=by
 refine T.c6w.okQ b4z (fun vs H Q E h=>by obtain⟨o,a,h,r,rfl,_⟩:=h; rfl) fun cdv A outer s H vs Q E hr h=>?_
 obtain⟨o,a,h,r,rfl,po,ha,hb,hl,k1,k2⟩:=h
 have hu:=hr.units
 refine⟨_,(a0b (a0w (a0o (e5i (K:=K) rfl) (a2g (a3b (K:=K) rfl) T.n_len PySem.boot_len (a0c (a0h 1) a0a)) (a1u (a0c a0g (a0c a0g a0a))) (by with_unfolding_all rfl)) (a0e (a0i a2e)) a0n)
  (a0b (a0r (i:=3) b4z.nd rfl (by first | exact Or.inl rfl | exact Or.inr rfl) (a2a (f1s T) hr (a0c (a4f (c0t T) hr (a0h 0) (a0c (a0h 1) a0a)) a0a)))
  (a0e (a0i (a7b (a0o g3f (a0h 3) a2e (a1e _)) a2e (a1u (a0c (a0h 3) (a0c (a0h 2) a0a)))))))),?_⟩
 refine⟨_,.inl ha,?_⟩
 refine⟨sz rfl,fun p1 H1 g1=>?_⟩
 refine⟨_,.inr g1.tup,rfl,rfl,?_⟩
 have ei:inV (.int ((r.map V.int).length:Int)) [V.int 2,V.int 4]=decide (r.length=2\/r.length=4):=by
  rw[List.length_map,Bool.eq_iff_iff]
  simp[inV,eqV]
  omega
 refine a1v (fun e=>?_) (fun e=>?_)
 ·have e:(!inV (.int ((r.map V.int).length:Int)) [V.int 2,V.int 4])=true:=e
  rw[ei]at e
  have c : ¬ (r.length=2\/r.length=4):=by simpa using e
  exact k2 (if_neg c) _ g1.sm
 have e : ¬ (!inV (.int ((r.map V.int).length:Int)) [V.int 2,V.int 4])=true:=e
 rw[ei]at e
 have c:r.length=2\/r.length=4:=by simp at e; omega
 have ew:whl h r=c8s (b1g h r):=if_pos c
 obtain⟨dx,ho⟩:=po.mono g1.sm
 refine⟨o,dx,_,rfl,ho,rfl,?_⟩
 refine⟨o,a,h,r,rfl,⟨dx,ho⟩,g1.sm.seq ha,c,hb,fun p2 H2 g2=>?_⟩
 refine⟨p2,b1g h r,rfl,g2.lst,d8r h r c,fun H3 s3=>?_⟩
 have sA:=g1.sm.trans (g2.sm.trans s3)
 rw[ew]at k1 k2
 cases es:c8s (b1g h r) with
 | none=>exact k2 es _ sA
 | some n=>exact⟨sz rfl,fun p4 H4 g4=>k1 n es p4 H4 (g4.after sA)⟩
theorem b3n (T:Txt w K mg t):b7o P w K mg base t.a1k "whole" 5 t.a7x t.a5l ["self", "row", "page"] [] (g4v K t) :=
 ⟨T.a2s,T.c3n,⟨_,T.c6h,.nil⟩,f0r T⟩
def fil(h:Bool)(r:List Int):Option (List Int):=(e0d h).find? fun f=>(whl h (r++f)).isSome
def f9h(K:PySem.W.Frag)(t:Adr):Sp:=fun vs H Q _=>∃ (o a:Addr) (h:Bool) (r:List Int),vs=[.ref o,.ref a,.int 0]/\Po t H o h/\SqL K H a (r.map V.int)/\b5u r/\r.length<=900/\(∀ f,fil h r=some f->∀ p H',Gro H p (.lst (f.map V.int)) H'->Q (.ref p) H')/\(fil h r=none->∀ H',a1l H H'->Q .non H')
def g8x(t:Adr)(h:Bool):List Addr:=if h then [t.a_FILLS_0_0,t.a_FILLS_0_1,t.a_FILLS_0_2,t.a_FILLS_0_3,t.a_FILLS_0_4] else [t.a_FILLS_1_0,t.a_FILLS_1_1,t.a_FILLS_1_2,t.a_FILLS_1_3,t.a_FILLS_1_4]
theorem h5y(T:Txt w K mg t)(h:Bool){i:Nat}{x:V}(hx:((g8x t h).map V.ref)[i]? = some x) : ∃ b f,x=.ref b/\(e0d h)[i]? = some f/\∀ H,SqT K H b (f.map V.int):=by
 cases h with
 | true =>
  match i,hx with
  | 0,hx=>cases hx; exact⟨_,_,rfl,rfl,T.q_FILLS_0_0⟩
  | 1,hx=>cases hx; exact⟨_,_,rfl,rfl,T.q_FILLS_0_1⟩
  | 2,hx=>cases hx; exact⟨_,_,rfl,rfl,T.q_FILLS_0_2⟩
  | 3,hx=>cases hx; exact⟨_,_,rfl,rfl,T.q_FILLS_0_3⟩
  | 4,hx=>cases hx; exact⟨_,_,rfl,rfl,T.q_FILLS_0_4⟩
 | false =>
  match i,hx with
  | 0,hx=>cases hx; exact⟨_,_,rfl,rfl,T.q_FILLS_1_0⟩
  | 1,hx=>cases hx; exact⟨_,_,rfl,rfl,T.q_FILLS_1_1⟩
  | 2,hx=>cases hx; exact⟨_,_,rfl,rfl,T.q_FILLS_1_2⟩
  | 3,hx=>cases hx; exact⟨_,_,rfl,rfl,T.q_FILLS_1_3⟩
  | 4,hx=>cases hx; exact⟨_,_,rfl,rfl,T.q_FILLS_1_4⟩
theorem f2t{α:Type}{p:α->Bool} : ∀ {l:List α} {i:Nat} {f:α},l[i]? = some f->(∀ g∈l.take i,p g=false)->p f=true->l.find? p=some f
 | a :: r,0,f,h,_,hp=>by cases h; rw[List.find?_cons,hp]
 | a :: r,i+1,f,h,hn,hp=>by
  rw[List.find?_cons,hn a (by simp)]
  exact f2t (l:=r) (i:=i) h (fun g hg=>hn g (by simp[hg])) hp
theorem f7e (T:Txt w K mg t):b8g P w K mg base CX0 6 t.a9k t.a6f ["self", "row", "page"] (f9h K t):=by
 refine T.c8p.okQ b5x (fun vs H Q E h=>by obtain⟨o,a,h,r,rfl,_⟩:=h; rfl) fun cdv A outer s H vs Q E hr h=>?_
 obtain⟨o,a,h,r,rfl,po,ha,hb,hl,k1,k2⟩:=h
 have hu:=hr.units
 refine⟨_,(a0b (a4x PassesOwn.never rfl (f0a (K:=K) rfl (g5q (K:=K) rfl rfl T.f3f rfl T.f3z (a0z (K:=K) rfl (a0h 0)))) (a0x (i:=3) b5x.nd rfl (by first | exact Or.inl rfl | exact Or.inr rfl)) (a0e (a0w (a0o d6x (a2r (b3n T) hr (a0h 0) (a0c (a0q (a1r (K:=K) rfl) (a0h 1) (a9o (b1t (K:=K) rfl) T.n_list PyProof.Rows.boot_list (a0c (a0h 3) a0a))) (a0c (a0h 2) a0a))) a2e (a1e _)) (a0e (a0i (a9o (b1t (K:=K) rfl) T.n_list PyProof.Rows.boot_list (a0c (a0h 3) a0a)))) a0n)))
  (a0e (a0i a2e))),?_⟩
 obtain⟨dx,ho⟩:=id po
 refine⟨o,_,dx,_,_,rfl,ho,T.a2s,T.b0a,rfl,?_⟩
 obtain⟨F,eF,qF⟩ : ∃ F,f5e [(t.h_FILLS_0, "high",t.a_FILLS_0),(t.h_FILLS_1, "low",t.a_FILLS_1)] (d0i h)=some F/\∀ H,SqT K H F ((g8x t h).map V.ref):=by
  cases h with
  | true=>exact⟨_,by simp[f5e,d0i],T.q_FILLS_0⟩
  | false=>exact⟨t.a_FILLS_1,by simp[f5e,d0i,show ¬ (("high" : Str) = "low") by decide],T.q_FILLS_1⟩
 refine⟨_,F,rfl,eF,?_⟩
 have eL:((g8x t h).map V.ref).length=(e0d h).length:=by cases h <;> rfl
 refine⟨_,rfl,⟨_,qF _⟩,g3l (K:=K) (a:=F) (xs:=(g8x t h).map V.ref) (fun i σ H'=>a1l H H'/\(∀ g∈(e0d h).take i,(whl h (r++g)).isSome=false)/\∃ v3,σ=[some (.ref o),some (.ref a),some (.int 0),v3]) ⟨a1l.refl _,fun g z=>by simp at z,_,rfl⟩ (fun i σ H' _ z=>qF _) ?_ ?_⟩
 ·rintro i x σ H2 hx ⟨s2,hn,v3,rfl⟩
  obtain⟨b,f,rfl,hf,qb⟩:=h5y T h hx
  have hm:=List.mem_of_getElem? hf
  have hfl:=f2u hm
  refine⟨o,dx,_,rfl,s2 _ _ ho,rfl,?_⟩
  refine⟨_,.inr (qb _),fun p3 H3 g3=>?_⟩
  have s3:=s2.trans g3.sm
  refine⟨_,_,s3.seq ha,g3.lst,szl (by rw[List.length_map,List.length_map]; omega),fun p4 H4 g4=>?_⟩
  rw[<- List.map_append]at g4
  have s4:=s3.trans g4.sm
  refine⟨o,p4,h,r++f,rfl,⟨dx,s4 _ _ ho⟩,g4.lst,hb.app (e7x hm),by rw[List.length_append]; omega,fun n hw p5 H5 g5=>?_,fun hw H5 s5=>?_⟩
  ·have ef:fil h r=some f:=f2t hf hn (by rw[hw]; rfl)
   exact⟨_,.inr (qb _),fun p6 H6 g6=>k1 f ef p6 H6 (g6.after (s4.trans g5.sm))⟩
  ·refine⟨s4.trans s5,fun g hg=>?_,_,rfl⟩
   rw[List.take_add_one,hf]at hg
   rcases List.mem_append.mp hg with hg | hg
   ·exact hn g hg
   ·have:g=f:=by simpa using hg
    rw[this,hw]; rfl
 ·rintro σ H2 ⟨s2,hn,v3,rfl⟩
  rw[eL,List.take_length]at hn
  exact k2 (List.find?_eq_none.mpr fun g hg=>by rw[hn g hg]; simp) _ s2
theorem c3v (T:Txt w K mg t):b7o P w K mg base t.a1k "fill" 6 t.a9k t.a6f ["self", "row", "page"] [] (f9h K t) :=
 ⟨T.a2s,T.c5m,⟨_,T.c7z,.nil⟩,f7e T⟩
theorem f0g(h:Bool)(n:Int):(e2p h n).length=if n < 65536 then 2 else 4:=by
 unfold e2p a3d
 by_cases c:n < 65536
 ·rw[if_pos c,if_pos c,c5s]; rfl
 ·rw[if_neg c,if_neg c,c5s]; rfl
theorem g0p(h:Bool){u:Int}(hu:0<=u/\u < 65536):b5u (ub h u):=by
 intro b hb
 unfold ub at hb
 cases h <;> simp at hb <;> omega
theorem f0h(h:Bool){n:Int}(hs:Sg n):b5u (e2p h n):=by
 intro b hb
 unfold e2p at hb
 obtain⟨u,hu,hb⟩:=List.mem_flatMap.mp hb
 exact g0p h (e4j hs hu) b hb
theorem h3o(f:Int)(r:List Int):d5g ((f :: r).map V.int) (some 1) none=r.map V.int:=by
 rw[a5p]
 congr 1
 exact c1d (f :: r) 1
def h4p:Sp:=fun vs H Q _=>∃ f,vs=[.int f]/\Q (.int (lb f)) H
theorem d1c (T:Txt w K mg t):Has P w K mg base "length_behind" 1 t.b5q t.b5m ["first"] h4p:=by
 refine⟨T.d1e,T.c1r.kp,T.d2q,T.c1r.okQ c9f (fun vs H Q E h=>by obtain⟨f,rfl,_⟩:=h; rfl) fun cdv A outer s H vs Q E hr h=>?_⟩
 obtain⟨f,rfl,k⟩:=h
 have hu:=hr.units
 refine⟨_,(a0b (a0w (a0o d8n (a0h 0) a0g (a1e _)) (a0e (a0i a0g)) a0n)
  (a0b (a0w (a2w (a7d (a0o d8n (a0h 0) a0g (a1e _)) (a4w (a0o f5f (a0h 0) a0g (a1e _))))) (a0e (a0i a0g)) a0n)
  (a0b (a0w (a0o d8n (a0h 0) a0g (a1e _)) (a0e (a0i a0g)) a0n)
  (a0b (a0w (a0o d8n (a0h 0) a0g (a1e _)) (a0e (a0i a0g)) a0n)
  (a0e (a0i a0g)))))),?_⟩
 have fit : ∀ {n:Int},n=lb f->Q (.int n) H:=fun e=>e ▸ k
 refine a1v (fun e=>fit ?_) (fun e=>?_)
 ·simp at e; unfold lb; rw[if_pos (by omega)]
 refine a1v (fun e1=>?_) (fun e1=>?_)
 ·exact fit (by simp at e e1; unfold lb; rw[if_neg (by omega),if_pos (by omega)])
 refine a1v (fun e2=>?_) (fun e2=>?_)
 ·exact fit (by simp at e e1 e2; unfold lb; rw[if_neg (by omega),if_pos (by omega)])
 refine a1v (fun e3=>?_) (fun e3=>?_)
 ·exact fit (by simp at e e1 e2 e3; unfold lb; rw[if_neg (by omega),if_neg (by omega),if_pos (by omega)])
 refine a1v (fun e4=>?_) (fun e4=>?_)
 ·exact fit (by simp at e e1 e2 e3 e4; unfold lb; rw[if_neg (by omega),if_neg (by omega),if_neg (by omega),if_pos (by omega)])
 ·exact fit (by simp at e e1 e2 e3 e4; unfold lb; rw[if_neg (by omega),if_neg (by omega),if_neg (by omega),if_neg (by omega)])
def g9w(K:PySem.W.Frag):Sp:=fun vs H Q _=>∃ (a:Addr) (f:Int) (r:List Int) (p:Nat),vs=[.ref a,.int (p:Int)]/\SqL K H a ((f :: r).map V.int)/\∀ b H',a1l H H'->SqT K H' b [.int (loB f p),.int (hiB f p)]->Q (.ref b) H'
theorem c0q (T:Txt w K mg t):Has P w K mg base "bounds_behind" 1 t.b5r t.b5n ["row", "place"] (g9w K):=by
 refine⟨T.d1f,T.c1s.kp,T.d2r,T.c1s.okQ c9g (fun vs H Q E h=>by obtain⟨a,f,r,p,rfl,_⟩:=h; rfl) fun cdv A outer s H vs Q E hr h=>?_⟩
 obtain⟨a,f,r,p,rfl,h1,k⟩:=h
 have hu:=hr.units
 refine⟨_,(a0b (a0w (a0o (a4q (K:=K) rfl hu) (a0h 1) a0g (a1e _)) (a0e (a0i (g1l (K:=K) rfl T.f3e rfl T.f3x (a1b (a1y (K:=K) rfl) (a0h 0) a0g (fun _ _=>rfl)) (a1u (a0c (c2w T.b2q) (a0c (c2w T.c6b) a0a)))))) a0n)
  (a0e (a0i (a1u (a0c (c2w T.b2q) (a0c (c2w T.c6b) a0a)))))),?_⟩
 refine a1v (fun e=>?_) (fun e=>?_)
 ·have hp:p=1:=by have:=of_decide_eq_true e; omega
  subst hp
  refine⟨_,.int f,.inl h1,a1f (j:=0) rfl,?_⟩
  refine⟨sz rfl,fun p1 H1 g1=>?_⟩
  refine⟨f,rfl,?_⟩
  by_cases c1:f=224
  ·subst c1; exact k _ _ g1.sm (T.q_SECONDS_0 H1)
  by_cases c2:f=237
  ·subst c2; exact k _ _ g1.sm (T.q_SECONDS_1 H1)
  by_cases c3:f=238
  ·subst c3; exact k _ _ g1.sm (T.q_SECONDS_2 H1)
  by_cases c4:f=240
  ·subst c4; exact k _ _ g1.sm (T.q_SECONDS_3 H1)
  by_cases c5:f=244
  ·subst c5; exact k _ _ g1.sm (T.q_SECONDS_4 H1)
  have e:g8a [(224,t.a_SECONDS_0),(237,t.a_SECONDS_1),(238,t.a_SECONDS_2),(240,t.a_SECONDS_3),(244,t.a_SECONDS_4)] f=none:=by
   simp[g8a,Ne.symm c1,Ne.symm c2,Ne.symm c3,Ne.symm c4,Ne.symm c5]
  rw[e]
  refine k _ _ g1.sm ?_
  rw[loB,hiB,if_pos rfl,if_pos rfl,lo1,hi1,if_neg c1,if_neg c4,if_neg c2,if_neg c3,if_neg c5]
  exact g1.tup
 ·refine⟨sz rfl,fun p1 H1 g1=>?_⟩
  have hp:p≠1:=fun z=>by subst z; exact e rfl
  refine k _ _ g1.sm ?_
  rw[loB,hiB,if_neg hp,if_neg hp]
  exact g1.tup
def g5i(K:PySem.W.Frag):Sp:=fun vs H Q _=>∃ (a:Addr) (f:Int) (r:List Int),vs=[.ref a]/\SqL K H a ((f :: r).map V.int)/\r.length<=1000/\∀ H',a1l H H'->(g9a f r->Q (.bl true) H')/\(¬ g9a f r->Q (.bl false) H')
theorem d6p (T:Txt w K mg t):Has P w K mg base "fits_behind" 2 t.b9w t.b8v ["row"] (g5i K):=by
 refine⟨T.d6y,T.c6n.kp,T.d7s,T.c6n.okQ b6g (fun vs H Q E h=>by obtain⟨a,f,r,rfl,_⟩:=h; rfl) fun cdv A outer s H vs Q E hr h=>?_⟩
 obtain⟨a,f,r,rfl,h1,hl,k⟩:=h
 have hu:=hr.units
 refine⟨_,(a0b (a4x PassesOwn.never rfl (d0e rfl T.n_range (a0c a0g (a0c (a2g (a3b (K:=K) rfl) T.n_len PySem.boot_len (a0c (a0h 0) a0a)) a0a))) (a0x (i:=1) b6g.nd rfl (by first | exact Or.inl rfl | exact Or.inr rfl)) (a0b (a0r (i:=2) b6g.nd rfl (by first | exact Or.inl rfl | exact Or.inr rfl) (a2a (c0q T) hr (a0c (a0h 0) (a0c (a0h 1) a0a))))
  (a0e (a0w (a7j (d4w e7v e7v (a1b (a1y (K:=K) rfl) (a0h 2) a0g (fun _ _=>rfl)) (a1b (a1y (K:=K) rfl) (a0h 0) (a0h 1) (fun _ _=>rfl)) (a1b (a1y (K:=K) rfl) (a0h 2) a0g (fun _ _=>rfl)))) (a0e (a0i b5d)) a0n))))
  (a0e (a0i b5d))),?_⟩
 refine⟨_,.inl h1,?_⟩
 have hL:((List.map V.int (f :: r)).length:Int)=(r.length:Int)+1:=by simp
 refine⟨1,_,rfl,⟨by omega,by omega,by omega,by omega⟩,?_⟩
 have hN:(((List.map V.int (f :: r)).length:Int) - 1).toNat=r.length:=by omega
 rw[hN]
 refine c5r (lo:=1) (n:=r.length) (fun i σ H'=>a1l H H'/\(∀ j x,j < i->r[j]? = some x->loB f (j+1)<=x/\x<=hiB f (j+1))/\∃ v1 v2,σ=[some (.ref a),v1,v2])
  ⟨a1l.refl _,fun j x z=>absurd z (Nat.not_lt_zero _),_,_,rfl⟩ ?_ ?_
 ·rintro i σ H2 hi ⟨s2,p2,v1,v2,rfl⟩
  obtain⟨x,hx⟩ : ∃ x,r[i]? = some x:=⟨_,List.getElem?_eq_getElem hi⟩
  have c1:(1:Int)+(i:Int)=((i+1:Nat):Int):=by omega
  refine⟨a,f,r,i+1,by rw[<- c1]; rfl,s2.seq h1,fun b H3 s3 hb=>?_⟩
  refine⟨_,.int (loB f (i+1)),.inr hb,a1f (j:=0) rfl,?_⟩
  have hax:atI (List.map V.int (f :: r)) (1+(i:Int))=some (.int x):=by
   rw[c1]; exact a1f (by rw[List.map_cons,List.getElem?_cons_succ,List.getElem?_map,hx]; rfl)
  refine⟨_,.int x,.inl (s3.seq (s2.seq h1)),hax,?_⟩
  have bad : ¬ (loB f (i+1)<=x/\x<=hiB f (i+1))->Q (.bl false) H3:=fun z=>(k _ (s2.trans s3)).2 fun y=>z (y i x hx)
  refine a1v (fun e=>?_) (fun e=>?_)
  ·refine⟨_,.int (hiB f (i+1)),.inr hb,a1f (j:=1) rfl,?_⟩
   refine a1v (fun e2=>?_) (fun e2=>?_)
   ·exact bad fun z=>by simp at e2; omega
   ·refine⟨s2.trans s3,fun j y hj hy=>?_,_,_,rfl⟩
    by_cases c:j < i
    ·exact p2 j y c hy
    ·have:j=i:=by omega
     subst this
     rw[hx]at hy; cases hy
     have:=of_decide_eq_true e
     simp at e2
     omega
  ·exact bad fun z=>e (decide_eq_true z.1)
 ·rintro σ H2 ⟨s2,p2,v1,v2,rfl⟩
  exact (k _ s2).1 fun i x hx=>p2 i x (List.getElem?_eq_some_iff.mp hx).1 hx
def g5f(K:PySem.W.Frag):Sp:=fun vs H Q _=>∃ (a:Addr) (f:Int) (r:List Int),vs=[.ref a]/\SqL K H a ((f :: r).map V.int)/\r.length<=1000/\∀ H',a1l H H'->(Beg f r->Q (.int (lb f - ((r.length:Int)+1))) H')/\(¬ Beg f r->Q .non H')
theorem d9t (T:Txt w K mg t):Has P w K mg base "missing" 3 t.d3c t.d1n ["row"] (g5f K):=by
 refine⟨T.f2k,T.e1c.kp,T.f4m,T.e1c.okQ d4v (fun vs H Q E h=>by obtain⟨a,f,r,rfl,_⟩:=h; rfl) fun cdv A outer s H vs Q E hr h=>?_⟩
 obtain⟨a,f,r,rfl,h1,hl,k⟩:=h
 have hu:=hr.units
 refine⟨_,(a0b (a0r (i:=1) d4v.nd rfl (by first | exact Or.inl rfl | exact Or.inr rfl) (a0q b2z (a2a (d1c T) hr (a0c (a1b (a1y (K:=K) rfl) (a0h 0) a0g (fun _ _=>rfl)) a0a)) (a2g (a3b (K:=K) rfl) T.n_len PySem.boot_len (a0c (a0h 0) a0a))))
  (a0b (a0w (a2w (a7d (a0o d8n (a0h 1) a0g (a1e _)) (a4w (a7j (a5h (a2a (d6p T) hr (a0c (a0h 0) a0a))))))) (a0e (a0i a2e)) a0n)
  (a0e (a0i (a0h 1))))),?_⟩
 refine⟨_,.int f,.inl h1,a1f (j:=0) rfl,?_⟩
 refine⟨f,rfl,?_⟩
 refine⟨_,.inl h1,?_⟩
 have hL:((List.map V.int (f :: r)).length:Int)=(r.length:Int)+1:=by simp
 refine a1v (fun e=>?_) (fun e=>?_)
 ·exact (k _ (a1l.refl _)).2 fun z=>by have:=of_decide_eq_true e; have:=z.1; omega
 ·have e' : ¬ (lb f - ((List.map V.int (f :: r)).length:Int) < 0):=fun z=>e (decide_eq_true z)
  refine⟨a,f,r,rfl,h1,hl,fun H2 s2=>⟨fun y=>?_,fun y=>?_⟩⟩
  ·have q:=(k _ s2).1 ⟨by omega,y⟩
   rw[<- hL]at q
   exact q
  ·exact (k _ s2).2 fun z=>y z.2
def e9n(K:PySem.W.Frag):Sp:=fun vs H Q _=>∃ (o a:Addr) (rr:List Int),vs=[.ref o,.ref a,.int 0]/\SqL K H a (rr.map V.int)/\rr.length<=1000/\(h2e rr->∀ p H',Gro H p (.lst ((flo rr).map V.int)) H'->Q (.ref p) H')/\(¬ h2e rr->∀ H',a1l H H'->Q .non H')
theorem f7f (T:Txt w K mg t):b8g P w K mg base CX0 4 t.a9l t.a6g ["self", "row", "page"] (e9n K):=by
 refine T.c8q.okQ b5y (fun vs H Q E h=>by obtain⟨o,a,rr,rfl,_⟩:=h; rfl) fun cdv A outer s H vs Q E hr h=>?_
 obtain⟨o,a,rr,rfl,h1,hl,k1,k2⟩:=h
 have hu:=hr.units
 refine⟨_,(a0b (a0w (a7j (a8e (K:=K) rfl (a0h 1))) (a0e (a0i (a0y (a0c a0g a0a)))) a0n)
  (a0b (a0r (i:=3) b5y.nd rfl (by first | exact Or.inl rfl | exact Or.inr rfl) (a2a (d9t T) hr (a0c (a0h 1) a0a)))
  (a0b (a0w (a0o g3f (a0h 3) a2e (a1e _)) (a0e (a0i a2e)) a0n)
  (a0e (a0i (a6b rfl (a2b.of (fns:=(a0f a3m).names) (N:=["self", "row", "page", "lack"]) (Nc:=["place", "row"]) (nv:=1) (caps:=[1]) rfl rfl (by decide +kernel)) (d0e rfl T.n_range (a0c (a2g (a3b (K:=K) rfl) T.n_len PySem.boot_len (a0c (a0h 1) a0a)) (a0c (a0q (a1r (K:=K) rfl) (a2g (a3b (K:=K) rfl) T.n_len PySem.boot_len (a0c (a0h 1) a0a)) (a0h 3)) a0a))) (fun _ _ _ _=>(a0x (i:=0) (show List.Nodup (["place", "row"]:List Str) by decide +kernel) rfl (Or.inl rfl) (Or.inr rfl))) (fun _ _ _ _=>a4p) (fun _ _ _ _=>(a1b (a1y (K:=K) rfl) (a2a (c0q T) hr (a0c (a0h 1) (a0c (a0h 0) a0a))) a0g (fun _ _=>rfl))))))))),?_⟩
 refine⟨_,.inl h1,?_⟩
 cases rr with
 | nil =>
  refine f7o ?_
  exact⟨sz rfl,fun p H' g=>k1 trivial p H' g⟩
 | cons f r =>
  refine g7o ?_
  refine⟨a,f,r,rfl,h1,by simp at hl; omega,fun H2 s2=>⟨fun y=>?_,fun y=>?_⟩⟩
  ·refine⟨_,.inl (s2.seq h1),?_⟩
   refine⟨_,.inl (s2.seq h1),?_⟩
   have hL:((List.map V.int (f :: r)).length:Int)=(r.length:Int)+1:=by simp
   have hb:=f7m f
   have hy:=y.1
   refine⟨_,_,rfl,⟨by omega,by omega,by omega,by omega⟩,?_⟩
   have hn:(((List.map V.int (f :: r)).length:Int)+(lb f - ((r.length:Int)+1)) - ((List.map V.int (f :: r)).length:Int)).toNat=(lb f - ((r.length:Int)+1)).toNat:=by omega
   rw[hn]
   refine c9t ((flo (f :: r)).map V.int) (by rw[List.length_map,flo,List.length_map,List.length_range]) (szl (by omega)) (fun i v H3 N hi hv s3 hN=>?_) fun p H3 g3=>k1 y p H3 (g3.after s2)
   have ev:v=.int (loB f (r.length+1+i)):=by
    rw[List.getElem?_map,flo,List.getElem?_map,List.getElem?_range hi]at hv
    cases hv
    rfl
   subst ev
   have c1:((List.map V.int (f :: r)).length:Int)+(i:Int)=((r.length+1+i:Nat):Int):=by omega
   refine⟨a,f,r,r.length+1+i,by rw[<- c1]; rfl,s3.seq (s2.seq h1),fun b H4 s4 hb=>?_⟩
   exact⟨_,.int (loB f (r.length+1+i)),.inr hb,a1f (j:=0) rfl,hN _ s4⟩
  ·exact k2 y _ s2
theorem c3w (T:Txt w K mg t):b7o P w K mg base t.a2c "fill" 4 t.a9l t.a6g ["self", "row", "page"] [] (e9n K) :=
 ⟨T.a9w,T.c5n,⟨_,T.c8a,.nil⟩,f7f T⟩
def f9r(n:Nat):Int:=if n=1 then 192 else if n=2 then 224 else 240
def car:List Int->Int
 | []=>0
 | [f]=>f
 | f :: r=>tog 6 ((f - f9r r.length) :: r.map fun b=>b - 128)
def g9v(K:PySem.W.Frag):Sp:=fun vs H Q _=>∃ (a:Addr) (rr:List Int),vs=[.ref a]/\SqL K H a (rr.map V.int)/\Whl rr/\∀ H',a1l H H'->Q (.int (car rr)) H'
theorem f5l{f x:Int}{r:List Int}(h:Whl (f :: x :: r)):(∀ y∈x :: r,128<=y/\y<=191)/\0<=f - f9r (r.length+1)/\f - f9r (r.length+1) < 64/\r.length<=2/\(∃ v,[0,0,192,224,240][r.length+2]? = some v/\v=f9r (r.length+1)):=by
 have hl:=f7m f
 obtain⟨⟨h1,h2⟩,h3⟩:Beg f (x :: r)/\((x :: r).length:Int)+1=lb f:=h
 refine⟨((e5k f _).mp h2).1,?_⟩
 have hn:(r.length:Int)+2=lb f:=by simp at h3; omega
 have hr:r.length<=2:=by omega
 unfold lb at hn
 have:r.length=0\/r.length=1\/r.length=2:=by omega
 rcases this with z | z | z <;> rw[z]at hn ⊢ <;> simp only [f9r] <;> (repeat' split at hn) <;> first | omega | exact⟨by simp; omega,by simp; omega,by omega,_,rfl,rfl⟩
theorem f1y (T:Txt w K mg t):Has P w K mg base "carried" 3 t.d3j t.d1u ["row"] (g9v K):=by
 refine⟨T.f2r,T.e1j.kp,T.f4t,T.e1j.okQ e6x (fun vs H Q E h=>by obtain⟨a,rr,rfl,_⟩:=h; rfl) fun cdv A outer s H vs Q E hr h=>?_⟩
 obtain⟨a,rr,rfl,h1,hw,k⟩:=h
 have hu:=hr.units
 refine⟨_,(a0b (a0w (a0o (a4q (K:=K) rfl hu) (a2g (a3b (K:=K) rfl) T.n_len PySem.boot_len (a0c (a0h 0) a0a)) a0g (a1e _)) (a0e (a0i (a1b (a1y (K:=K) rfl) (a0h 0) a0g (fun _ _=>rfl)))) a0n)
  (a0e (a0i (a2a (c7j T) hr (a0c (a0q (a1r (K:=K) rfl) (a0y (a0c (a0q b2z (a1b (a1y (K:=K) rfl) (a0h 0) a0g (fun _ _=>rfl)) (a1b (a1y (K:=K) rfl) (b0v (v:=.ref t.d3k) rfl T.f3y rfl) (a2g (a3b (K:=K) rfl) T.n_len PySem.boot_len (a0c (a0h 0) a0a)) (fun _ _=>rfl))) a0a)) (a6b rfl (a2b.of (fns:=(a0f b5c).names) (N:=["row"]) (Nc:=["byte"]) (nv:=1) (caps:=[]) rfl rfl (by decide +kernel)) (a2q (K:=K) rfl (a1z (b8c (K:=K) rfl) (a0h 0) (a1x a0g) a3o)) (fun _ _ _ _=>(a0x (i:=0) (show List.Nodup (["byte"]:List Str) by decide +kernel) rfl (Or.inl rfl) (Or.inr rfl))) (fun _ _ _ _=>a4p) (fun _ _ _ _=>(a0q b2z (a0h 0) (c2w T.b2q))))) (a0c (c2w T.g0i) a0a)))))),?_⟩
 refine⟨_,.inl h1,?_⟩
 match rr,h1,hw,k with
 | [],_,hw,_=>exact hw.elim
 | [f],h1,hw,k =>
  exact⟨_,.int f,.inl h1,a1f (j:=0) rfl,k _ (a1l.refl _)⟩
 | f :: x :: r,h1,hw,k =>
  obtain⟨b1,b2,b3,b4,v,hv,ev⟩:=f5l hw
  have hL:((List.map V.int (f :: x :: r)).length:Int)=((r.length+2:Nat):Int):=by simp; omega
  refine⟨_,.int f,.inl h1,a1f (j:=0) rfl,?_⟩
  refine⟨_,.inl h1,?_⟩
  have hat:atI (([0,0,192,224,240]:List Int).map V.int) ((List.map V.int (f :: x :: r)).length:Int)=some (.int v):=by
   rw[hL]; exact a1f (by rw[List.getElem?_map,hv]; rfl)
  refine⟨_,.int v,.inr (T.f0e _),hat,?_⟩
  refine⟨sz rfl,fun p1 H1 g1=>?_⟩
  refine⟨_,rfl,_,g1.sm.seq h1,fun p2 H2 g2=>?_⟩
  rw[h3o]at g2
  refine⟨_,rfl,⟨_,g2.lst⟩,?_⟩
  refine c4e (((x :: r).map fun b=>b - 128).map V.int) (by simp) g2.lst (szl (by simp; omega)) (fun i y v H3 N hy hv s3 hN=>?_) fun p3 H3 g3=>?_
  ·rw[List.getElem?_map]at hy
   obtain⟨y,hy',rfl⟩:=Option.map_eq_some_iff.mp hy
   rw[List.getElem?_map,List.getElem?_map,hy']at hv
   cases hv
   exact hN _ (a1l.refl _)
  refine⟨_,_,(g2.sm.trans g3.sm).seq g1.lst,g3.lst,szl (by simp; omega),fun p4 H4 g4=>?_⟩
  refine⟨p4,(f - v) :: (x :: r).map fun b=>b - 128,6,rfl,g4.lst,?_,by decide,by simp; omega,?_⟩
  ·intro y hy
   rcases List.mem_cons.mp hy with rfl | hy
   ·rw[ev]; exact⟨b2,b3⟩
   ·obtain⟨b,hb,rfl⟩:=List.mem_map.mp hy
    have:=b1 b hb
    exact⟨by omega,show b - 128 < 64 by omega⟩
  ·rw[ev]
   exact k _ (g1.sm.trans (g2.sm.trans (g3.sm.trans g4.sm)))
def g4w(K:PySem.W.Frag):Sp:=fun vs H Q _=>∃ (o a:Addr) (rr:List Int),vs=[.ref o,.ref a,.int 0]/\SqL K H a (rr.map V.int)/\rr.length<=1000/\(Whl rr->∀ p H',Gro H p (.tup [.int (car rr),.int 0]) H'->Q (.ref p) H')/\(¬ Whl rr->∀ H',a1l H H'->Q .non H')
theorem f0s (T:Txt w K mg t):b8g P w K mg base CX0 4 t.a7z t.a5n ["self", "row", "page"] (g4w K):=by
 refine T.c6y.okQ c3i (fun vs H Q E h=>by obtain⟨o,a,rr,rfl,_⟩:=h; rfl) fun cdv A outer s H vs Q E hr h=>?_
 obtain⟨o,a,rr,rfl,h1,hl,k1,k2⟩:=h
 have hu:=hr.units
 refine⟨_,(a0b (a0w (a2w (a9x (a8e (K:=K) rfl (a0h 1)) (a8d (a0o (a4q (K:=K) rfl hu) (a2a (d9t T) hr (a0c (a0h 1) a0a)) a0g (a1e _))))) (a0e (a0i (a1u (a0c (a2a (f1y T) hr (a0c (a0h 1) a0a)) (a0c (a0h 2) a0a))))) a0n)
  (a0e (a0i a2e))),?_⟩
 refine⟨_,.inl h1,?_⟩
 cases rr with
 | nil=>exact k2 id _ (a1l.refl _)
 | cons f r =>
  refine⟨a,f,r,rfl,h1,by simp at hl; omega,fun H2 s2=>⟨fun y=>?_,fun y=>?_⟩⟩
  ·refine a1v (fun e=>?_) (fun e=>?_)
   ·have hw:Whl (f :: r):=⟨y,by have:=of_decide_eq_true e; omega⟩
    refine⟨a,f :: r,rfl,s2.seq h1,hw,fun H3 s3=>?_⟩
    exact⟨sz rfl,fun p H' g=>k1 hw p H' (g.after (s2.trans s3))⟩
   ·exact k2 (fun z=>e (decide_eq_true (by have:=z.2; omega))) _ s2
  ·refine⟨_,_,a1j.non,a1j.int 0,rfl,rfl,?_⟩
   exact k2 (fun z=>y z.1) _ s2
theorem c2q (T:Txt w K mg t):b7o P w K mg base t.a2c "whole" 4 t.a7z t.a5n ["self", "row", "page"] [] (g4w K) :=
 ⟨T.a9w,T.c3p,⟨_,T.c6j,.nil⟩,f0s T⟩
end
end My
namespace My
open PySem L2
def idx:List Int->Int->Option Nat
 | [],_=>none
 | m :: ms,n=>if m=n then some 0 else (idx ms n).map (· + 1)
theorem a9y{ns:List Int}{n:Int}:idx ns n=none ↔ n∉ns:=by
 induction ns with
 | nil=>simp[idx]
 | cons m ms ih =>
  unfold idx
  by_cases e:m=n
  ·simp[e]
  ·rw[if_neg e]
   have e' : ¬ n=m:=fun z=>e z.symm
   simp[ih,e']
theorem c0o : ∀ {ns:List Int} {n:Int} {i:Nat},idx ns n=some i->ns[i]? = some n/\∀ j,j < i->ns[j]? ≠ some n
 | [],n,i,h=>by cases h
 | m :: ms,n,i,h=>by
  unfold idx at h
  by_cases e:m=n
  ·rw[if_pos e]at h
   cases h
   exact⟨by simp[e],fun j hj=>absurd hj (by omega)⟩
  ·rw[if_neg e]at h
   obtain⟨k,hk,rfl⟩:=Option.map_eq_some_iff.mp h
   obtain⟨a,b⟩:=c0o hk
   refine⟨by simpa using a,fun j hj=>?_⟩
   cases j with
   | zero=>simpa using e
   | succ j=>simpa using b j (by omega)
theorem g2t(ns:List Int)(n m:Int):idx (ns++[n]) m=match idx ns m with
 | some i=>some i
 | none=>if n=m then some ns.length else none:=by
 induction ns with
 | nil=>simp[idx]
 | cons a as ih =>
  rw[List.cons_append,idx,idx]
  by_cases e:a=m
  ·rw[if_pos e,if_pos e]
  ·rw[if_neg e,if_neg e,ih]
   cases idx as m with
   | some i=>rfl
   | none =>
    dsimp only [Option.map]
    by_cases e2:n=m
    ·rw[if_pos e2,if_pos e2]; simp
    ·rw[if_neg e2,if_neg e2]
theorem b8r{ns:List Int}{n:Int}(h:n∈ns) : ∃ i,idx ns n=some i/\i < ns.length:=by
 cases e:idx ns n with
 | none=>exact absurd h (a9y.mp e)
 | some i=>exact⟨i,rfl,(List.getElem?_eq_some_iff.mp (c0o e).1).1⟩
def sel{α:Type}(g:Int)(x y:α):α:=if g=0 then x else y
def Two(g:Int):Prop:=g=0\/g=1
theorem d5i{g:Int}{x y:V}(h:Two g):atI [x,y] g=some (sel g x y):=by
 rcases h with rfl | rfl <;> rfl
theorem Two.flip{g:Int}(h:Two g):Two (1 - g):=by
 rcases h with rfl | rfl
 ·exact .inr rfl
 ·exact .inl rfl
theorem e4q{α:Type}{g:Int}{x y:α}(h:Two g):sel (1 - g) x y=sel g y x:=by
 rcases h with rfl | rfl <;> rfl
theorem c7d{α β:Type}(f:α->β)(g:Int)(x y:α):sel g (f x) (f y)=f (sel g x y):=by
 unfold sel; split <;> rfl
def e0t(O P:List Int)(b:Nat):Bool:=!decide (O.getD b 0∈P)
def d2u(O P:List Int):List Nat:=(List.range O.length).filter (e0t O P)
theorem d9m{O P:List Int}{b:Nat}:b∈d2u O P ↔ ∃ n,O[b]? = some n/\n∉P:=by
 unfold d2u e0t
 rw[List.mem_filter,List.mem_range]
 constructor
 ·rintro⟨h,k⟩
  refine⟨O[b],List.getElem?_eq_getElem h,?_⟩
  rw[List.getD_eq_getElem?_getD,List.getElem?_eq_getElem h]at k
  simpa using k
 ·rintro⟨n,h,k⟩
  refine⟨(List.getElem?_eq_some_iff.mp h).1,?_⟩
  rw[List.getD_eq_getElem?_getD,h]
  simpa using k
theorem d0y{f:Nat->Bool}{i:Nat}(h : ∀ j,j < i->f j=false)(k:f i=true) : ∀ {n:Nat},i < n->((List.range n).filter f).head? = some i
 | 0,z=>absurd z (by omega)
 | n+1,z=>by
  rw[List.range_succ,List.filter_append,List.head?_append]
  by_cases c:i < n
  ·rw[d0y h k c]; rfl
  ·obtain rfl:i=n:=by omega
   have e:(List.range i).filter f=[]:=by
    rw[List.filter_eq_nil_iff]
    intro j hj
    rw[h j (List.mem_range.mp hj)]
    decide
   rw[e]
   simp[k]
theorem e3d{f:Nat->Bool}{n:Nat}(h : ∀ j,j < n->f j=false):(List.range n).filter f=[]:=by
 rw[List.filter_eq_nil_iff]
 intro j hj
 rw[h j (List.mem_range.mp hj)]
 decide
def byd(O P:List Int)(g:Int):List Int:=match (d2u O P).head? with
 | some b=>[254+(1 - g),(b:Int)]
 | none=>[]
def Okp(ns:List Int):Prop:=(∀ n∈ns,Sg n)/\ns.Nodup/\ns.length<=250
theorem e4p{g:Int}{ns ms:List Int}(h:Okp ns)(k:Okp ms):Okp (sel g ns ms):=by
 unfold sel; split
 ·exact h
 ·exact k
structure Fp where
 dx:Addr
 pp:Addr
 pl:Addr
 ps:Addr
 d0:Addr
 d1:Addr
 l0:Addr
 l1:Addr
 s0:Addr
 s1:Addr
def c3b(H:Hp)(d:Addr)(ns:List Int):Prop:=∃ kv,H d=some (.dK kv)/\∀ n:Int,b4v kv (.inl n)=(idx ns n).map fun i=>V.int (i:Int)
structure Tg (t:Adr) (H:Hp) (a:Addr) (f:Fp) (ns ms:List Int):Prop where
 o:H a=some (.ins t.a1a f.dx [("places",.ref f.pp),("lists",.ref f.pl),("shifted",.ref f.ps)])
 p:H f.pp=some (.lst [.ref f.d0,.ref f.d1])
 l:H f.pl=some (.lst [.ref f.l0,.ref f.l1])
 s:H f.ps=some (.lst [.ref f.s0,.ref f.s1])
 d0:c3b H f.d0 ns
 d1:c3b H f.d1 ms
 l0:H f.l0=some (.lst (ns.map V.int))
 l1:H f.l1=some (.lst (ms.map V.int))
 s0:H f.s0=some (.lst ((byd ms ns 0).map V.int))
 s1:H f.s1=some (.lst ((byd ns ms 1).map V.int))
 k0:Okp ns
 k1:Okp ms
section
variable {t:Adr}{H H':Hp}{a:Addr}{f:Fp}{ns ms:List Int}{g:Int}
theorem Tg.keep(h:Tg t H a f ns ms)(k : ∀ c u,c∈[a,f.pp,f.pl,f.ps,f.d0,f.d1,f.l0,f.l1,f.s0,f.s1]->H c=some u->H' c=some u):Tg t H' a f ns ms:=by
 obtain⟨o,p,l,s,⟨v0,d0,e0⟩,⟨v1,d1,e1⟩,l0,l1,s0,s1,k0,k1⟩:=h
 exact⟨k _ _ (by simp) o,k _ _ (by simp) p,k _ _ (by simp) l,k _ _ (by simp) s,⟨v0,k _ _ (by simp) d0,e0⟩,⟨v1,k _ _ (by simp) d1,e1⟩,k _ _ (by simp) l0,k _ _ (by simp) l1,k _ _ (by simp) s0,k _ _ (by simp) s1,k0,k1⟩
theorem Tg.mono(h:Tg t H a f ns ms)(k:a1l H H'):Tg t H' a f ns ms:=h.keep fun c u _ e=>k c u e
theorem Tg.dk(h:Tg t H a f ns ms)(tg:Two g):c3b H (sel g f.d0 f.d1) (sel g ns ms):=by
 rcases tg with rfl | rfl
 ·exact h.d0
 ·exact h.d1
theorem Tg.ll(h:Tg t H a f ns ms)(tg:Two g):H (sel g f.l0 f.l1)=some (.lst ((sel g ns ms).map V.int)):=by
 rcases tg with rfl | rfl
 ·exact h.l0
 ·exact h.l1
theorem Tg.ss(h:Tg t H a f ns ms)(tg:Two g):H (sel g f.s0 f.s1)=some (.lst ((byd (sel g ms ns) (sel g ns ms) g).map V.int)):=by
 rcases tg with rfl | rfl
 ·exact h.s0
 ·exact h.s1
def h4f(K:PySem.W.Frag):Sp:=fun vs H Q _=>∃ (a:Addr) (ns:List Int) (wh:Int),vs=[.ref a,.int wh]/\SqL K H a (ns.map V.int)/\Okp ns/\∀ p H',a1l H H'->H p=none->c3b H' p ns->Q (.ref p) H'
theorem d1b (T:Txt w K mg t):Has P w K mg base "places_in" 4 t.c4s t.c4b ["signs", "which"] (h4f K):=by
 refine⟨T.e3a,T.d3n.kp,T.e4a,T.d3n.okQ b5w (fun vs H Q E h=>by obtain⟨a,xs,wh,rfl,_⟩:=h; rfl) fun cdv A outer s H vs Q E hr h=>?_⟩
 obtain⟨a,ns,wh,rfl,h1,⟨sg,nd,ln⟩,kq⟩:=h
 have hu:=hr.units
 refine⟨_,(a0b (a0w (a0o f5f (a2g (a3b (K:=K) rfl) T.n_len PySem.boot_len (a0c (a0h 0) a0a)) (c2w T.e0h) (a1e _)) (a0e a5e) a0n)
  (a0b (a0r (i:=2) b5w.nd rfl (by first | exact Or.inl rfl | exact Or.inr rfl) e4v)
  (a0b (a4x PassesOwn.never rfl (b4t (K:=K) rfl rfl T.n_enumerate (a0c (a0h 0) a0a)) (a5g (K:=K) rfl rfl (a1m (a0x (i:=3) b5w.nd rfl (by first | exact Or.inl rfl | exact Or.inr rfl)) (a1m (a0x (i:=4) b5w.nd rfl (by first | exact Or.inl rfl | exact Or.inr rfl)) a5f))) (a0b (a0w (a2w (a7d (a7j (a5h (a2a (b2u T) hr (a0c (a0h 4) a0a)))) (a4w (a0o (f8f hu) (a0h 4) (a0h 2) (by with_unfolding_all rfl))))) (a0e a5e) a0n)
  (a0e (d6e hu (a0h 2) (a0h 4) (a0h 3)))))
  (a0e (a0i (a0h 2)))))),?_⟩
 refine⟨_,.inl h1,?_⟩
 refine a1v (fun z=>?_) (fun _=>?_)
 ·have z:((ns.map V.int).length:Int) > 250:=of_decide_eq_true z
  rw[List.length_map]at z
  omega
 refine fun pd H1 g1=>?_
 refine⟨a,_,rfl,g1.sm.seq h1,c2b (K:=K) (a:=a) (xs:=ns.map V.int) (fun i σ H'=>a1l H H'/\∃ (kvs:List (Key × V)) (v3 v4:Option V),H' pd=some (.dK kvs)/\kvs.length<=i/\(∀ n:Int,b4v kvs (.inl n)=(idx (ns.take i) n).map fun i=>V.int (i:Int))/\σ=[some (.ref a),some (.int wh),some (.ref pd),v3,v4]) ⟨g1.sm,[],_,_,g1.at_,by simp,(fun n=>by simp[b4v,idx]),rfl⟩ (fun i σ H' _ z=>z.1.seq h1) ?_ ?_⟩
 ·rintro i x p σ H2 H3 hx ⟨s2,kvs,v3,v4,h2,lk,hv,rfl⟩ g3
  obtain⟨n,hn,rfl⟩:=a6p hx
  have hi:=(List.getElem?_eq_some_iff.mp hn).1
  refine⟨p,_,rfl,g3.tup,rfl,_,_,rfl,_,_,rfl,rfl,?_⟩
  have s3:=s2.trans g3.sm
  have d3:=g3.sm _ _ h2
  have yes:b6k (.int n)=true:=(c5f n).mpr (sg n (List.mem_of_getElem? hn))
  refine⟨_,rfl,.int n,?_⟩
  refine a1v (fun y=>?_) (fun _=>?_)
  ·have y:(!b6k (.int n))=true:=y
   rw[yes]at y
   cases y
  have nin:n∉ns.take i:=fun z=>by
   obtain⟨j,hj⟩:=List.getElem?_of_mem z
   have hji:j < i:=by
    have:=(List.getElem?_eq_some_iff.mp hj).1
    rw[List.length_take]at this
    omega
   rw[List.getElem?_take_of_lt hji]at hj
   obtain⟨a1,e1⟩:=List.getElem?_eq_some_iff.mp hj
   obtain⟨a2,e2⟩:=List.getElem?_eq_some_iff.mp hn
   exact absurd (e1.trans e2.symm) (List.pairwise_iff_getElem.mp nd j i a1 a2 hji)
  have vn:b4v kvs (.inl n)=none:=by rw[hv,a9y.mpr nin]; rfl
  refine⟨pd,_,rfl,c9w.k (k:=.inl n) d3,?_⟩
  refine a1v (fun y=>?_) (fun _=>?_)
  ·have y:(b4v kvs (.inl n)).isSome=true:=y
   rw[vn]at y
   cases y
  refine⟨pd,_,rfl,f5k.k (k:=.inl n) d3 (e1m (by omega)),?_⟩
  refine⟨s3.put g1.nw,_,_,_,a0v,?_,fun m=>?_,rfl⟩
  ·rw[f6h _ vn,List.length_append]; simp; omega
  ·rw[b1w,a5w hn,g2t,List.length_take,Nat.min_eq_left (by omega)]
   by_cases q:m=n
   ·subst q
    rw[if_pos rfl,a9y.mpr nin]
    simp
   ·rw[if_neg (fun z=>q (Sum.inl.inj z)),hv]
    have q' : ¬ n=m:=fun z=>q z.symm
    cases idx (ns.take i) m with
    | some j=>rfl
    | none=>simp[q']
 ·rintro σ H2 ⟨s2,kvs,v3,v4,h2,lk,hv,rfl⟩
  rw[List.length_map,List.take_length]at hv
  exact kq pd H2 s2 g1.nw ⟨kvs,h2,hv⟩
structure g8p (t:Adr) (H:Hp) (a dx pp pl d0 d1 l0 l1:Addr) (ns ms:List Int):Prop where
 o:H a=some (.ins t.a1a dx [("places",.ref pp),("lists",.ref pl)])
 p:H pp=some (.lst [.ref d0,.ref d1])
 l:H pl=some (.lst [.ref l0,.ref l1])
 d0:c3b H d0 ns
 d1:c3b H d1 ms
 l0:H l0=some (.lst (ns.map V.int))
 l1:H l1=some (.lst (ms.map V.int))
theorem c3b.mono{H H':Hp}{d:Addr}{ns:List Int}(h:c3b H d ns)(s:a1l H H'):c3b H' d ns:=by
 obtain⟨kv,a,b⟩:=h
 exact⟨kv,s _ _ a,b⟩
theorem g8p.mono{H H':Hp}{a dx pp pl d0 d1 l0 l1:Addr}{ns ms:List Int}(h:g8p t H a dx pp pl d0 d1 l0 l1 ns ms)(s:a1l H H'):g8p t H' a dx pp pl d0 d1 l0 l1 ns ms :=
 ⟨s _ _ h.o,s _ _ h.p,s _ _ h.l,h.d0.mono s,h.d1.mono s,s _ _ h.l0,s _ _ h.l1⟩
def h4d(t:Adr):Sp:=fun vs H Q _=>∃ (a dx pp pl d0 d1 l0 l1:Addr) (ns ms:List Int) (g:Int),vs=[.ref a,.int g]/\Two g/\g8p t H a dx pp pl d0 d1 l0 l1 ns ms/\∀ p H',a1l H H'->H p=none->H' p=some (.lst ((byd (sel g ms ns) (sel g ns ms) g).map V.int))->Q (.ref p) H'
theorem b0r (T:Txt w K mg t):c4v P w K mg base t.a1a "row_beyond" 1 t.a6h t.a6d ["self", "page"] (h4d t):=by
 refine⟨T.a1g,T.b6j,T.b8f,T.b8h.okQ a5r (fun vs H Q E h=>by obtain⟨a,dx,pp,pl,d0,d1,l0,l1,ns,ms,g,rfl,_⟩:=h; rfl) fun cdv A outer s H vs Q E hr h=>?_⟩
 obtain⟨a,dx,pp,pl,d0,d1,l0,l1,ns,ms,g,rfl,tg,hf,k⟩:=h
 have hu:=hr.units
 refine⟨_,(a0b (a4x PassesOwn.never rfl (b4t (K:=K) rfl rfl T.n_enumerate (a0c (a1b (a1y (K:=K) rfl) (a0z (K:=K) rfl (a0h 0)) (a0q b2z a0g (a0h 1)) (fun _ _=>rfl)) a0a)) (a5g (K:=K) rfl rfl (a1m (a0x (i:=2) a5r.nd rfl (by first | exact Or.inl rfl | exact Or.inr rfl)) (a1m (a0x (i:=3) a5r.nd rfl (by first | exact Or.inl rfl | exact Or.inr rfl)) a5f))) (a0e (a0w (a0o (e5h hu) (a0h 3) (a1b (a1y (K:=K) rfl) (a0z (K:=K) rfl (a0h 0)) (a0h 1) (fun _ _=>rfl)) (by with_unfolding_all rfl)) (a0e (a0i (a0y (a0c (a1b (a1y (K:=K) rfl) (b0v (v:=.ref t.c2d) rfl T.d7p rfl) (a0q b2z a0g (a0h 1)) (fun _ _=>rfl)) (a0c (a0h 2) a0a))))) a0n)))
  (a0e (a0i (a0y a0a)))),?_⟩
 have ln:H (sel (1 - g) l0 l1)=some (.lst ((sel g ms ns).map V.int)):=by
  rcases tg with rfl | rfl
  ·exact hf.l1
  ·exact hf.l0
 have pk:c3b H (sel g d0 d1) (sel g ns ms):=by
  rcases tg with rfl | rfl
  ·exact hf.d0
  ·exact hf.d1
 obtain⟨kv,hkv,vkv⟩:=pk
 have sh:atI (([254,255]:List Int).map V.int) (1 - g)=some (.int (254+(1 - g))):=by
  rcases tg with rfl | rfl <;> rfl
 generalize hO:sel g ms ns=O at *
 generalize hP:sel g ns ms=P' at *
 refine⟨a,_,dx,_,_,rfl,hf.o,T.a1g,T.a5u,rfl,?_⟩
 refine⟨_,.ref (sel (1 - g) l0 l1),.inl (.of hf.l),by rw[d5i tg.flip]; exact congrArg some (c7d V.ref _ _ _),?_⟩
 refine⟨sel (1 - g) l0 l1,_,rfl,.of ln,c2b (K:=K) (a:=sel (1 - g) l0 l1) (xs:=O.map V.int) (fun i σ H'=>a1l H H'/\(∀ j,j < i->e0t O P' j=false)/\∃ v2 v3,σ=[some (.ref a),some (.int g),v2,v3]) ⟨a1l.refl _,(fun j h=>absurd h (by omega)),_,_,rfl⟩ (fun i σ H' _ z=>z.1.seq (.of ln)) ?_ ?_⟩
 ·rintro i x p σ H2 H3 hx ⟨s2,hj,v2,v3,rfl⟩ g3
  obtain⟨q,hq,rfl⟩:=a6p hx
  have hi:=(List.getElem?_eq_some_iff.mp hq).1
  refine⟨p,_,rfl,g3.tup,rfl,_,_,rfl,_,_,rfl,rfl,?_⟩
  have s3:=s2.trans g3.sm
  refine⟨a,_,dx,_,_,rfl,s3 _ _ hf.o,T.a1g,T.a2k,rfl,?_⟩
  refine⟨_,.ref (sel g d0 d1),.inl (.of (s3 _ _ hf.p)),by rw[d5i tg]; exact congrArg some (c7d V.ref _ _ _),?_⟩
  refine⟨sel g d0 d1,_,rfl,c9w.k (k:=.inl q) (s3 _ _ hkv),?_⟩
  have eq:(b4v kv (.inl q)).isSome=decide (q∈P'):=by
   rw[vkv]
   cases e:idx P' q with
   | none=>have:=a9y.mp e; simp[this]
   | some j =>
    have:q∈P':=Decidable.byContradiction fun z=>by rw[a9y.mpr z]at e; cases e
    simp[this]
  have ea:e0t O P' i = !decide (q∈P'):=by
   unfold e0t
   rw[List.getD_eq_getElem?_getD,hq]; rfl
  refine a1v (fun y=>?_) (fun y=>?_)
  ·have y:(!(b4v kv (.inl q)).isSome)=true:=y
   rw[eq,<- ea]at y
   refine⟨_,.int (254+(1 - g)),.inr (T.d6f _),sh,?_⟩
   refine⟨sz rfl,fun p4 H4 g4=>?_⟩
   refine k _ _ (s3.trans g4.sm) (s3.free g4.nw) ?_
   have e:byd O P' g=[254+(1 - g),(i:Int)]:=by
    unfold byd d2u
    rw[d0y hj y hi]
   rw[e]
   exact g4.at_
  ·have y : ¬ (!(b4v kv (.inl q)).isSome)=true:=y
   rw[eq,<- ea]at y
   refine⟨s3,fun j hji=>?_,_,_,rfl⟩
   by_cases c:j < i
   ·exact hj j c
   ·obtain rfl:j=i:=by omega
    simpa using y
 ·rintro σ H2 ⟨s2,hj,v2,v3,rfl⟩
  rw[List.length_map]at hj
  refine⟨sz rfl,fun p4 H4 g4=>k _ _ (s2.trans g4.sm) (s2.free g4.nw) ?_⟩
  have e:byd O P' g=[]:=by
   unfold byd d2u
   rw[e3d hj]
   rfl
  rw[e]
  exact g4.at_
theorem Kp.seq{a f:Addr}{H H':Hp}{xs:List V}(k:Kp a H H')(n:f≠a)(h:SqL K H f xs):SqL K H' f xs:=by
 rcases h with h | h
 ·rcases h with h | ⟨o,h⟩
  ·exact .inl (.inl (k _ _ n h))
  ·exact .inl (.inr ⟨o,k _ _ n h⟩)
 ·exact .inr h
def f9g(K:PySem.W.Frag)(t:Adr):Sp:=fun vs H Q _=>∃ (a dx f g:Addr) (ns ms:List Int),vs=[.ref a,.ref f,.ref g]/\H a=some (.ins t.a1a dx [])/\SqL K H f (ns.map V.int)/\SqL K H g (ms.map V.int)/\Okp ns/\Okp ms/\f≠a/\g≠a /\
 ∀ fp H',Kp a H H'->Tg t H' a fp ns ms->(∀ c∈[fp.pp,fp.pl,fp.ps,fp.d0,fp.d1,fp.l0,fp.l1,fp.s0,fp.s1],c≠a/\H c=none)->Q .non H'
theorem g2j (T:Txt w K mg t):b8g P w K mg base CX0 5 t.a7u t.a7p ["self", "first", "second"] (f9g K t):=by
 refine T.c6s.okQ c3e (fun vs H Q E h=>by obtain⟨a,dx,f,g,ns,ms,rfl,_⟩:=h; rfl) fun cdv A outer s H vs Q E hr h=>?_
 obtain⟨a,dx,f,g,ns,ms,rfl,ha,hf,hg,ok0,ok1,nf,ng,kq⟩:=h
 have hu:=hr.units
 refine⟨_,(a0b (a1w (K:=K) rfl (a0h 0) (a0y (a0c (a2a (d1b T) hr (a0c (a0h 1) (a0c a0g a0a))) (a0c (a2a (d1b T) hr (a0c (a0h 2) (a0c a0g a0a))) a0a))))
  (a0b (a1w (K:=K) rfl (a0h 0) (a0y (a0c (a9o (b1t (K:=K) rfl) T.n_list PyProof.Rows.boot_list (a0c (a0h 1) a0a)) (a0c (a9o (b1t (K:=K) rfl) T.n_list PyProof.Rows.boot_list (a0c (a0h 2) a0a)) a0a))))
  (a0e (a1w (K:=K) rfl (a0h 0) (a0y (a0c (a4f (b0r T) hr (a0h 0) (a0c a0g a0a)) (a0c (a4f (b0r T) hr (a0h 0) (a0c a0g a0a)) a0a))))))),?_⟩
 refine⟨f,ns,0,rfl,hf,ok0,fun d0 H1 s1 fd0 pl0=>?_⟩
 refine⟨g,ms,1,rfl,s1.seq hg,ok1,fun d1 H2 s2 fd1 pl1=>?_⟩
 refine⟨sz rfl,fun pp H3 g3=>?_⟩
 have s3:=s1.trans (s2.trans g3.sm)
 refine⟨a,_,dx,_,rfl,s3 _ _ ha,T.a1g,T.a2k,Nat.lt_of_lt_of_le Nat.zero_lt_one (by decide),?_⟩
 obtain⟨H4,e4⟩ : ∃ H4,H4=upd H3 a (HO.ins t.a1a dx (c7g "places" (.ref pp) [])):=⟨_,rfl⟩
 have a4:H4 a=some (.ins t.a1a dx [("places",.ref pp)]):=by rw[e4,a0v]; rfl
 have k4:Kp a H3 H4:=by rw[e4]; exact Kp.upd
 rw[<- e4]
 clear e4
 have k04:Kp a H H4:=(Kp.of s3).trans k4
 refine⟨_,.inl (k04.seq nf hf),fun l0 H5 g5=>?_⟩
 refine⟨_,.inl ((k04.trans (Kp.of g5.sm)).seq ng hg),fun l1 H6 g6=>?_⟩
 refine⟨sz rfl,fun pl H7 g7=>?_⟩
 have s47:=g5.sm.trans (g6.sm.trans g7.sm)
 refine⟨a,_,dx,_,rfl,s47 _ _ a4,T.a1g,T.a5u,Nat.lt_of_lt_of_le (Nat.lt_succ_self 1) (by decide),?_⟩
 obtain⟨H8,e8⟩ : ∃ H8,H8=upd H7 a (HO.ins t.a1a dx (c7g "lists" (.ref pl) [("places",.ref pp)])):=⟨_,rfl⟩
 have a8:H8 a=some (.ins t.a1a dx [("places",.ref pp),("lists",.ref pl)]):=by rw[e8,a0v]; rfl
 have k8:Kp a H7 H8:=by rw[e8]; exact Kp.upd
 rw[<- e8]
 clear e8
 have nd0:d0≠a:=(a0l ha fd0).symm
 have nd1:d1≠a:=(a0l (s1 _ _ ha) fd1).symm
 have npp:pp≠a:=(a0l (s2 _ _ (s1 _ _ ha)) g3.nw).symm
 have nl0:l0≠a:=(a0l a4 g5.nw).symm
 have nl1:l1≠a:=(a0l (g5.sm _ _ a4) g6.nw).symm
 have npl:pl≠a:=(a0l (g6.sm _ _ (g5.sm _ _ a4)) g7.nw).symm
 have k38:Kp a H3 H8:=k4.trans ((Kp.of s47).trans k8)
 have k08:Kp a H H8:=(Kp.of s3).trans k38
 obtain⟨kv0,q0,e0⟩:=pl0
 obtain⟨kv1,q1,e1⟩:=pl1
 have half:g8p t H8 a dx pp pl d0 d1 l0 l1 ns ms:=⟨a8,k38 _ _ npp g3.at_,k8 _ _ npl g7.at_,⟨kv0,k38 _ _ nd0 (g3.sm _ _ (s2 _ _ q0)),e0⟩,⟨kv1,k38 _ _ nd1 (g3.sm _ _ q1),e1⟩,k8 _ _ nl0 (g7.sm _ _ (g6.sm _ _ g5.at_)),k8 _ _ nl1 (g7.sm _ _ g6.at_)⟩
 refine⟨a,dx,_,rfl,a8,rfl,?_⟩
 refine⟨a,dx,pp,pl,d0,d1,l0,l1,ns,ms,0,rfl,.inl rfl,half,fun z0 H9 s9 fz0 hz0=>?_⟩
 refine⟨a,dx,_,rfl,s9 _ _ a8,rfl,?_⟩
 refine⟨a,dx,pp,pl,d0,d1,l0,l1,ns,ms,1,rfl,.inr rfl,half.mono s9,fun z1 HA sA fz1 hz1=>?_⟩
 refine⟨sz rfl,fun ps HB gB=>?_⟩
 have s8B:=s9.trans (sA.trans gB.sm)
 refine⟨a,_,dx,_,rfl,s8B _ _ a8,T.a1g,T.a4y,Nat.lt_of_lt_of_le (Nat.lt_succ_self 2) (by decide),?_⟩
 obtain⟨HC,eC⟩ : ∃ HC,HC=upd HB a (HO.ins t.a1a dx (c7g "shifted" (.ref ps) [("places",.ref pp),("lists",.ref pl)])):=⟨_,rfl⟩
 have aC:HC a=some (.ins t.a1a dx [("places",.ref pp),("lists",.ref pl),("shifted",.ref ps)]):=by rw[eC,a0v]; rfl
 have kC:Kp a HB HC:=by rw[eC]; exact Kp.upd
 rw[<- eC]
 clear eC
 have nz0:z0≠a:=(a0l a8 fz0).symm
 have nz1:z1≠a:=(a0l (s9 _ _ a8) fz1).symm
 have nps:ps≠a:=(a0l (sA _ _ (s9 _ _ a8)) gB.nw).symm
 have k8C:Kp a H8 HC:=(Kp.of s8B).trans kC
 have hB:=half.mono s8B
 have fr : ∀ {c:Addr} {H':Hp},Kp a H H'->c≠a->H' c=none->H c=none:=fun {c H'} k n e=>by
  cases h:H c with
  | none=>rfl
  | some u=>rw[k c u n h]at e; cases e
 refine kq ⟨dx,pp,pl,ps,d0,d1,l0,l1,z0,z1⟩ HC (k08.trans k8C) ⟨aC,kC _ _ npp hB.p,kC _ _ npl hB.l,kC _ _ nps gB.at_,?_,?_,kC _ _ nl0 hB.l0,kC _ _ nl1 hB.l1,kC _ _ nz0 (gB.sm _ _ (sA _ _ hz0)),kC _ _ nz1 (gB.sm _ _ hz1),ok0,ok1⟩ ?_
 ·obtain⟨kv,x,y⟩:=hB.d0
  exact⟨kv,kC _ _ nd0 x,y⟩
 ·obtain⟨kv,x,y⟩:=hB.d1
  exact⟨kv,kC _ _ nd1 x,y⟩
 ·intro c hc
  simp only [List.mem_cons,List.not_mem_nil,or_false]at hc
  rcases hc with rfl | rfl | rfl | rfl | rfl | rfl | rfl | rfl | rfl
  ·exact⟨npp,s1.free (s2.free g3.nw)⟩
  ·exact⟨npl,fr (k04.trans (Kp.of (g5.sm.trans g6.sm))) npl g7.nw⟩
  ·exact⟨nps,fr (k08.trans (Kp.of (s9.trans sA))) nps gB.nw⟩
  ·exact⟨nd0,fd0⟩
  ·exact⟨nd1,s1.free fd1⟩
  ·exact⟨nl0,fr k04 nl0 g5.nw⟩
  ·exact⟨nl1,fr (k04.trans (Kp.of g5.sm)) nl1 g6.nw⟩
  ·exact⟨nz0,fr k08 nz0 fz0⟩
  ·exact⟨nz1,fr (k08.trans (Kp.of s9)) nz1 fz1⟩
theorem c9j (T:Txt w K mg t):d8f P w K mg base "ShiftTongue" t.a1a 5 t.a7u t.a7p ["self", "first", "second"] [] (f9g K t):=⟨T.d4i,T.d4e,⟨[],T.c6e,.nil⟩,g2j T⟩
theorem f4a(O P:List Int)(g:Int):byd O P g=[]\/∃ b:Nat,(d2u O P).head? = some b/\byd O P g=[254+(1 - g),(b:Int)]:=by
 unfold byd
 cases e:(d2u O P).head? with
 | none=>exact .inl rfl
 | some b=>exact .inr ⟨b,rfl,rfl⟩
theorem g3r(O P:List Int)(g:Int):byd O P g=[] ↔ d2u O P=[]:=by
 unfold byd
 cases e:d2u O P with
 | nil=>simp
 | cons b r=>simp
def b8l(P O:List Int)(g:Int)(x:V):Option (List Int × Int):=match x with
 | .int n=>match idx P n with
  | some i=>some ([(i:Int)],g)
  | none=>match idx O n with
   | some i=>some ([254+(1 - g),(i:Int)],1 - g)
   | none=>none
 | _=>none
theorem g0r{P O:List Int}{g:Int}{x:V}(hP:Okp P)(hO:Okp O)(h:b6k x=false):b8l P O g x=none:=by
 cases x with
 | int n =>
  have hn : ¬ Sg n:=fun z=>by rw[(c5f n).mpr z]at h; cases h
  unfold b8l
  dsimp only
  rw[a9y.mpr fun z=>hn (hP.1 n z)]
  dsimp only
  rw[a9y.mpr fun z=>hn (hO.1 n z)]
 | _=>rfl
theorem g1b{v:V}(h:b6k v=true) : ∃ n,v=.int n/\Sg n:=by
 cases v with
 | int n=>exact⟨n,rfl,(c5f n).mp h⟩
 | _=>simp[b6k,d3r]at h
def h5b:Option Int->V
 | some n=>.int n
 | none=>.non
theorem g8o{L:List Int}{b n:Int}(b0:0<=b)(h:L[b.toNat]? = some n):atI (L.map V.int) b=some (.int n):=by
 obtain⟨k,rfl⟩ : ∃ k:Nat,b=(k:Int):=⟨b.toNat,by omega⟩
 exact a1f (by rw[List.getElem?_map]; simp at h; rw[h]; rfl)
def h3z(t:Adr):Sp:=fun vs H Q _=>∃ (a:Addr) (f:Fp) (ns ms:List Int) (b g:Int),vs=[.ref a,.int b,.int g]/\Two g/\Tg t H a f ns ms/\0<=b/\Q (h5b (sel g ns ms)[b.toNat]?) H
theorem b2y (T:Txt w K mg t):c4v P w K mg base t.a1a "sign_of" 1 t.a8p t.a8i ["self", "byte", "page"] (h3z t):=by
 refine⟨T.a1g,T.c0l,T.c1i,T.c1t.okQ c0j (fun vs H Q E h=>by obtain⟨a,f,ns,ms,b,g,rfl,_⟩:=h; rfl) fun cdv A outer s H vs Q E hr h=>?_⟩
 obtain⟨a,f,ns,ms,b,g,rfl,two,tg,b0,k⟩:=h
 refine⟨_,(a0e (a0i (a7b (a0o d8n (a0h 1) (a2g (a3b (K:=K) rfl) T.n_len PySem.boot_len (a0c (a1b (a1y (K:=K) rfl) (a0z (K:=K) rfl (a0h 0)) (a0h 2) (fun _ _=>rfl)) a0a)) (a1e _)) (a1b (a1y (K:=K) rfl) (a1b (a1y (K:=K) rfl) (a0z (K:=K) rfl (a0h 0)) (a0h 2) (fun _ _=>rfl)) (a0h 1) (fun _ _=>rfl)) a2e))),?_⟩
 have el:atI [V.ref f.l0,V.ref f.l1] g=some (.ref (sel g f.l0 f.l1)):=by rw[d5i two]; exact congrArg some (c7d V.ref _ _ _)
 have hl:=tg.ll two
 refine⟨a,_,f.dx,_,_,rfl,tg.o,T.a1g,T.a5u,rfl,?_⟩
 refine⟨_,_,.inl (.of tg.l),el,?_⟩
 refine⟨_,.inl (.of hl),?_⟩
 refine a1v (fun z=>?_) (fun z=>?_)
 ·have z:b < (((sel g ns ms).map V.int).length:Int):=of_decide_eq_true z
  rw[List.length_map]at z
  refine⟨a,_,f.dx,_,_,rfl,tg.o,T.a1g,T.a5u,rfl,?_⟩
  refine⟨_,_,.inl (.of tg.l),el,?_⟩
  obtain⟨n,hn⟩ : ∃ n,(sel g ns ms)[b.toNat]? = some n:=⟨_,List.getElem?_eq_getElem (by omega)⟩
  rw[hn]at k
  exact⟨_,.int n,.inl (.of hl),g8o b0 hn,k⟩
 ·have z : ¬ b < (((sel g ns ms).map V.int).length:Int):=fun y=>z (decide_eq_true y)
  rw[List.length_map]at z
  rw[List.getElem?_eq_none (by omega)]at k
  exact k
def f8y(g:Int)(row:List Int):Prop:=(∃ b,row=[b]/\0<=b)\/∃ c,row=[254+(1 - g),c]/\0<=c
def b3e(P O:List Int)(g:Int)(row:List Int):Option (Int × Int):=match row with
 | [b]=>P[b.toNat]?.map fun n=>(n,g)
 | [_,c]=>match O[c.toNat]? with
  | some n=>if n∈P then none else some (n,1 - g)
  | none=>none
 | _=>none
def h2t(t:Adr):Sp:=fun vs H Q _=>∃ (a:Addr) (f:Fp) (ns ms:List Int) (q:Addr) (row:List Int) (g:Int),vs=[.ref a,.ref q,.int g]/\Two g/\Tg t H a f ns ms/\H q=some (.lst (row.map V.int))/\f8y g row /\
 (b3e (sel g ns ms) (sel g ms ns) g row=none->Q .non H)/\(∀ n g',b3e (sel g ns ms) (sel g ms ns) g row=some (n,g')->∀ p H',Gro H p (.tup [.int n,.int g']) H'->Q (.ref p) H')
theorem f6z (T:Txt w K mg t):b8g P w K mg base CX0 2 t.a6u t.a4t ["self", "row", "page"] (h2t t):=by
 refine T.c4z.okQ a9m (fun vs H Q E h=>by obtain⟨o,f,ns,ms,q,row,g,rfl,_⟩:=h; rfl) fun cdv A outer s H vs Q E hr h=>?_
 obtain⟨a,f,ns,ms,q,row,g,rfl,two,tg,hq,ok,kn,ks⟩:=h
 have hu:=hr.units
 refine⟨_,(a0b (a0w (a0o (a4q (K:=K) rfl hu) (a2g (a3b (K:=K) rfl) T.n_len PySem.boot_len (a0c (a0h 1) a0a)) a0g (a1e _)) (a0b (a0r (i:=3) a9m.nd rfl (by first | exact Or.inl rfl | exact Or.inr rfl) (a4f (b2y T) hr (a0h 0) (a0c (a1b (a1y (K:=K) rfl) (a0h 1) a0g (fun _ _=>rfl)) (a0c (a0h 2) a0a))))
  (a0e (a0i (a7b (a0o g3f (a0h 3) a2e (a1e _)) a2e (a1u (a0c (a0h 3) (a0c (a0h 2) a0a))))))) a0n)
  (a0b (a0w (a2w (a9x (a0o (a4q (K:=K) rfl hu) (a2g (a3b (K:=K) rfl) T.n_len PySem.boot_len (a0c (a0h 1) a0a)) a0g (a1e _)) (a8d (a0o (a4q (K:=K) rfl hu) (a1b (a1y (K:=K) rfl) (a0h 1) a0g (fun _ _=>rfl)) (a1b (a1y (K:=K) rfl) (b0v (v:=.ref t.c2d) rfl T.d7p rfl) (a0q b2z a0g (a0h 2)) (fun _ _=>rfl)) (a1e _))))) (a0b (a0r (i:=3) a9m.nd rfl (by first | exact Or.inl rfl | exact Or.inr rfl) (a4f (b2y T) hr (a0h 0) (a0c (a1b (a1y (K:=K) rfl) (a0h 1) a0g (fun _ _=>rfl)) (a0c (a0q b2z a0g (a0h 2)) a0a))))
  (a0e (a0i (a7b (a2w (a7d (a0o g3f (a0h 3) a2e (a1e _)) (a4w (a0o (f8f hu) (a0h 3) (a1b (a1y (K:=K) rfl) (a0z (K:=K) rfl (a0h 0)) (a0h 2) (fun _ _=>rfl)) (by with_unfolding_all rfl))))) a2e (a1u (a0c (a0h 3) (a0c (a0q b2z a0g (a0h 2)) a0a))))))) a0n)
  (a0e (a0i a2e)))),?_⟩
 refine⟨_,.inl (.of hq),?_⟩
 rcases ok with ⟨b,rfl,b0⟩ | ⟨c,rfl,c0⟩
 ·refine⟨a,f.dx,_,rfl,tg.o,rfl,?_⟩
  refine⟨_,_,.inl (.of hq),a1f (j:=0) rfl,?_⟩
  refine⟨a,f,ns,ms,b,g,rfl,two,tg,b0,?_⟩
  unfold b3e at kn ks
  dsimp only at kn ks
  cases e:(sel g ns ms)[b.toNat]? with
  | none=>exact kn (by rw[e]; rfl)
  | some n=>exact⟨sz rfl,fun p H' g'=>ks n g (by rw[e]; rfl) p H' g'⟩
 ·have sh:atI (([254,255]:List Int).map V.int) (1 - g)=some (.int (254+(1 - g))):=by
   rcases two with rfl | rfl <;> rfl
  refine⟨_,.inl (.of hq),?_⟩
  refine⟨_,_,.inl (.of hq),a1f (j:=0) rfl,?_⟩
  refine⟨_,_,.inr (T.d6f _),sh,?_⟩
  refine a1v (fun _=>?_) (fun z=>absurd (show decide (254+(1 - g)=254+(1 - g))=true by simp) z)
  refine⟨a,f.dx,_,rfl,tg.o,rfl,?_⟩
  refine⟨_,_,.inl (.of hq),a1f (j:=1) rfl,?_⟩
  refine⟨a,f,ns,ms,c,1 - g,rfl,two.flip,tg,c0,?_⟩
  rw[e4q two]
  unfold b3e at kn ks
  dsimp only at kn ks
  cases e:(sel g ms ns)[c.toNat]? with
  | none =>
   rw[e]at kn
   exact kn rfl
  | some n =>
   rw[e]at kn ks
   dsimp only at kn ks
   obtain⟨kv,hkv,vkv⟩:=tg.dk two
   refine⟨a,_,f.dx,_,_,rfl,tg.o,T.a1g,T.a2k,rfl,?_⟩
   refine⟨_,.ref (sel g f.d0 f.d1),.inl (.of tg.p),by rw[d5i two]; exact congrArg some (c7d V.ref _ _ _),?_⟩
   refine⟨_,_,rfl,c9w.k (k:=.inl n) hkv,?_⟩
   by_cases hn:n∈sel g ns ms
   ·rw[if_pos hn]at kn
    obtain⟨i,hi,_⟩:=b8r hn
    have v1:b4v kv (.inl n)=some (.int (i:Int)):=by rw[vkv,hi]; rfl
    refine a1v (fun _=>?_) (fun z=>absurd (show (b4v kv (.inl n)).isSome=true by rw[v1]; rfl) z)
    exact kn rfl
   ·rw[if_neg hn]at ks
    have v1:b4v kv (.inl n)=none:=by rw[vkv,a9y.mpr hn]; rfl
    refine a1v (fun z=>absurd (show (b4v kv (.inl n)).isSome=true from z) (by rw[v1]; decide)) (fun _=>?_)
    exact⟨sz rfl,fun p H' g'=>ks n (1 - g) rfl p H' g'⟩
theorem b2w (T:Txt w K mg t):b7o P w K mg base t.a1a "whole" 2 t.a6u t.a4t ["self", "row", "page"] [] (h2t t) :=
 ⟨T.a1g,T.c2k,⟨_,T.c4m,.nil⟩,f6z T⟩
def d2p(one other:List Int):Bool:=decide (other.take one.length=one)
def g9x(K:PySem.W.Frag):Sp:=fun vs H Q _=>∃ (a b:Addr) (x y:List Int),vs=[.ref a,.ref b]/\SqL K H a (x.map V.int)/\SqL K H b (y.map V.int)/\∀ H',a1l H H'->Q (.bl (d2p x y)) H'
theorem g0f(ns:List Int)(k:Nat):d5g (ns.map V.int) none (some (k:Int))=(ns.take k).map V.int:=by rw[a5p,d1y]
theorem d6r (T:Txt w K mg t):Has P w K mg base "begins" 1 t.d8e t.d7d ["one", "other"] (g9x K):=by
 refine⟨T.f8h,T.e6j.kp,T.f8x,T.e6j.okQ e9q (fun vs H Q E h=>by obtain⟨a,b,x,y,rfl,_⟩:=h; rfl) fun cdv A outer s H vs Q E hr h=>?_⟩
 obtain⟨a,b,x,y,rfl,ha,hb,k⟩:=h
 have hu:=hr.units
 refine⟨_,(a0e (a0i (d0f (a4q (K:=K) rfl hu) (a1z (b8c (K:=K) rfl) (a0h 1) a3o (a1x (a2g (a3b (K:=K) rfl) T.n_len PySem.boot_len (a0c (a0h 0) a0a)))) (a0h 0) (a1e _)))),?_⟩
 refine⟨_,.inl ha,_,rfl,_,hb,fun p1 H1 g1=>?_⟩
 rw[List.length_map,g0f]at g1
 exact c1b g1.lst (g1.sm.seq ha) (k H1 g1.sm)
def f2v(P O:List Int)(g:Int)(row:List Int):Bool:=(b3e P O g row).isSome || (!(byd O P g).isEmpty && d2p row (byd O P g))
def h2v(t:Adr):Sp:=fun vs H Q _=>∃ (a:Addr) (f:Fp) (ns ms:List Int) (q:Addr) (row:List Int) (g:Int),vs=[.ref a,.ref q,.int g]/\Two g/\Tg t H a f ns ms/\H q=some (.lst (row.map V.int))/\f8y g row /\
 (f2v (sel g ns ms) (sel g ms ns) g row=false->∀ H',a1l H H'->Q .non H')/\(f2v (sel g ns ms) (sel g ms ns) g row=true->∀ p (r2:List Int) H',a1l H H'->H' p=some (.lst (r2.map V.int))->(b3e (sel g ns ms) (sel g ms ns) g row=none->r2=(byd (sel g ms ns) (sel g ns ms) g).drop row.length)->Q (.ref p) H')
theorem g2k (T:Txt w K mg t):b8g P w K mg base CX0 3 t.a7v t.a5k ["self", "row", "page"] (h2v t):=by
 refine T.c6t.okQ c3f (fun vs H Q E h=>by obtain⟨o,f,ns,ms,q,row,g,rfl,_⟩:=h; rfl) fun cdv A outer s H vs Q E hr h=>?_
 obtain⟨a,f,ns,ms,q,row,g,rfl,two,tg,hq,ok,kn,ks⟩:=h
 have hu:=hr.units
 refine⟨_,(a0b (a0w (a0o d6x (a2r (b2w T) hr (a0h 0) (a0c (a0h 1) (a0c (a0h 2) a0a))) a2e (a1e _)) (a0e (a0i (a0y a0a))) a0n)
  (a0b (a0w (a2w (a9x (a7j (a8e (K:=K) rfl (a0h 1))) (a8d (a8e (K:=K) rfl (a1b (a1y (K:=K) rfl) (a0z (K:=K) rfl (a0h 0)) (a0h 2) (fun _ _=>rfl)))))) (a0e (a0i (a0y (a0c a0g a0a)))) a0n)
  (a0b (a0w (a2w (a9x (a8e (K:=K) rfl (a1b (a1y (K:=K) rfl) (a0z (K:=K) rfl (a0h 0)) (a0h 2) (fun _ _=>rfl))) (a8d (a5h (a2a (d6r T) hr (a0c (a0h 1) (a0c (a1b (a1y (K:=K) rfl) (a0z (K:=K) rfl (a0h 0)) (a0h 2) (fun _ _=>rfl)) a0a))))))) (a0e (a0i (a1z (b8c (K:=K) rfl) (a1b (a1y (K:=K) rfl) (a0z (K:=K) rfl (a0h 0)) (a0h 2) (fun _ _=>rfl)) (a1x (a2g (a3b (K:=K) rfl) T.n_len PySem.boot_len (a0c (a0h 1) a0a))) a3o))) a0n)
  (a0e (a0i a2e))))),?_⟩
 refine⟨a,f.dx,_,rfl,tg.o,rfl,?_⟩
 refine⟨a,f,ns,ms,q,row,g,rfl,two,tg,hq,ok,fun hw=>?_,fun n g' hw p H1 g1=>?_⟩
 ·have rne:row≠[]:=by
   rcases ok with ⟨b,rfl,_⟩ | ⟨c,rfl,_⟩ <;> simp
  have rt:(!(row.map V.int).isEmpty)=true:=by
   cases row with
   | nil=>exact absurd rfl rne
   | cons _ _=>rfl
  refine⟨_,.inl (.of hq),?_⟩
  refine a1v (fun z=>absurd (show (!(!(row.map V.int).isEmpty))=true from z) (by rw[rt]; decide)) (fun _=>?_)
  have es:atI [V.ref f.s0,V.ref f.s1] g=some (.ref (sel g f.s0 f.s1)):=by rw[d5i two]; exact congrArg some (c7d V.ref _ _ _)
  have hs:=tg.ss two
  refine⟨a,_,f.dx,_,_,rfl,tg.o,T.a1g,T.a4y,rfl,?_⟩
  refine⟨_,_,.inl (.of tg.s),es,?_⟩
  refine⟨_,.inl (.of hs),?_⟩
  unfold f2v at kn ks
  rw[hw]at kn ks
  refine a1v (fun z=>?_) (fun z=>?_)
  ·have z:(!((byd (sel g ms ns) (sel g ns ms) g).map V.int).isEmpty)=true:=z
   rw[List.isEmpty_map]at z
   rw[z]at kn ks
   refine⟨a,_,f.dx,_,_,rfl,tg.o,T.a1g,T.a4y,rfl,?_⟩
   refine⟨_,_,.inl (.of tg.s),es,?_⟩
   refine⟨q,sel g f.s0 f.s1,row,_,rfl,.of hq,.of hs,fun H1 s1=>?_⟩
   refine a1v (fun y=>?_) (fun y=>?_)
   ·have y:d2p row (byd (sel g ms ns) (sel g ns ms) g)=true:=y
    rw[y]at ks
    have tg1:=tg.mono s1
    refine⟨a,_,f.dx,_,_,rfl,tg1.o,T.a1g,T.a4y,rfl,?_⟩
    refine⟨_,_,.inl (.of tg1.s),es,?_⟩
    refine⟨_,.inl (.of (s1 _ _ hq)),_,rfl,_,.of (s1 _ _ hs),fun p2 H2 g2=>?_⟩
    rw[List.length_map,a5p,c1d]at g2
    exact ks rfl p2 _ H2 (s1.trans g2.sm) g2.at_ (fun _=>rfl)
   ·have y:d2p row (byd (sel g ms ns) (sel g ns ms) g)=false:=by
     cases e:d2p row (byd (sel g ms ns) (sel g ns ms) g) with
     | false=>rfl
     | true=>exact absurd e y
    rw[y]at kn
    exact kn rfl H1 s1
  ·have z:(!((byd (sel g ms ns) (sel g ns ms) g).map V.int).isEmpty)=false:=by
    cases e:(!((byd (sel g ms ns) (sel g ns ms) g).map V.int).isEmpty) with
    | false=>rfl
    | true=>exact absurd e z
   rw[List.isEmpty_map]at z
   rw[z]at kn
   exact kn rfl H (a1l.refl _)
 ·refine⟨sz rfl,fun p2 H2 g2=>?_⟩
  exact ks (by unfold f2v; rw[hw]; rfl) p2 [] H2 (g1.sm.trans g2.sm) g2.at_ (fun h=>by rw[hw]at h; cases h)
theorem c2p (T:Txt w K mg t):b7o P w K mg base t.a1a "fill" 3 t.a7v t.a5k ["self", "row", "page"] [] (h2v t) :=
 ⟨T.a1g,T.c3m,⟨_,T.c6f,.nil⟩,g2k T⟩
def e2t(P O:List Int)(g:Int)(row:List Int):List V:=match b3e P O g row with
 | some (n,g')=>[.str "sign",.int n,.int g']
 | none=>if f2v P O g row=true then [.str "more",.non,.int g] else [.str "none",.non,.int g]
def c3a(P O:List Int):List Int:=(d2u P O).map fun b:Nat=>(b:Int)
theorem d4y{O P:List Int}{c:Int}(c0:0<=c):c∈c3a O P ↔ ∃ n,O[c.toNat]? = some n/\n∉P:=by
 unfold c3a
 rw[List.mem_map]
 constructor
 ·rintro⟨b,hb,rfl⟩
  simpa using d9m.mp hb
 ·rintro h
  exact⟨c.toNat,d9m.mpr h,by omega⟩
theorem d5j{O P:List Int}:c3a O P=[] ↔ d2u O P=[]:=by unfold c3a; simp
theorem h0u{P O:List Int}{g b:Int}(b0:0<=b):e2t P O g [b]=match P[b.toNat]? with
 | some n=>[.str "sign",.int n,.int g]
 | none=>if b=254+(1 - g)/\c3a O P≠[] then [.str "more",.non,.int g] else [.str "none",.non,.int g]:=by
 have hw:b3e P O g [b]=P[b.toNat]?.map fun n=>(n,g):=rfl
 unfold e2t
 rw[hw]
 cases e:P[b.toNat]? with
 | some n=>rfl
 | none =>
  have hw':b3e P O g [b]=none:=by rw[hw,e]; rfl
  dsimp only [Option.map]
  unfold f2v
  rw[hw']
  rcases f4a O P g with hb | ⟨i,hi,hb⟩
  ·have ha:=d5j.mpr ((g3r O P g).mp hb)
   rw[hb,ha]
   simp
  ·have ha:c3a O P≠[]:=fun z=>by
    rw[d5j.mp z]at hi
    cases hi
   rw[hb]
   unfold d2p
   by_cases c:b=254+(1 - g)
   ·simp[c,ha]
   ·have c' : ¬ 254+(1 - g)=b:=fun z=>c z.symm
    simp[c,c']
theorem h0t {P O:List Int} {g c:Int} (c0:0<=c):e2t P O g [254+(1 - g),c]=if c∈c3a O P then [.str "sign",.int (O.getD c.toNat 0),.int (1 - g)] else [.str "none",.non,.int g]:=by
 by_cases h:c∈c3a O P
 ·rw[if_pos h]
  obtain⟨n,hn,hp⟩:=(d4y c0).mp h
  unfold e2t b3e
  simp[hn,hp,List.getD_eq_getElem?_getD]
 ·rw[if_neg h]
  have hw:b3e P O g [254+(1 - g),c]=none:=by
   unfold b3e
   dsimp only
   cases e:O[c.toNat]? with
   | none=>rfl
   | some n =>
    dsimp only
    rw[if_pos]
    exact Decidable.byContradiction fun z=>h ((d4y c0).mpr ⟨n,e,z⟩)
  have hf:f2v P O g [254+(1 - g),c]=false:=by
   unfold f2v
   rw[hw]
   rcases f4a O P g with hb | ⟨i,hi,hb⟩
   ·rw[hb]; rfl
   ·rw[hb]
    unfold d2p
    have : ¬ (i:Int)=c:=fun z=>h (by
     unfold c3a
     exact List.mem_map.mpr ⟨i,List.mem_of_mem_head? hi,z⟩)
    simp[this]
  unfold e2t
  rw[hw,hf]
  rfl
structure g4c (H:Hp) (p:Addr) (s:Int) (r:List Int):Prop where
 h : ∃ q,H p=some (.tup [.int s,.ref q])/\H q=some (.lst (r.map V.int))
 l:1<=r.length/\r.length<=6
theorem g4c.mono{H H':Hp}{p:Addr}{s:Int}{r:List Int}(h:g4c H p s r)(k:a1l H H'):g4c H' p s r:=by
 obtain⟨⟨q,a,b⟩,l⟩:=h
 exact⟨⟨q,k _ _ a,k _ _ b⟩,l⟩
def e8a(e f:Int × List Int):Bool:=decide (e.1=f.1) || d2p e.2 f.2 || d2p f.2 e.2
def g9u:Sp:=fun vs H Q _=>∃ (a b:Addr) (e f:Int × List Int),vs=[.ref a,.ref b]/\g4c H a e.1 e.2/\g4c H b f.1 f.2/\∀ H',a1l H H'->Q (.bl (e8a e f)) H'
theorem f1x (T:Txt w K mg t):Has P w K mg base "collide" 2 t.d3i t.d1t ["one", "other"] g9u:=by
 refine⟨T.f2q,T.e1i.kp,T.f4s,T.e1i.okQ e6w (fun vs H Q E h=>by obtain⟨a,b,x,y,rfl,_⟩:=h; rfl) fun cdv A outer s H vs Q E hr h=>?_⟩
 obtain⟨a,b,⟨s1,r1⟩,⟨s2,r2⟩,rfl,⟨⟨q1,ha,hq1⟩,_⟩,⟨⟨q2,hb,hq2⟩,_⟩,k⟩:=h
 dsimp only at ha hq1 hb hq2
 have hu:=hr.units
 refine⟨_,(a0e (a0i (d0g (d0f (a4q (K:=K) rfl hu) (a1b (a1y (K:=K) rfl) (a0h 0) a0g (fun _ _=>rfl)) (a1b (a1y (K:=K) rfl) (a0h 1) a0g (fun _ _=>rfl)) (a1e _)) (d0g (a2a (d6r T) hr (a0c (a1b (a1y (K:=K) rfl) (a0h 0) a0g (fun _ _=>rfl)) (a0c (a1b (a1y (K:=K) rfl) (a0h 1) a0g (fun _ _=>rfl)) a0a))) (b1x (a2a (d6r T) hr (a0c (a1b (a1y (K:=K) rfl) (a0h 1) a0g (fun _ _=>rfl)) (a0c (a1b (a1y (K:=K) rfl) (a0h 0) a0g (fun _ _=>rfl)) a0a)))))))),?_⟩
 refine⟨_,_,.inr (.of ha),a1f (j:=0) rfl,?_⟩
 refine⟨_,_,.inr (.of hb),a1f (j:=0) rfl,?_⟩
 refine a1v (fun z=>?_) (fun z=>?_)
 ·refine c7b (k H (a1l.refl _)) ?_
  have z:decide (s1=s2)=true:=z
  show (decide (s1=s2) || d2p r1 r2 || d2p r2 r1)=true
  rw[z]; rfl
 have z : ¬ decide (s1=s2)=true:=z
 refine⟨_,_,.inr (.of ha),a1f (j:=1) rfl,?_⟩
 refine⟨_,_,.inr (.of hb),a1f (j:=1) rfl,?_⟩
 refine⟨q1,q2,r1,r2,rfl,.of hq1,.of hq2,fun H1 k1=>?_⟩
 refine a1v (fun y=>?_) (fun y=>?_)
 ·refine c7b (k H1 k1) ?_
  have y:d2p r1 r2=true:=y
  show (decide (s1=s2) || d2p r1 r2 || d2p r2 r1)=true
  rw[y]; simp
 have y : ¬ d2p r1 r2=true:=y
 refine⟨_,_,.inr (.of (k1 _ _ hb)),a1f (j:=1) rfl,?_⟩
 refine⟨_,_,.inr (.of (k1 _ _ ha)),a1f (j:=1) rfl,?_⟩
 refine⟨q2,q1,r2,r1,rfl,.of (k1 _ _ hq2),.of (k1 _ _ hq1),fun H2 k2=>?_⟩
 refine c7b (k H2 (k1.trans k2)) ?_
 show (decide (s1=s2) || d2p r1 r2 || d2p r2 r1)=d2p r2 r1
 simp at z y
 simp[z,y]
structure Es (es:List (Int × List Int)):Prop where
 sg : ∀ e∈es,Sg e.1/\1<=e.2.length/\e.2.length<=6/\∀ b∈e.2,0<=b/\b<=255
 pw:es.Pairwise fun e f=>e8a e f=false
 l:es.length<=64
theorem f8s(e f:Int × List Int):e8a e f=e8a f e:=by
 unfold e8a
 rw[show decide (e.1=f.1)=decide (f.1=e.1) by simp[eq_comm],Bool.or_assoc,Bool.or_assoc,Bool.or_comm (d2p e.2 f.2)]
theorem Es.two{es:List (Int × List Int)}(h:Es es){e f:Int × List Int}(he:e∈es)(hf:f∈es):e=f\/e8a e f=false:=by
 obtain⟨i,hi,rfl⟩:=List.mem_iff_getElem.mp he
 obtain⟨j,hj,rfl⟩:=List.mem_iff_getElem.mp hf
 rcases Nat.lt_trichotomy i j with c | c | c
 ·exact .inr (List.pairwise_iff_getElem.mp h.pw i j hi hj c)
 ·subst c; exact .inl rfl
 ·rw[f8s]; exact .inr (List.pairwise_iff_getElem.mp h.pw j i hj hi c)
def EnH(H:Hp)(ps:List Addr)(es:List (Int × List Int)):Prop:=c9e (fun a e=>g4c H a e.1 e.2) ps es
theorem EnH.mono{H H':Hp}{ps:List Addr}{es:List (Int × List Int)}(h:EnH H ps es)(s:a1l H H'):EnH H' ps es:=h.imp fun a e z=>z.mono s
def g9j(K:PySem.W.Frag):Sp:=fun vs H Q _=>∃ (q:Addr) (r:List Int),vs=[.ref q]/\H q=some (.lst (r.map V.int))/\(∀ b∈r,0<=b/\b<=255)/\r.length<=1000/\∀ H',a1l H H'->Q (.bl true) H'
theorem f7w (T:Txt w K mg t):Has P w K mg base "is_row" 3 t.d8d t.d7c ["thing"] (g9j K):=by
 refine⟨T.f8e,T.e6i.kp,T.f8w,T.e6i.okQ e9p (fun vs H Q E h=>by obtain⟨q,r,rfl,_⟩:=h; rfl) fun cdv A outer s H vs Q E hr h=>?_⟩
 obtain⟨q,r,rfl,hq,hb,hl,k⟩:=h
 refine⟨_,(a0e (a0i (b5z (a2g (c4h (K:=K) rfl) T.n_isinstance PyProof.Rows.boot_isinstance (a0c (a0h 0) (a0c (e2n rfl T.n_list PyProof.Rows.boot_list) a0a))) (b1x (a2g (g0h (K:=K) rfl rfl) T.n_all PyProof.Rows.boot_all (a0c (a6b rfl (a2b.of (fns:=(a0f b8p).names) (N:=["thing"]) (Nc:=["each"]) (nv:=1) (caps:=[]) rfl rfl (by decide +kernel)) (a2q (K:=K) rfl (a0h 0)) (fun _ _ _ _=>(a0x (i:=0) (show List.Nodup (["each"]:List Str) by decide +kernel) rfl (Or.inl rfl) (Or.inr rfl))) (fun _ _ _ _=>a4p) (fun _ _ _ _=>(a2a (f1w T) hr (a0c (a0h 0) a0a)))) a0a)))))),?_⟩
 refine⟨_,_,.lst hq,by with_unfolding_all rfl,?_⟩
 refine f7o ?_
 refine⟨q,rfl,⟨_,.of hq⟩,c4e ((r.map fun _=>true).map V.bl) (by simp) (.of hq) (szl (by rw[List.length_map]; omega)) (fun i x y H4 N hx hy s4 hN=>?_) fun p3 H3 g3=>?_⟩
 ·obtain⟨o,ho,rfl⟩:=a6p hx
  rw[List.getElem?_map,List.getElem?_map,ho]at hy
  cases hy
  have:=hb o (List.mem_of_getElem? ho)
  exact⟨_,rfl,.int _,c7b (hN _ (a1l.refl _)) (by simp[d3r]; omega)⟩
 refine⟨_,g3.lst,?_⟩
 exact c7b (k H3 g3.sm) (by simp)
def g9t(K:PySem.W.Frag):Sp:=fun vs H Q _=>∃ (p:Addr) (e:Int × List Int),vs=[.ref p]/\g4c H p e.1 e.2/\Sg e.1/\(∀ b∈e.2,0<=b/\b<=255)/\∀ H',a1l H H'->Q (.bl true) H'
theorem e7m (T:Txt w K mg t):Has P w K mg base "is_entry" 4 t.c8h t.c7s ["thing"] (g9t K):=by
 refine⟨T.e7w,T.d5q.kp,T.e8j,T.d5q.okQ e2f (fun vs H Q E h=>by obtain⟨p,e,rfl,_⟩:=h; rfl) fun cdv A outer s H vs Q E hr h=>?_⟩
 obtain⟨p,⟨sg,r⟩,rfl,⟨⟨q,hp,hq⟩,l1,l6⟩,hs,hb,k⟩:=h
 dsimp only at hp hq l1 l6 hs hb
 have hu:=hr.units
 refine⟨_,(a0b (a0w (a2w (a7d (a7j (a5h (a2g (c4h (K:=K) rfl) T.n_isinstance PyProof.Rows.boot_isinstance (a0c (a0h 0) (a0c (e2n rfl T.n_tuple PyProof.Rows.boot_tuple) a0a))))) (a4w (a0o (d4k (K:=K) rfl hu) (a2g (a3b (K:=K) rfl) T.n_len PySem.boot_len (a0c (a0h 0) a0a)) a0g (a1e _))))) (a0e (a0i b5d)) a0n)
  (a0e (a0i (b5z (a2a (b2u T) hr (a0c (a1b (a1y (K:=K) rfl) (a0h 0) a0g (fun _ _=>rfl)) a0a)) (b5z (a2a (f7w T) hr (a0c (a1b (a1y (K:=K) rfl) (a0h 0) a0g (fun _ _=>rfl)) a0a)) (b1x (b4u e7v e7v a0g (a2g (a3b (K:=K) rfl) T.n_len PySem.boot_len (a0c (a1b (a1y (K:=K) rfl) (a0h 0) a0g (fun _ _=>rfl)) a0a)) (c2w T.e0i)))))))),?_⟩
 refine⟨_,_,.tup hp,by with_unfolding_all rfl,?_⟩
 refine a1v (fun z=>absurd z (by decide)) (fun _=>?_)
 refine⟨_,.inr (.of hp),?_⟩
 refine⟨_,_,.inr (.of hp),a1f (j:=0) rfl,?_⟩
 refine⟨_,rfl,.int _,?_⟩
 refine a1v (fun _=>?_) (fun z=>absurd ((c5f sg).mpr hs) z)
 refine⟨_,_,.inr (.of hp),a1f (j:=1) rfl,?_⟩
 refine⟨q,r,rfl,hq,hb,by omega,fun H1 s1=>?_⟩
 refine f7o ?_
 refine⟨_,_,.inr (.of (s1 _ _ hp)),a1f (j:=1) rfl,?_⟩
 refine⟨_,.inl (.of (s1 _ _ hq)),?_⟩
 refine a1v (fun z=>?_) (fun z=>?_)
 ·exact c7b (k H1 s1) (by rw[List.length_map]; simp; omega)
 ·exact absurd (show decide ((1:Int)<=((r.map V.int).length:Int))=true by rw[List.length_map]; simp; omega) z
def h4u:Sp:=fun vs H Q _=>∃ (a:Addr) (ps:List Addr) (es:List (Int × List Int)),vs=[.ref a]/\H a=some (.lst (ps.map V.ref))/\EnH H ps es/\Es es/\∀ H',a1l H H'->Q .non H'
theorem g3n(xs:List V)(k:Nat):d5g xs none (some (k:Int))=xs.take k:=d1y xs k
theorem d6d{qs:List Addr}{i:Nat}{x:V}(h:(qs.map V.ref)[i]? = some x) : ∃ q,qs[i]? = some q/\x=.ref q:=by
 rw[List.getElem?_map]at h
 obtain⟨q,hq,rfl⟩:=Option.map_eq_some_iff.mp h
 exact⟨q,hq,rfl⟩
theorem d6q (T:Txt w K mg t):Has P w K mg base "check_table" 5 t.b9x t.b8w ["rows"] h4u:=by
 refine⟨T.d6z,T.c6o.kp,T.d7t,T.c6o.okQ a9u (fun vs H Q E h=>by obtain⟨a,ps,es,rfl,_⟩:=h; rfl) fun cdv A outer s H vs Q E hr h=>?_⟩
 obtain⟨a,ps,es,rfl,ha,en,ok,k⟩:=h
 have hu:=hr.units
 refine⟨_,(a0b (a0w (a0o f5f (a2g (a3b (K:=K) rfl) T.n_len PySem.boot_len (a0c (a0h 0) a0a)) (c2w T.d7q) (a1e _)) (a0e a5e) a0n)
  (a0e (a4x PassesOwn.never rfl (b4t (K:=K) rfl rfl T.n_enumerate (a0c (a0h 0) a0a)) (a5g (K:=K) rfl rfl (a1m (a0x (i:=1) a9u.nd rfl (by first | exact Or.inl rfl | exact Or.inr rfl)) (a1m (a0x (i:=2) a9u.nd rfl (by first | exact Or.inl rfl | exact Or.inr rfl)) a5f))) (a0b (a0w (a7j (a5h (a2a (e7m T) hr (a0c (a0h 2) a0a)))) (a0e a5e) a0n)
  (a0e (a4x PassesOwn.never rfl (b4t (K:=K) rfl rfl T.n_enumerate (a0c (a1z (b8c (K:=K) rfl) (a0h 0) a3o (a1x (a0h 1))) a0a)) (a5g (K:=K) rfl rfl (a1m (a0x (i:=3) a9u.nd rfl (by first | exact Or.inl rfl | exact Or.inr rfl)) (a1m (a0x (i:=4) a9u.nd rfl (by first | exact Or.inl rfl | exact Or.inr rfl)) a5f))) (a0e (a0w (a5h (a2a (f1x T) hr (a0c (a0h 4) (a0c (a0h 2) a0a)))) (a0e a5e) a0n)))))))),?_⟩
 have lp:ps.length=es.length:=en.1
 have l64:=ok.l
 refine⟨_,.inl (.of ha),?_⟩
 refine a1v (fun z=>?_) (fun _=>?_)
 ·have z:((ps.map V.ref).length:Int) > 64:=of_decide_eq_true z
  rw[List.length_map]at z
  omega
 refine⟨a,_,rfl,.of ha,c2b (K:=K) (a:=a) (xs:=ps.map V.ref) (fun i σ H'=>a1l H H'/\∃ v1 v2 v3 v4,σ=[some (.ref a),v1,v2,v3,v4]) ⟨a1l.refl _,_,_,_,_,rfl⟩ (fun i σ H' _ z=>z.1.seq (.of ha)) ?_ ?_⟩
 ·rintro i x p σ H2 H3 hx ⟨s2,v1,v2,v3,v4,rfl⟩ g3
  obtain⟨px,hpx,rfl⟩:=d6d hx
  obtain⟨e,he,ee⟩:=en.right hpx
  refine⟨p,_,rfl,g3.tup,rfl,_,_,rfl,_,_,rfl,rfl,?_⟩
  have s3:=s2.trans g3.sm
  obtain⟨k1,k2,k3,k4⟩:=ok.sg e (List.mem_of_getElem? he)
  refine⟨px,e,rfl,ee.mono s3,k1,k4,fun H4 s4=>?_⟩
  refine a1v (fun z=>absurd (show (!true)=true from z) (by decide)) (fun _=>?_)
  have s04:=s3.trans s4
  refine⟨_,rfl,_,s04.seq (.of ha),fun p1 H5 g5=>?_⟩
  rw[g3n]at g5
  have s05:=s04.trans g5.sm
  refine⟨p1,_,rfl,g5.lst,c2b (K:=K) (a:=p1) (xs:=(ps.map V.ref).take i) (fun j σ H'=>a1l H5 H'/\∃ v3 v4,σ=[some (.ref a),some (.int (i:Int)),some (.ref px),v3,v4]) ⟨a1l.refl _,_,_,rfl⟩ (fun i σ H' _ z=>z.1.seq g5.lst) ?_ ?_⟩
  ·rintro j u pj σ H6 H7 hju ⟨s6,v3,v4,rfl⟩ g7
   have hji:j < i:=by have:=(List.getElem?_eq_some_iff.mp hju).1; rw[List.length_take]at this; omega
   rw[List.getElem?_take_of_lt hji]at hju
   obtain⟨pu,hpu,rfl⟩:=d6d hju
   obtain⟨f,hf,ef⟩:=en.right hpu
   refine⟨pj,_,rfl,g7.tup,rfl,_,_,rfl,_,_,rfl,rfl,?_⟩
   have s07:=s05.trans (s6.trans g7.sm)
   refine⟨pu,px,f,e,rfl,ef.mono s07,ee.mono s07,fun H8 s8=>?_⟩
   have nc:e8a f e=false:=by
    obtain⟨a1,e1⟩:=List.getElem?_eq_some_iff.mp hf
    obtain⟨a2,e2⟩:=List.getElem?_eq_some_iff.mp he
    rw[<- e1,<- e2]
    exact List.pairwise_iff_getElem.mp ok.pw j i a1 a2 hji
   refine a1v (fun z=>absurd (show e8a f e=true from z) (by rw[nc]; decide)) (fun _=>?_)
   exact⟨s6.trans (g7.sm.trans s8),_,_,rfl⟩
  ·rintro σ H6 ⟨s6,v3,v4,rfl⟩
   exact⟨s05.trans s6,_,_,_,_,rfl⟩
 ·rintro σ H2 ⟨s2,_⟩
  exact k H2 s2
structure Ft where
 dx:Addr
 d1:Addr
 d2:Addr
 d3:Addr
def b5v(r:List Int):List Key:=r.map Sum.inl
theorem d6k(r:List Int):r.map V.int=(b5v r).map kV:=by
 unfold b5v
 rw[List.map_map]; rfl
theorem c5o{r s:List Int}(h:b5v r=b5v s):r=s:=by
 unfold b5v at h
 induction r generalizing s with
 | nil=>cases s with
  | nil=>rfl
  | cons _ _=>cases h
 | cons x r ih=>cases s with
  | nil=>cases h
  | cons y s=>simp at h; rw[h.1,ih (by simpa using h.2)]
def g4g(es:List (Int × List Int))(row:List Int):Prop:=∃ e∈es,∃ m,m<=e.2.length/\row=e.2.take m
def Rst(H:Hp)(k3:List (List Key × V))(es:List (Int × List Int))(rr:List Int):Prop:=∃ (q:Addr) (r2:List Int),b4v k3 (b5v rr)=some (.ref q)/\H q=some (.tup (r2.map V.int))/\∃ e'∈es,e'.2=rr++r2
structure Kv (H:Hp) (k1:List (Key × V)) (k2 k3:List (List Key × V)) (es:List (Int × List Int)):Prop where
 a : ∀ e∈es,∃ q,b4v k1 (.inl e.1)=some (.ref q)/\H q=some (.tup (e.2.map V.int))
 b : ∀ e∈es,b4v k2 (b5v e.2)=some (.int e.1)
 b' : ∀ r:List Int,(∀ e∈es,e.2≠r)->b4v k2 (b5v r)=none
 c : ∀ e∈es,∀ m,m<=e.2.length->Rst H k3 es (e.2.take m)
 c' : ∀ r:List Int,¬ g4g es r->b4v k3 (b5v r)=none
structure Tt (t:Adr) (H:Hp) (a:Addr) (f:Ft) (es:List (Int × List Int)) (n:Nat):Prop where
 o:H a=some (.ins t.a1d f.dx [("row_by_sign",.ref f.d1),("sign_by_row",.ref f.d2),("rest_by_row",.ref f.d3)])
 k : ∃ k1 k2 k3,H f.d1=some (.dK k1)/\H f.d2=some (.dT k2)/\H f.d3=some (.dT k3)/\k1.length<=n/\k2.length<=n/\k3.length<=n/\Kv H k1 k2 k3 es
 ne:f.d2≠f.d3
variable {H H':Hp}{a:Addr}{f:Ft}{es:List (Int × List Int)}{n:Nat}
theorem Kv.mono{k1:List (Key × V)}{k2 k3:List (List Key × V)}(h:Kv H k1 k2 k3 es)(s : ∀ q xs,H q=some (.tup xs)->H' q=some (.tup xs)):Kv H' k1 k2 k3 es:=by
 refine⟨fun e he=>?_,h.b,h.b',fun e he m hm=>?_,h.c'⟩
 ·obtain⟨q,x,y⟩:=h.a e he
  exact⟨q,x,s _ _ y⟩
 ·obtain⟨q,r2,x,y,z⟩:=h.c e he m hm
  exact⟨q,r2,x,s _ _ y,z⟩
theorem Tt.mono(h:Tt t H a f es n)(s:a1l H H'):Tt t H' a f es n:=by
 obtain⟨o,⟨k1,k2,k3,a1,a2,a3,l1,l2,l3,kv⟩,ne⟩:=h
 exact⟨s _ _ o,⟨k1,k2,k3,s _ _ a1,s _ _ a2,s _ _ a3,l1,l2,l3,kv.mono fun q xs e=>s _ _ e⟩,ne⟩
theorem a1o{c d:Addr}{u v:HO}(h:H c=some u)(k:H d=some v)(n:u≠v):c≠d:=fun z=>by rw[z,k]at h; exact n (Option.some.inj h).symm
def Out(f:Ft)(H H':Hp):Prop:=∀ c u,c≠f.d1->c≠f.d2->c≠f.d3->H c=some u->H' c=some u
theorem Out.trans{H H1 H2:Hp}(h:Out f H H1)(h':Out f H1 H2):Out f H H2:=fun c u n1 n2 n3 e=>h' c u n1 n2 n3 (h c u n1 n2 n3 e)
theorem Out.of{H H1:Hp}(h:a1l H H1):Out f H H1:=fun c u _ _ _ e=>h c u e
theorem Tt.tup{q:Addr}{xs:List V}(h:Tt t H a f es n)(hq:H q=some (.tup xs))(k:Out f H H'):H' q=some (.tup xs):=by
 obtain⟨o,⟨k1,k2,k3,a1,a2,a3,_⟩,ne⟩:=h
 exact k _ _ (a1o hq a1 (by intro z; cases z)) (a1o hq a2 (by intro z; cases z)) (a1o hq a3 (by intro z; cases z)) hq
def g0y(t:Adr):Sp:=fun vs H Q _=>∃ (a:Addr) (f:Ft) (q:Addr) (n:Nat) (s:Int) (r:List Int) (es:List (Int × List Int)),vs=[.ref a,.int s,.ref q]/\Tt t H a f es n/\H q=some (.tup (r.map V.int))/\r.length<=6/\n<=1000/\(∀ e∈es,e.1≠s/\e.2≠r) /\
 ∀ H',Tt t H' a f (es++[(s,r)]) (n+9)->Out f H H'->Q .non H'
theorem c3t (T:Txt w K mg t):c4v P w K mg base t.a1d "enter" 1 t.b0h t.b0c ["self", "sign", "row"] (g0y t):=by
 refine⟨T.a1q,T.c2j,T.c4l,T.c4y.okQ b3g (fun vs H Q E h=>by obtain⟨a,f,q,n,s,r,es,rfl,_⟩:=h; rfl) fun cdv A outer s H vs Q E hr h=>?_⟩
 obtain⟨a,f,q,n,sg,r,es,rfl,tb,hq,lr,ln,new,k⟩:=h
 have hu:=hr.units
 obtain⟨o,⟨k1,k2,k3,a1,a2,a3,l1,l2,l3,kv⟩,ne⟩:=id tb
 refine⟨_,(a0b (d6e hu (a0z (K:=K) rfl (a0h 0)) (a0h 1) (a0h 2))
  (a0b (d6e hu (a0z (K:=K) rfl (a0h 0)) (a0h 2) (a0h 1))
  (a0e (a4x PassesOwn.never rfl (b1p rfl T.n_range (a0c (a0q (a1r (K:=K) rfl) (a2g (a3b (K:=K) rfl) T.n_len PySem.boot_len (a0c (a0h 2) a0a)) a0g) a0a)) (a0x (i:=3) b3g.nd rfl (by first | exact Or.inl rfl | exact Or.inr rfl)) (a0e (d6e hu (a0z (K:=K) rfl (a0h 0)) (a1z (f9x (K:=K) rfl) (a0h 2) a3o (a1x (a0h 3))) (a1z (f9x (K:=K) rfl) (a0h 2) (a1x (a0h 3)) a3o))))))),?_⟩
 have n12:f.d1≠f.d2:=a1o a1 a2 (by intro z; cases z)
 have n13:f.d1≠f.d3:=a1o a1 a3 (by intro z; cases z)
 have na1:a≠f.d1:=a1o o a1 (by intro z; cases z)
 have na2:a≠f.d2:=a1o o a2 (by intro z; cases z)
 have na3:a≠f.d3:=a1o o a3 (by intro z; cases z)
 refine⟨a,_,f.dx,_,_,rfl,o,T.a1q,T.a2z,rfl,?_⟩
 refine⟨f.d1,_,rfl,f5k.k (k:=.inl sg) a1 (e1m (by omega)),?_⟩
 obtain⟨H1,e1⟩ : ∃ H1,H1=upd H f.d1 (.dK (c8u k1 (.inl sg) (.ref q))):=⟨_,rfl⟩
 rw[<- e1]
 have o1:Out f H H1:=fun c u m1 m2 m3 e=>by rw[e1,a1c m1]; exact e
 have b1:H1 f.d1=some (.dK (c8u k1 (.inl sg) (.ref q))):=by rw[e1,a0v]
 have b2:H1 f.d2=some (.dT k2):=by rw[e1,a1c n12.symm]; exact a2
 have b3:H1 f.d3=some (.dT k3):=by rw[e1,a1c n13.symm]; exact a3
 clear e1
 refine⟨a,_,f.dx,_,_,rfl,o1 _ _ na1 na2 na3 o,T.a1q,T.a4z,rfl,?_⟩
 have hq1:=tb.tup hq o1
 refine⟨f.d2,_,rfl,f5k.t (k:=b5v r) b2 (by rw[<- d6k]; exact hq1) (e1m (by omega)),?_⟩
 obtain⟨H2,e2⟩ : ∃ H2,H2=upd H1 f.d2 (.dT (c8u k2 (b5v r) (.int sg))):=⟨_,rfl⟩
 rw[<- e2]
 have o2:Out f H1 H2:=fun c u m1 m2 m3 e=>by rw[e2,a1c m2]; exact e
 have c1:H2 f.d1=some (.dK (c8u k1 (.inl sg) (.ref q))):=by rw[e2,a1c n12]; exact b1
 have c2:H2 f.d2=some (.dT (c8u k2 (b5v r) (.int sg))):=by rw[e2,a0v]
 have c3:H2 f.d3=some (.dT k3):=by rw[e2,a1c ne.symm]; exact b3
 clear e2
 have o02:=o1.trans o2
 have hq2:=tb.tup hq o02
 refine⟨_,.inr (.of hq2),?_⟩
 refine⟨_,rfl,by rw[List.length_map]; omega,by rw[List.length_map]; omega,?_⟩
 rw[List.length_map]
 refine c5r (lo:=0) (n:=((r.length:Int)+1).toNat) (fun i σ H'=>Out f H H'/\H' f.d1=some (.dK (c8u k1 (.inl sg) (.ref q)))/\H' f.d2=some (.dT (c8u k2 (b5v r) (.int sg)))/\(∃ k3',H' f.d3=some (.dT k3')/\k3'.length<=n+i/\(∀ m,m < i->Rst H' k3' (es++[(sg,r)]) (r.take m))/\(∀ e∈es,∀ m,m<=e.2.length->Rst H' k3' (es++[(sg,r)]) (e.2.take m))/\(∀ rr,¬ g4g (es++[(sg,r)]) rr->b4v k3' (b5v rr)=none))/\∃ v3,σ=[some (.ref a),some (.int sg),some (.ref q),v3]) ⟨o02,c1,c2,⟨k3,c3,by omega,(fun m h=>absurd h (by omega)),(fun e he m hm=>?_),fun rr hrr=>kv.c' rr fun ⟨e,he,z⟩=>hrr ⟨e,List.mem_append_left _ he,z⟩⟩,_,rfl⟩ ?_ ?_
 ·obtain⟨q',r2,x,y,e',he',z⟩:=kv.c e he m hm
  exact⟨q',r2,x,tb.tup y o02,e',List.mem_append_left _ he',z⟩
 ·rintro i σ H3 hi ⟨o3,d1,d2,⟨k3',d3,l3',new3,old3,no3⟩,v3,rfl⟩
  have hq3:=tb.tup hq o3
  refine⟨_,rfl,_,.of hq3,hq3,fun p4 H4 s4 h4=>?_⟩
  refine⟨a,_,f.dx,_,_,rfl,s4 _ _ (o3 _ _ na1 na2 na3 o),T.a1q,T.a5a,rfl,?_⟩
  refine⟨_,rfl,_,.of (s4 _ _ hq3),s4 _ _ hq3,fun p5 H5 s5 h5=>?_⟩
  rw[Int.zero_add,g0f,d6k]at h5
  have s35:=s4.trans s5
  refine⟨f.d3,_,rfl,f5k.t (k:=b5v (r.take i)) (s35 _ _ d3) h5 (e1m (by omega)),?_⟩
  obtain⟨H6,e6⟩ : ∃ H6,H6=upd H5 f.d3 (.dT (c8u k3' (b5v (r.take i)) (.ref p4))):=⟨_,rfl⟩
  rw[<- e6]
  have t6 : ∀ c u,c≠f.d3->H3 c=some u->H6 c=some u:=fun c u m e=>by rw[e6,a1c m]; exact s35 _ _ e
  have n43:p4≠f.d3:=a1o (s5 _ _ h4) (s35 _ _ d3) (by intro z; cases z)
  have h46:H6 p4=some (.tup (d5g (r.map V.int) (some (0+(i:Int))) none)):=by rw[e6,a1c n43]; exact s5 _ _ h4
  have b6:H6 f.d3=some (.dT (c8u k3' (b5v (r.take i)) (.ref p4))):=by rw[e6,a0v]
  clear e6
  have h46':H6 p4=some (.tup ((r.drop i).map V.int)):=by
   rw[h46,Int.zero_add,a5p]
   exact congrArg _ (congrArg _ (congrArg _ (c1d r i)))
  have keep : ∀ rr,Rst H3 k3' (es++[(sg,r)]) rr->Rst H6 (c8u k3' (b5v (r.take i)) (.ref p4)) (es++[(sg,r)]) rr:=by
   rintro rr ⟨q',r2,x,y,z⟩
   by_cases c:b5v rr=b5v (r.take i)
   ·have c':=c5o c
    exact⟨p4,r.drop i,by rw[b1w,if_pos c],h46',(sg,r),by simp,by rw[c',List.take_append_drop]⟩
   ·exact⟨q',r2,by rw[b1w,if_neg c]; exact x,t6 _ _ (a1o y d3 (by intro z; cases z)) y,z⟩
  refine⟨fun c u m1 m2 m3 e=>t6 _ _ m3 (o3 c u m1 m2 m3 e),t6 _ _ n13 d1,t6 _ _ ne d2,⟨_,b6,?_,fun m hm=>?_,(fun e he m hm=>keep _ (old3 e he m hm)),fun rr hrr=>?_⟩,_,rfl⟩
  ·have:=b5g k3' (b5v (r.take i)) (.ref p4); omega
  ·by_cases c:m < i
   ·exact keep _ (new3 m c)
   ·obtain rfl:m=i:=by omega
    exact⟨p4,r.drop m,by rw[b1w,if_pos rfl],h46',(sg,r),by simp,by rw[List.take_append_drop]⟩
  ·rw[b1w,if_neg (fun z=>hrr ⟨(sg,r),by simp,i,by dsimp only; omega,c5o z⟩)]
   exact no3 rr hrr
 ·rintro σ H3 ⟨o3,d1,d2,⟨k3',d3,l3',new3,old3,no3⟩,_⟩
  refine k _ ⟨o3 _ _ na1 na2 na3 o,⟨_,_,k3',d1,d2,d3,?_,?_,by omega,?_⟩,ne⟩ o3
  ·have:=b5g k1 (.inl sg) (.ref q); omega
  ·have:=b5g k2 (b5v r) (.int sg); omega
  ·refine⟨fun e he=>?_,fun e he=>?_,fun r' hr'=>?_,(fun e he m hm=>?_),no3⟩
   ·rcases List.mem_append.mp he with he | he
    ·rw[b1w,if_neg (fun z=>(new e he).1 (Sum.inl.inj z))]
     obtain⟨q',x,y⟩:=kv.a e he
     exact⟨q',x,tb.tup y o3⟩
    ·rw[List.mem_singleton.mp he,b1w,if_pos rfl]
     exact⟨q,rfl,tb.tup hq o3⟩
   ·rcases List.mem_append.mp he with he | he
    ·rw[b1w,if_neg (fun z=>(new e he).2 (c5o z))]
     exact kv.b e he
    ·rw[List.mem_singleton.mp he,b1w,if_pos rfl]
   ·rw[b1w,if_neg (fun z=>hr' (sg,r) (by simp) (c5o z).symm)]
    exact kv.b' r' fun e he=>hr' e (by simp[he])
   ·rcases List.mem_append.mp he with he | he
    ·exact old3 e he m hm
    ·rw[List.mem_singleton.mp he]at hm ⊢
     exact new3 m (by dsimp only at hm; omega)
def e9l(t:Adr):Sp:=fun vs H Q _=>∃ (a dx p:Addr) (ps:List Addr) (es:List (Int × List Int)),vs=[.ref a,.ref p]/\H a=some (.ins t.a1d dx [])/\H p=some (.lst (ps.map V.ref))/\EnH H ps es/\Es es /\
 ∀ f H',Kp a H H'->Tt t H' a f es 1000->Q .non H'
theorem Tt.up{H:Hp}{a:Addr}{f:Ft}{es:List (Int × List Int)}{n m:Nat}(h:Tt t H a f es n)(hm:n<=m):Tt t H a f es m:=by
 obtain⟨o,⟨k1,k2,k3,a1,a2,a3,l1,l2,l3,kv⟩,ne⟩:=h
 exact⟨o,⟨k1,k2,k3,a1,a2,a3,by omega,by omega,by omega,kv⟩,ne⟩
theorem f7b (T:Txt w K mg t):b8g P w K mg base CX0 6 t.a7s t.a7o ["self", "rows"] (e9l t):=by
 refine T.c6q.okQ b4x (fun vs H Q E h=>by obtain⟨a,dx,p,ps,es,rfl,_⟩:=h; rfl) fun cdv A outer s H vs Q E hr h=>?_
 obtain⟨a,dx,p,ps,es,rfl,ha,hp,en,ok,kq⟩:=h
 have hu:=hr.units
 refine⟨_,(a0b (a2n (a2a (d6q T) hr (a0c (a0h 1) a0a)))
  (a0b (a1w (K:=K) rfl (a0h 0) e4v)
  (a0b (a1w (K:=K) rfl (a0h 0) d9h)
  (a0b (a1w (K:=K) rfl (a0h 0) d9h)
  (a0e (a4x PassesOwn.never rfl (a2q (K:=K) rfl (a0h 1)) (a0x (i:=2) b4x.nd rfl (by first | exact Or.inl rfl | exact Or.inr rfl)) (a0e (a2n (a4f (c3t T) hr (a0h 0) (a0c (a1b (a1y (K:=K) rfl) (a0h 2) a0g (fun _ _=>rfl)) (a0c (a9o (d7o (K:=K) rfl) T.n_tuple PyProof.Rows.boot_tuple (a0c (a1b (a1y (K:=K) rfl) (a0h 2) a0g (fun _ _=>rfl)) a0a)) a0a))))))))))),?_⟩
 refine⟨p,ps,es,rfl,hp,en,ok,fun H1 s1=>?_⟩
 refine fun d1 H2 g2=>?_
 refine⟨a,_,dx,_,rfl,g2.sm _ _ (s1 _ _ ha),T.a1q,T.a2z,Nat.lt_of_lt_of_le Nat.zero_lt_one (by decide),?_⟩
 obtain⟨H3,e3⟩ : ∃ H3,H3=upd H2 a (HO.ins t.a1d dx (c7g "row_by_sign" (.ref d1) [])):=⟨_,rfl⟩
 have a3:H3 a=some (.ins t.a1d dx [("row_by_sign",.ref d1)]):=by rw[e3,a0v]; rfl
 have k3:Kp a H2 H3:=by rw[e3]; exact Kp.upd
 rw[<- e3]
 clear e3
 refine fun d2 H4 g4=>?_
 refine⟨a,_,dx,_,rfl,g4.sm _ _ a3,T.a1q,T.a4z,Nat.lt_of_lt_of_le (Nat.lt_succ_self 1) (by decide),?_⟩
 obtain⟨H5,e5⟩ : ∃ H5,H5=upd H4 a (HO.ins t.a1d dx (c7g "sign_by_row" (.ref d2) [("row_by_sign",.ref d1)])):=⟨_,rfl⟩
 have a5:H5 a=some (.ins t.a1d dx [("row_by_sign",.ref d1),("sign_by_row",.ref d2)]):=by rw[e5,a0v]; rfl
 have k5:Kp a H4 H5:=by rw[e5]; exact Kp.upd
 rw[<- e5]
 clear e5
 refine fun d3 H6 g6=>?_
 refine⟨a,_,dx,_,rfl,g6.sm _ _ a5,T.a1q,T.a5a,Nat.lt_of_lt_of_le (Nat.lt_succ_self 2) (by decide),?_⟩
 obtain⟨H7,e7⟩ : ∃ H7,H7=upd H6 a (HO.ins t.a1d dx (c7g "rest_by_row" (.ref d3) [("row_by_sign",.ref d1),("sign_by_row",.ref d2)])):=⟨_,rfl⟩
 have a7:H7 a=some (.ins t.a1d dx [("row_by_sign",.ref d1),("sign_by_row",.ref d2),("rest_by_row",.ref d3)]):=by rw[e7,a0v]; rfl
 have k7:Kp a H6 H7:=by rw[e7]; exact Kp.upd
 rw[<- e7]
 clear e7
 have n1:d1≠a:=(a0l (s1 _ _ ha) g2.nw).symm
 have n2:d2≠a:=(a0l a3 g4.nw).symm
 have n3:d3≠a:=(a0l a5 g6.nw).symm
 have k35:Kp a H3 H5:=(Kp.of g4.sm).trans k5
 have k57:Kp a H5 H7:=(Kp.of g6.sm).trans k7
 have k37:Kp a H3 H7:=k35.trans k57
 have k17:Kp a H1 H7:=(Kp.of g2.sm).trans (k3.trans k37)
 have k07:Kp a H H7:=(Kp.of s1).trans k17
 have b2:H5 d2=some (.dT []):=k5 _ _ n2 g4.at_
 have n23:d2≠d3:=a0l b2 g6.nw
 have tb:Tt t H7 a ⟨dx,d1,d2,d3⟩ [] 0:=⟨a7,⟨[],[],[],k37 _ _ n1 (k3 _ _ n1 g2.at_),k57 _ _ n2 b2,k7 _ _ n3 g6.at_,Nat.le_refl _,Nat.le_refl _,Nat.le_refl _,⟨(fun e h=>nomatch h),(fun e h=>nomatch h),(fun r _=>rfl),(fun e h=>nomatch h),(fun r _=>rfl)⟩⟩,n23⟩
 have f1:H d1=none:=s1.free g2.nw
 have f2 : ∀ c u,H c=some u->c≠a->c≠d2:=fun c u e n=>a0l (k3 _ _ n (g2.sm _ _ (s1 _ _ e))) g4.nw
 have f3 : ∀ c u,H c=some u->c≠a->c≠d3:=fun c u e n=>a0l (k35 _ _ n (k3 _ _ n (g2.sm _ _ (s1 _ _ e)))) g6.nw
 have lx:=en.1
 have l64:=ok.l
 have kpo : ∀ H',Out ⟨dx,d1,d2,d3⟩ H7 H'->Kp a H H':=fun H' o c u n e=>o c u (a0l e f1) (f2 c u e n) (f3 c u e n) (k07 c u n e)
 have px : ∀ H',Out ⟨dx,d1,d2,d3⟩ H7 H'->H' p=some (.lst (ps.map V.ref)):=fun H' o=>kpo H' o _ _ (a1o hp ha (by intro z; cases z)) hp
 refine⟨p,rfl,⟨_,.of (px H7 (Out.of (a1l.refl _)))⟩,b8t (K:=K) (a:=p) (xs:=ps.map V.ref) (fun i σ H'=>Tt t H' a ⟨dx,d1,d2,d3⟩ (es.take i) (i*9)/\Out ⟨dx,d1,d2,d3⟩ H7 H'/\∃ v2,σ=[some (.ref a),some (.ref p),v2]) ⟨tb.up (by omega),Out.of (a1l.refl _),_,rfl⟩ (fun i σ H' _ z=>.of (px H' z.2.1)) ?_ ?_⟩
 ·rintro i x σ H8 hx ⟨tb8,o8,v2,rfl⟩
  obtain⟨pe,hpe,rfl⟩:=d6d hx
  obtain⟨e,he,⟨q,hq1,hq2⟩,l1,l6⟩:=en.right hpe
  have he8:=kpo _ o8 _ _ (a1o hq1 ha (by intro z; cases z)) hq1
  have hq8:=kpo _ o8 _ _ (a1o hq2 ha (by intro z; cases z)) hq2
  have hi:i < ps.length:=(List.getElem?_eq_some_iff.mp hpe).1
  refine⟨a,dx,_,rfl,tb8.o,rfl,?_⟩
  refine⟨_,_,.inr (.of he8),a1f (j:=0) rfl,?_⟩
  refine⟨_,_,.inr (.of he8),a1f (j:=1) rfl,?_⟩
  refine⟨_,.of hq8,fun pt H9 g9=>?_⟩
  refine⟨a,⟨dx,d1,d2,d3⟩,pt,i*9,e.1,e.2,es.take i,rfl,tb8.mono g9.sm,g9.at_,l6,by omega,fun e' he'=>?_,fun HA tA oA=>?_⟩
  ·obtain⟨j,hj,rfl⟩:=List.mem_iff_getElem.mp he'
   obtain⟨a2,e2⟩:=List.getElem?_eq_some_iff.mp he
   rw[List.length_take]at hj
   have nc:=List.pairwise_iff_getElem.mp ok.pw j i (by omega) a2 (by omega)
   rw[e2]at nc
   rw[List.getElem_take]
   unfold e8a d2p at nc
   refine⟨fun z=>?_,fun z=>?_⟩
   ·rw[decide_eq_true z]at nc; cases nc
   ·rw[z]at nc; simp at nc
  ·have et:es.take (i+1)=es.take i++[(e.1,e.2)]:=a5w he
   rw[et]
   exact⟨tA.up (by omega),o8.trans ((Out.of g9.sm).trans oA),_,rfl⟩
 ·rintro σ H8 ⟨t8,o8,_⟩
  rw[List.length_map,lx,List.take_length]at t8
  exact kq _ _ (kpo _ o8) (t8.up (by omega))
theorem c9i (T:Txt w K mg t):d8f P w K mg base "TableTongue" t.a1d 6 t.a7s t.a7o ["self", "rows"] [] (e9l t):=⟨T.d4h,T.d4d,⟨[],T.c6c,.nil⟩,f7b T⟩
def g4u(t:Adr):Sp:=fun vs H Q _=>∃ (a:Addr) (f:Ft) (es:List (Int × List Int)) (q:Addr) (row:List Int) (g:Int),vs=[.ref a,.ref q,.int g]/\Tt t H a f es 1000/\Es es/\H q=some (.lst (row.map V.int)) /\
 ((∀ e∈es,e.2≠row)->∀ H',a1l H H'->Q .non H')/\(∀ e∈es,e.2=row->∀ p H',a1l H H'->H' p=some (.tup [.int e.1,.int g])->Q (.ref p) H')
theorem f0q (T:Txt w K mg t):b8g P w K mg base CX0 2 t.a6s t.a4r ["self", "row", "page"] (g4u t):=by
 refine T.c4w.okQ b3f (fun vs H Q E h=>by obtain⟨o,f,es,q,row,g,rfl,_⟩:=h; rfl) fun cdv A outer s H vs Q E hr h=>?_
 obtain⟨a,f,es,q,row,g,rfl,tt,ok,hq,kn,ks⟩:=h
 have hu:=hr.units
 refine⟨_,(a0b (a0r (i:=3) b3f.nd rfl (by first | exact Or.inl rfl | exact Or.inr rfl) (e4w hu (a0z (K:=K) rfl (a0h 0)) (a9o (d7o (K:=K) rfl) T.n_tuple PyProof.Rows.boot_tuple (a0c (a0h 1) a0a))))
  (a0e (a0i (a7b (a0o g3f (a0h 3) a2e (a1e _)) a2e (a1u (a0c (a0h 3) (a0c (a0h 2) a0a))))))),?_⟩
 obtain⟨o,⟨k1,k2,k3,a1,a2,a3,_,_,_,kv⟩,ne⟩:=id tt
 refine⟨a,_,f.dx,_,_,rfl,o,T.a1q,T.a4z,rfl,?_⟩
 refine⟨f.d2,rfl,.inr ⟨_,.inl a2⟩,?_⟩
 refine⟨_,.of hq,fun p1 H1 g1=>?_⟩
 have h1:=g1.at_
 rw[d6k]at h1
 refine⟨_,c9w.t (g1.sm _ _ a2) h1,?_⟩
 by_cases c : ∀ e∈es,e.2≠row
 ·rw[kv.b' row c]
  exact kn c H1 g1.sm
 ·obtain⟨e,he⟩:=Classical.not_forall.mp c
  obtain⟨hm,hrow⟩:=Classical.not_imp.mp he
  have hrow:e.2=row:=Classical.not_not.mp hrow
  have vb:=kv.b e hm
  rw[hrow]at vb
  rw[vb]
  exact⟨sz rfl,fun p2 H2 g2=>ks e hm hrow p2 H2 (g1.sm.trans g2.sm) g2.at_⟩
theorem c0s (T:Txt w K mg t):b7o P w K mg base t.a1d "whole" 2 t.a6s t.a4r ["self", "row", "page"] [] (g4u t) :=
 ⟨T.a1q,T.c2h,⟨_,T.c4j,.nil⟩,f0q T⟩
def g5h(t:Adr):Sp:=fun vs H Q _=>∃ (a:Addr) (f:Ft) (es:List (Int × List Int)) (q:Addr) (row:List Int) (g:Int),vs=[.ref a,.ref q,.int g]/\Tt t H a f es 1000/\H q=some (.lst (row.map V.int)) /\
 (g4g es row->∀ p H',a1l H H'->Q (.ref p) H')/\(¬ g4g es row->∀ H',a1l H H'->Q .non H')
theorem f7d (T:Txt w K mg t):b8g P w K mg base CX0 3 t.a7t t.a5j ["self", "row", "page"] (g5h t):=by
 refine T.c6r.okQ b4y (fun vs H Q E h=>by obtain⟨o,f,es,q,row,g,rfl,_⟩:=h; rfl) fun cdv A outer s H vs Q E hr h=>?_
 obtain⟨a,f,es,q,row,g,rfl,tt,hq,k,kn⟩:=h
 have hu:=hr.units
 refine⟨_,(a0b (a0r (i:=3) b4y.nd rfl (by first | exact Or.inl rfl | exact Or.inr rfl) (e4w hu (a0z (K:=K) rfl (a0h 0)) (a9o (d7o (K:=K) rfl) T.n_tuple PyProof.Rows.boot_tuple (a0c (a0h 1) a0a))))
  (a0e (a0i (a7b (a0o g3f (a0h 3) a2e (a1e _)) a2e (a9o (b1t (K:=K) rfl) T.n_list PyProof.Rows.boot_list (a0c (a0h 3) a0a)))))),?_⟩
 obtain⟨o,⟨k1,k2,k3,a1,a2,a3,_,_,_,kv⟩,ne⟩:=id tt
 refine⟨a,_,f.dx,_,_,rfl,o,T.a1q,T.a5a,rfl,?_⟩
 refine⟨f.d3,rfl,.inr ⟨_,.inl a3⟩,?_⟩
 refine⟨_,.of hq,fun p1 H1 g1=>?_⟩
 have h1:=g1.at_
 rw[d6k]at h1
 refine⟨_,c9w.t (g1.sm _ _ a3) h1,?_⟩
 by_cases c:g4g es row
 ·obtain⟨e,he,m,hm,rfl⟩:=id c
  obtain⟨q',r2,vc,hq',ee⟩:=kv.c e he m hm
  rw[vc]
  exact⟨_,.inr (.of (g1.sm _ _ hq')),fun p2 H2 g2=>k c p2 H2 (g1.sm.trans g2.sm)⟩
 ·rw[kv.c' row c]
  exact kn c H1 g1.sm
theorem c2o (T:Txt w K mg t):b7o P w K mg base t.a1d "fill" 3 t.a7t t.a5j ["self", "row", "page"] [] (g5h t) :=
 ⟨T.a1q,T.c3l,⟨_,T.c6d,.nil⟩,f7d T⟩
inductive Kt where
 | ld
 | pr (h:Bool)
 | sh (f:Fp) (ns ms:List Int)
 | tb (f:Ft) (es:List (Int × List Int))
 | br
def TN(t:Adr)(H:Hp)(o:Addr):Kt->Prop
 | .ld=>∃ dx,H o=some (.ins t.a2c dx [])
 | .pr h=>Po t H o h
 | .sh f ns ms=>Tg t H o f ns ms
 | .tb f es=>Tt t H o f es 1000/\Es es
 | .br=>∃ dx,H o=some (.ins t.a5v dx [])
theorem TN.mono{H H':Hp}{o:Addr}{D:Kt}(h:TN t H o D)(s:a1l H H'):TN t H' o D:=by
 cases D with
 | ld=>obtain⟨dx,h⟩:=h; exact⟨dx,s _ _ h⟩
 | pr b=>exact Po.mono h s
 | sh f ns ms=>exact Tg.mono h s
 | tb f es=>exact⟨Tt.mono h.1 s,h.2⟩
 | br=>obtain⟨dx,h⟩:=h; exact⟨dx,s _ _ h⟩
def g9i:Kt->Int->Int->Option (List Int × Int)
 | .ld,g,n=>some (row n,g)
 | .pr h,g,n=>some (e2p h n,g)
 | .sh _ ns ms,g,n=>b8l (sel g ns ms) (sel g ms ns) g (.int n)
 | .tb _ es,g,n=>(es.find? fun e=>decide (e.1=n)).map fun e=>(e.2,g)
 | .br,_,_=>none
def e2d(D:Kt)(g n:Int):List Int × Int:=(g9i D g n).getD ([],g)
def InT:Kt->Int->Prop
 | .ld,n=>Sg n
 | .pr _,n=>Sg n
 | .sh _ ns ms,n=>n∈ns\/n∈ms
 | .tb _ es,n=>∃ e∈es,e.1=n
 | .br,_=>False
def PgK:Kt->Int->Prop
 | .sh _ _ _,g=>Two g
 | _,g=>g=0
theorem g0s{ns ms:List Int}{g n:Int}(two:Two g)(h:n∈ns\/n∈ms) : ∃ r g',b8l (sel g ns ms) (sel g ms ns) g (.int n)=some (r,g')/\Two g'/\r.length<=2:=by
 have hh:n∈sel g ns ms\/n∈sel g ms ns:=by
  rcases two with rfl | rfl
  ·exact h
  ·exact h.symm
 unfold b8l
 dsimp only
 cases e:idx (sel g ns ms) n with
 | some i=>exact⟨_,_,rfl,two,by show (1:Nat)<=2; decide⟩
 | none =>
  dsimp only
  have hn:=a9y.mp e
  rcases hh with hh | hh
  ·exact absurd hh hn
  ·obtain⟨i,hi,_⟩:=b8r hh
   rw[hi]
   exact⟨_,_,rfl,two.flip,by show (2:Nat)<=2; decide⟩
theorem c7l{es:List (Int × List Int)}{n:Int}(h : ∃ e∈es,e.1=n) : ∃ e∈es,e.1=n/\(es.find? fun e=>decide (e.1=n))=some e:=by
 cases e:es.find? fun e=>decide (e.1=n) with
 | none =>
  obtain⟨f,hf,rfl⟩:=h
  have:=List.find?_eq_none.mp e f hf
  simp at this
 | some f =>
  exact⟨f,List.mem_of_find?_eq_some e,by simpa using List.find?_some e,rfl⟩
def Kok:Kt->Prop
 | .tb _ es=>Es es
 | _=>True
theorem TN.ok{H:Hp}{o:Addr}{D:Kt}(h:TN t H o D):Kok D:=by
 cases D with
 | tb f es=>exact h.2
 | _=>exact trivial
theorem e9g{D:Kt}{g n:Int}(tn:Kok D)(hg:PgK D g)(hn:InT D n) : ∃ r g',g9i D g n=some (r,g')/\e2d D g n=(r,g')/\PgK D g'/\r.length<=6:=by
 have key : ∃ r g',g9i D g n=some (r,g')/\PgK D g'/\r.length<=6:=by
  cases D with
  | ld=>exact⟨_,_,rfl,hg,Nat.le_trans (e9v n).2 (by decide)⟩
  | pr b=>exact⟨_,_,rfl,hg,Nat.le_trans (f6o b n) (by decide)⟩
  | sh f ns ms =>
   obtain⟨r,g',e,two,l⟩:=g0s hg hn
   exact⟨r,g',e,two,by omega⟩
  | tb f es =>
   obtain⟨e,he,_,ef⟩:=c7l hn
   exact⟨e.2,g,by show Option.map _ _=_; rw[ef]; rfl,hg,(Es.sg tn e he).2.2.1⟩
  | br=>exact hn.elim
 obtain⟨r,g',e,a,b⟩:=key
 exact⟨r,g',e,by unfold e2d; rw[e]; rfl,a,b⟩
theorem g0n{rr:List Int}(h:Whl rr)(b : ∀ x∈rr,0<=x):Sg (car rr)/\row (car rr)=rr:=by
 cases rr with
 | nil=>exact h.elim
 | cons f r =>
  have f0:=b f (List.mem_cons_self ..)
  obtain⟨⟨_,ft⟩,hl⟩:=h
  obtain⟨f1,f2⟩:=(e5k f r).mp ft
  match r,hl,f1,f2 with
  | [],hl,_,_ =>
   have hf:f < 128:=by
    have hl:((0:Nat):Int)+1=lb f:=hl
    unfold lb at hl
    by_cases c:f < 128
    ·exact c
    ·rw[if_neg c]at hl; (repeat' split at hl) <;> omega
   show Sg f/\row f=[f]
   refine⟨by unfold Sg; omega,?_⟩
   unfold row; rw[if_pos hf]
  | [x],hl,f1,f2 =>
   have hl:((1:Nat):Int)+1=lb f:=hl
   have hx:=f1 x (by simp)
   have e:car [f,x]=(f - 192)*64+(x - 128):=by simp[car,f9r,tog]
   have hf:194<=f/\f < 224:=by
    unfold lb at hl
    (repeat' split at hl) <;> omega
   rw[e]
   refine⟨by unfold Sg; omega,?_⟩
   unfold row
   rw[if_neg (by omega),if_pos (by omega)]
   congr 1
   ·omega
   ·congr 1; omega
  | [x,y],hl,f1,f2 =>
   have hl:((2:Nat):Int)+1=lb f:=hl
   have hx:=f1 x (by simp)
   have hy:=f1 y (by simp)
   have h2:=f2 x rfl
   have e:car [f,x,y]=(f - 224)*4096+(x - 128)*64+(y - 128):=by simp[car,f9r,tog]; omega
   have hf:224<=f/\f < 240:=by
    unfold lb at hl
    (repeat' split at hl) <;> omega
   have z:(f=224->160<=x)/\(f=237->x<=159)/\(f=238->x<=187):=by
    unfold lo1 hi1 at h2
    refine⟨fun c=>?_,fun c=>?_,fun c=>?_⟩ <;> subst c <;> simp at h2 <;> omega
   rw[e]
   refine⟨by unfold Sg; omega,?_⟩
   unfold row
   rw[if_neg (by omega),if_neg (by omega),if_pos (by omega)]
   congr 1
   ·omega
   ·congr 1
    ·omega
    ·congr 1; omega
  | [x,y,v],hl,f1,f2 =>
   have hl:((3:Nat):Int)+1=lb f:=hl
   have hx:=f1 x (by simp)
   have hy:=f1 y (by simp)
   have hv:=f1 v (by simp)
   have h2:=f2 x rfl
   have e:car [f,x,y,v]=(f - 240)*262144+(x - 128)*4096+(y - 128)*64+(v - 128):=by simp[car,f9r,tog]; omega
   have hf:240<=f/\f<=244:=by
    unfold lb at hl
    (repeat' split at hl) <;> omega
   have z:(f=240->144<=x)/\(f=244->x<=143):=by
    unfold lo1 hi1 at h2
    refine⟨fun c=>?_,fun c=>?_⟩ <;> subst c <;> simp at h2 <;> omega
   rw[e]
   refine⟨by unfold Sg; omega,?_⟩
   unfold row
   rw[if_neg (by omega),if_neg (by omega),if_neg (by omega)]
   congr 1
   ·omega
   ·congr 1
    ·omega
    ·congr 1
     ·omega
     ·congr 1; omega
  | _ :: _ :: _ :: _ :: r,hl,_,_ =>
   exfalso
   have:=(f7m f).2
   simp at hl
   omega
theorem g0o(h:Bool){r:List Int}{n:Int}(hb:b5u r)(e:whl h r=some n):Sg n/\e2p h n=r:=by
 unfold whl at e
 by_cases c:r.length=2\/r.length=4
 ·rw[if_pos c]at e
  rcases c with c | c
  ·match r,c with
   | [x,y],_ =>
    have hx:=hb x (by simp)
    have hy:=hb y (by simp)
    have e:c8s [u2 h x y]=some n:=e
    have e:(if b6k (.int (u2 h x y))=true then some (u2 h x y) else none)=some n:=e
    by_cases d:b6k (.int (u2 h x y))=true
    ·rw[if_pos d]at e
     cases e
     refine⟨(c5f _).mp d,?_⟩
     unfold e2p a3d u2
     cases h
     ·simp[ub]; rw[if_pos (by omega)]; simp[ub]; omega
     ·simp[ub]; rw[if_pos (by omega)]; simp[ub]; omega
    ·rw[if_neg d]at e; cases e
  ·match r,c with
   | [x,y,z,v],_ =>
    have hx:=hb x (by simp)
    have hy:=hb y (by simp)
    have hz:=hb z (by simp)
    have hv:=hb v (by simp)
    have e:c8s [u2 h x y,u2 h z v]=some n:=e
    unfold c8s at e
    simp only at e
    split at e
    ·cases e
     rename_i d
     cases h
     ·simp[u2]at d ⊢
      refine⟨by unfold Sg; omega,?_⟩
      unfold e2p a3d
      rw[if_neg (by omega)]
      simp[ub]; omega
     ·simp[u2]at d ⊢
      refine⟨by unfold Sg; omega,?_⟩
      unfold e2p a3d
      rw[if_neg (by omega)]
      simp[ub]; omega
    ·cases e
 ·rw[if_neg c]at e; cases e
theorem e9h{ns ms:List Int}{g n:Int}(two:Two g)(h:n∈ns\/n∈ms) : ∃ r g',b8l (sel g ns ms) (sel g ms ns) g (.int n)=some (r,g')/\Two g'/\((∃ b:Int,r=[b]/\0<=b/\(sel g ns ms)[b.toNat]? = some n/\g'=g)\/(∃ c:Int,r=[254+(1 - g),c]/\0<=c/\(sel g ms ns)[c.toNat]? = some n/\n∉sel g ns ms/\g'=1 - g)):=by
 have hh:n∈sel g ns ms\/n∈sel g ms ns:=by
  rcases two with rfl | rfl
  ·exact h
  ·exact h.symm
 unfold b8l
 dsimp only
 cases e:idx (sel g ns ms) n with
 | some i=>exact⟨_,_,rfl,two,.inl ⟨(i:Int),rfl,by omega,by simpa using (c0o e).1,rfl⟩⟩
 | none =>
  dsimp only
  have hn:=a9y.mp e
  rcases hh with hh | hh
  ·exact absurd hh hn
  ·obtain⟨i,hi,_⟩:=b8r hh
   rw[hi]
   exact⟨_,_,rfl,two.flip,.inr ⟨(i:Int),rfl,by omega,by simpa using (c0o hi).1,hn,rfl⟩⟩
theorem f9f{f:Fp}{ns ms:List Int}{g n:Int}{r:List Int}{g':Int}(e:b8l (sel g ns ms) (sel g ms ns) g (.int n)=some (r,g')):e2d (.sh f ns ms) g n=(r,g'):=by
 show (b8l (sel g ns ms) (sel g ms ns) g (.int n)).getD ([],g)=_
 rw[e]; rfl
theorem g8t:PyData.strOk "sign" = true:=by decide +kernel
theorem f9p:PyData.strOk "more" = true:=by decide +kernel
theorem f9o:PyData.strOk "none" = true:=by decide +kernel
theorem a0j{x:Str}(h:PyData.strOk x=true):SeqAt.shaped (.str x)=true:=by
 simpa [SeqAt.shaped,PyData.canLay0,PyData.depth] using h
def g9r:Sp:=fun _ _ _ _=>False
def g5e:Sp:=fun vs H Q _=>∃ a b c:V,vs=[a,b,c]/\Q .non H
theorem c9l (T:Txt w K mg t):b7o P w K mg base t.a5v "whole" 1 t.b7m t.b1y ["self", "row", "page"] [] g5e :=
 ⟨T.b8d,T.d0l,⟨_,T.d4n,.nil⟩,T.d4p.okQ d0b (fun vs H Q E h=>by obtain⟨a,b,c,rfl,_⟩:=h; rfl) fun cdv A outer s H vs Q E hr h=>by
  obtain⟨a,b,c,rfl,k⟩:=h
  exact⟨_,(a0e (a0i a2e)),k⟩⟩
theorem d1d (T:Txt w K mg t):b7o P w K mg base t.a5v "fill" 1 t.c0a t.b3t ["self", "row", "page"] [] g5e :=
 ⟨T.b8d,T.d4c,⟨_,T.d7w,.nil⟩,T.d8j.okQ d3w (fun vs H Q E h=>by obtain⟨a,b,c,rfl,_⟩:=h; rfl) fun cdv A outer s H vs Q E hr h=>by
  obtain⟨a,b,c,rfl,k⟩:=h
  exact⟨_,(a0e (a0i a2e)),k⟩⟩
inductive Lk where
 | sg (n g:Int)
 | mo
 | no
def lkV(g:Int):Lk->List V
 | .sg n g'=>[.str "sign",.int n,.int g']
 | .mo=>[.str "more",.non,.int g]
 | .no=>[.str "none",.non,.int g]
open Classical in
noncomputable def lkA:Kt->Int->List Int->Lk
 | .ld,g,r=>if Whl r then .sg (car r) g else if h2e r then .mo else .no
 | .pr h,g,r=>match whl h r with
  | some n=>.sg n g
  | none=>if fil h r=none then .no else .mo
 | .sh _ ns ms,g,r=>match b3e (sel g ns ms) (sel g ms ns) g r with
  | some (n,g')=>.sg n g'
  | none=>if f2v (sel g ns ms) (sel g ms ns) g r=true then .mo else .no
 | .tb _ es,g,r=>match es.find? fun e=>decide (e.2=r) with
  | some e=>.sg e.1 g
  | none=>if g4g es r then .mo else .no
 | .br,_,_=>.no
def Dm:Kt->Int->List Int->Prop
 | .ld,_,r=>b5u r/\r.length<=9
 | .pr _,_,r=>b5u r/\r.length<=9
 | .sh _ _ _,g,r=>f8y g r
 | .tb _ _,_,r=>b5u r
 | .br,_,_=>True
def g4f(t:Adr):Sp:=fun vs H Q _=>∃ (o q:Addr) (D:Kt) (g:Int) (r:List Int),vs=[.ref o,.ref q,.int g]/\TN t H o D/\PgK D g/\H q=some (.lst (r.map V.int))/\Dm D g r/\∀ p H',a1l H H'->H' p=some (.tup (lkV g (lkA D g r)))->Q (.ref p) H'
theorem d0j (T:Txt w K mg t):b8g P w K mg base CX0 7 t.a2t t.a4j ["self", "begun", "page"] (g4f t):=by
 refine T.d8i.okQ c2t (fun vs H Q E h=>by obtain⟨o,q,D,g,r,rfl,_⟩:=h; rfl) fun cdv A outer s H vs Q E hr h=>?_
 obtain⟨o,q,D,g,r,rfl,tn,pg,hq,dm,k⟩:=h
 have hu:=hr.units
 refine⟨_,(a0b (a0r (i:=3) c2t.nd rfl (by first | exact Or.inl rfl | exact Or.inr rfl) (a4e (a2r (c9l T) hr (a0h 0) (a0c (a0h 1) (a0c (a0h 2) a0a))) (a4e (a2r (c2q T) hr (a0h 0) (a0c (a0h 1) (a0c (a0h 2) a0a))) (a4e (a2r (b3n T) hr (a0h 0) (a0c (a0h 1) (a0c (a0h 2) a0a))) (a4e (a2r (b2w T) hr (a0h 0) (a0c (a0h 1) (a0c (a0h 2) a0a))) (a2r (c0s T) hr (a0h 0) (a0c (a0h 1) (a0c (a0h 2) a0a))))))))
  (a0b (a0w (a0o d6x (a0h 3) a2e (a1e _)) (a0e (a0i (a1u (a0c a2d (a0c (a1b (a1y (K:=K) rfl) (a0h 3) a0g (fun _ _=>rfl)) (a0c (a1b (a1y (K:=K) rfl) (a0h 3) a0g (fun _ _=>rfl)) a0a)))))) a0n)
  (a0b (a0w (a0o g3f (a4e (a2r (d1d T) hr (a0h 0) (a0c (a0h 1) (a0c (a0h 2) a0a))) (a4e (a2r (c3w T) hr (a0h 0) (a0c (a0h 1) (a0c (a0h 2) a0a))) (a4e (a2r (c3v T) hr (a0h 0) (a0c (a0h 1) (a0c (a0h 2) a0a))) (a4e (a2r (c2p T) hr (a0h 0) (a0c (a0h 1) (a0c (a0h 2) a0a))) (a2r (c2o T) hr (a0h 0) (a0c (a0h 1) (a0c (a0h 2) a0a))))))) a2e (a1e _)) (a0e (a0i (a1u (a0c a2d (a0c a2e (a0c (a0h 2) a0a)))))) a0n)
  (a0e (a0i (a1u (a0c a2d (a0c a2e (a0c (a0h 2) a0a))))))))),?_⟩
 cases D with
 | br =>
  obtain⟨dx,ho⟩:=id tn
  refine .inl ⟨o,dx,_,rfl,ho,rfl,_,_,_,rfl,?_⟩
  refine .inl ⟨o,dx,_,rfl,ho,rfl,_,_,_,rfl,?_⟩
  exact⟨sz rfl,fun p2 H2 g2=>k p2 H2 g2.sm g2.at_⟩
 | ld =>
  obtain rfl:g=0:=pg
  obtain⟨dx,ho⟩:=id tn
  have tl:r.length<=1000:=by have:=dm.2; omega
  dsimp only [lkA]at k
  refine .inr (.inl ⟨o,dx,_,rfl,ho,rfl,?_⟩)
  refine⟨o,q,_,rfl,.of hq,tl,fun wh p H1 g1=>?_,fun nw H1 s1=>?_⟩
  ·rw[if_pos wh]at k
   refine⟨_,_,.inr g1.tup,a1f (j:=0) rfl,?_⟩
   refine⟨_,_,.inr g1.tup,a1f (j:=1) rfl,?_⟩
   exact⟨sz rfl,fun p2 H2 g2=>k p2 H2 (g1.sm.trans g2.sm) g2.at_⟩
  ·rw[if_neg nw]at k
   refine .inr (.inl ⟨o,dx,_,rfl,s1 _ _ ho,rfl,?_⟩)
   refine⟨o,q,_,rfl,.of (s1 _ _ hq),tl,fun bg p2 H2 g2=>?_,fun nb H2 s2=>?_⟩
   ·rw[if_pos bg]at k
    exact⟨sz rfl,fun p3 H3 g3=>k p3 H3 (s1.trans (g2.sm.trans g3.sm)) g3.at_⟩
   ·rw[if_neg nb]at k
    exact⟨sz rfl,fun p3 H3 g3=>k p3 H3 (s1.trans (s2.trans g3.sm)) g3.at_⟩
 | pr h =>
  obtain rfl:g=0:=pg
  have po:Po t H o h:=tn
  obtain⟨dx,ho⟩:=id po
  have l9:=dm.2
  dsimp only [lkA]at k
  refine .inr (.inr (.inl ⟨o,dx,_,rfl,ho,rfl,?_⟩))
  refine⟨o,q,h,_,rfl,po,.of hq,dm.1,by omega,fun n' en p H1 g1=>?_,fun en H1 s1=>?_⟩
  ·rw[en]at k
   refine⟨_,_,.inr g1.tup,a1f (j:=0) rfl,?_⟩
   refine⟨_,_,.inr g1.tup,a1f (j:=1) rfl,?_⟩
   exact⟨sz rfl,fun p2 H2 g2=>k p2 H2 (g1.sm.trans g2.sm) g2.at_⟩
  ·rw[en]at k
   dsimp only at k
   refine .inr (.inr (.inl ⟨o,dx,_,rfl,s1 _ _ ho,rfl,?_⟩))
   refine⟨o,q,h,_,rfl,po.mono s1,.of (s1 _ _ hq),dm.1,by omega,fun f ef p2 H2 g2=>?_,fun ef H2 s2=>?_⟩
   ·rw[if_neg (by rw[ef]; intro z; cases z)]at k
    exact⟨sz rfl,fun p3 H3 g3=>k p3 H3 (s1.trans (g2.sm.trans g3.sm)) g3.at_⟩
   ·rw[if_pos ef]at k
    exact⟨sz rfl,fun p3 H3 g3=>k p3 H3 (s1.trans (s2.trans g3.sm)) g3.at_⟩
 | sh f ns ms =>
  have two:Two g:=pg
  have tg:Tg t H o f ns ms:=tn
  dsimp only [lkA]at k
  refine .inr (.inr (.inr (.inl ⟨o,f.dx,_,rfl,tg.o,rfl,?_⟩)))
  refine⟨o,f,ns,ms,q,_,g,rfl,two,tg,hq,dm,fun hw=>?_,fun n g' hw p H1 g1=>?_⟩
  ·rw[hw]at k
   dsimp only at k
   refine .inr (.inr (.inr (.inl ⟨o,f.dx,_,rfl,tg.o,rfl,?_⟩)))
   refine⟨o,f,ns,ms,q,_,g,rfl,two,tg,hq,dm,fun hf H1 s1=>?_,fun hf p1 r2 H1 s1 _ _=>?_⟩
   ·rw[if_neg (by rw[hf]; decide)]at k
    exact⟨sz rfl,fun p2 H2 g2=>k p2 H2 (s1.trans g2.sm) g2.at_⟩
   ·rw[if_pos hf]at k
    exact⟨sz rfl,fun p2 H2 g2=>k p2 H2 (s1.trans g2.sm) g2.at_⟩
  ·rw[hw]at k
   refine⟨_,_,.inr g1.tup,a1f (j:=0) rfl,?_⟩
   refine⟨_,_,.inr g1.tup,a1f (j:=1) rfl,?_⟩
   exact⟨sz rfl,fun p2 H2 g2=>k p2 H2 (g1.sm.trans g2.sm) g2.at_⟩
 | tb f es =>
  obtain rfl:g=0:=pg
  obtain⟨tt,ok⟩:=id tn
  dsimp only [lkA]at k
  refine .inr (.inr (.inr (.inr ⟨o,f.dx,_,rfl,tt.o,rfl,?_⟩)))
  refine⟨o,f,es,q,_,0,rfl,tt,ok,hq,fun hnn H1 s1=>?_,fun e he hrow p H1 s1 hp=>?_⟩
  ·rw[show (es.find? fun e=>decide (e.2=r))=none from List.find?_eq_none.mpr fun e he=>by simpa using hnn e he]at k
   dsimp only at k
   refine .inr (.inr (.inr (.inr ⟨o,f.dx,_,rfl,(tt.mono s1).o,rfl,?_⟩)))
   refine⟨o,f,es,q,_,0,rfl,tt.mono s1,s1 _ _ hq,fun rt p2 H2 s2=>?_,fun nrt H2 s2=>?_⟩
   ·rw[if_pos rt]at k
    exact⟨sz rfl,fun p3 H3 g3=>k p3 H3 (s1.trans (s2.trans g3.sm)) g3.at_⟩
   ·rw[if_neg nrt]at k
    exact⟨sz rfl,fun p3 H3 g3=>k p3 H3 (s1.trans (s2.trans g3.sm)) g3.at_⟩
  ·have ef:(es.find? fun e=>decide (e.2=r))=some e:=by
    cases ef:es.find? fun e=>decide (e.2=r) with
    | none=>exact absurd (decide_eq_true hrow) (List.find?_eq_none.mp ef e he)
    | some e' =>
     have h':e'.2=r:=by simpa using List.find?_some ef
     rcases ok.two (List.mem_of_find?_eq_some ef) he with z | z
     ·rw[z]
     ·unfold e8a d2p at z
      rw[h',hrow]at z
      simp at z
   rw[ef]at k
   refine⟨_,_,.inr (.of hp),a1f (j:=0) rfl,?_⟩
   refine⟨_,_,.inr (.of hp),a1f (j:=1) rfl,?_⟩
   exact⟨sz rfl,fun p3 H3 g3=>k p3 H3 (s1.trans g3.sm) g3.at_⟩
theorem c0r (T:Txt w K mg t):b7o P w K mg base t.a5v "look" 7 t.a2t t.a4j ["self", "begun", "page"] [] (g4f t):=⟨T.b8d,T.d4b,⟨_,T.b1e,.nil⟩,d0j T⟩
theorem b5j (T:Txt w K mg t):b7o P w K mg base t.a2c "look" 7 t.a2t t.a4j ["self", "begun", "page"] [] (g4f t):=⟨T.a9w,T.mt_LeadTongue_look,⟨_,T.b1e,.nil⟩,d0j T⟩
theorem b5i (T:Txt w K mg t):b7o P w K mg base t.a1k "look" 7 t.a2t t.a4j ["self", "begun", "page"] [] (g4f t):=⟨T.a2s,T.mt_PairTongue_look,⟨_,T.b1e,.nil⟩,d0j T⟩
theorem b3m (T:Txt w K mg t):b7o P w K mg base t.a1a "look" 7 t.a2t t.a4j ["self", "begun", "page"] [] (g4f t):=⟨T.a1g,T.mt_ShiftTongue_look,⟨_,T.b1e,.nil⟩,d0j T⟩
theorem b3l (T:Txt w K mg t):b7o P w K mg base t.a1d "look" 7 t.a2t t.a4j ["self", "begun", "page"] [] (g4f t):=⟨T.a1q,T.mt_TableTongue_look,⟨_,T.b1e,.nil⟩,d0j T⟩
def g4e(u:Int):Sp:=fun vs H Q _=>∃ o:V,vs=[o]/\Q (.int u) H
theorem d6h (T:Txt w K mg t):b8g P w K mg base CX0 1 t.a3n t.a6q ["self"] (g4e 1):=by
 refine T.d8h.okQ d3v (fun vs H Q E h=>by obtain⟨o,rfl,_⟩:=h; rfl) fun cdv A outer s H vs Q E hr h=>?_
 obtain⟨o,rfl,k⟩:=h
 exact⟨_,(a0e (a0i a0g)),k⟩
theorem b3r (T:Txt w K mg t):c4v P w K mg base t.a5v "unit" 1 t.a3n t.a6q ["self"] (g4e 1):=⟨T.b8d,T.d4a,T.b4h,d6h T⟩
theorem a9i (T:Txt w K mg t):c4v P w K mg base t.a2c "unit" 1 t.a3n t.a6q ["self"] (g4e 1):=⟨T.a9w,T.mt_LeadTongue_unit,T.b4h,d6h T⟩
theorem a7m (T:Txt w K mg t):c4v P w K mg base t.a1a "unit" 1 t.a3n t.a6q ["self"] (g4e 1):=⟨T.a1g,T.mt_ShiftTongue_unit,T.b4h,d6h T⟩
theorem a7l (T:Txt w K mg t):c4v P w K mg base t.a1d "unit" 1 t.a3n t.a6q ["self"] (g4e 1):=⟨T.a1q,T.mt_TableTongue_unit,T.b4h,d6h T⟩
theorem a9h (T:Txt w K mg t):c4v P w K mg base t.a1k "unit" 1 t.b1v t.b1s ["self"] (g4e 2):=by
 refine⟨T.a2s,T.c5l,T.c7x,T.c8n.okQ c5i (fun vs H Q E h=>by obtain⟨o,rfl,_⟩:=h; rfl) fun cdv A outer s H vs Q E hr h=>?_⟩
 obtain⟨o,rfl,k⟩:=h
 exact⟨_,(a0e (a0i a0g)),k⟩
def KoS:Kt->Prop
 | .sh _ ns ms=>Okp ns/\Okp ms
 | .tb _ es=>Es es
 | _=>True
theorem TN.koS{H:Hp}{o:Addr}{D:Kt}(h:TN t H o D):KoS D:=by
 cases D with
 | sh f ns ms=>exact⟨Tg.k0 h,Tg.k1 h⟩
 | tb f es=>exact h.2
 | _=>exact trivial
theorem KoS.kok{D:Kt}(h:KoS D):Kok D:=by
 cases D with
 | tb f es=>exact h
 | _=>exact trivial
theorem g2r{D:Kt}{n:Int}(ok:KoS D)(h:InT D n):Sg n:=by
 cases D with
 | ld=>exact h
 | pr b=>exact h
 | sh f ns ms=>exact h.elim (ok.1.1 n) (ok.2.1 n)
 | tb f es =>
  obtain⟨e,he,rfl⟩:=h
  exact (Es.sg ok e he).1
 | br=>exact h.elim
theorem f9u{P:List Int}{n:Int}{i:Nat}(nd:P.Nodup)(h:P[i]? = some n):idx P n=some i:=by
 obtain⟨j,hj,_⟩:=b8r (List.mem_of_getElem? h)
 obtain⟨e1,e2⟩:=c0o hj
 rcases Nat.lt_trichotomy i j with c | c | c
 ·exact absurd h (e2 i c)
 ·rw[c]; exact hj
 ·obtain⟨a1,a2⟩:=List.getElem?_eq_some_iff.mp e1
  obtain⟨b1,b2⟩:=List.getElem?_eq_some_iff.mp h
  exact absurd (a2.trans b2.symm) (List.pairwise_iff_getElem.mp nd j i a1 b1 c)
theorem h0v{D:Kt}{g n g':Int}{r:List Int}(ok:KoS D)(pg:PgK D g)(dm:Dm D g r)(h:lkA D g r=.sg n g'):InT D n/\e2d D g n=(r,g')/\PgK D g':=by
 cases D with
 | br=>cases h
 | ld =>
  dsimp only [lkA]at h
  by_cases c:Whl r
  ·rw[if_pos c]at h
   cases h
   obtain⟨a,b⟩:=g0n c fun x hx=>(dm.1 x hx).1
   refine⟨a,?_,pg⟩
   show (row (car r),g)=_
   rw[b]
  ·rw[if_neg c]at h
   split at h <;> cases h
 | pr b =>
  dsimp only [lkA]at h
  cases e:whl b r with
  | some m =>
   rw[e]at h
   cases h
   obtain⟨a,e2⟩:=g0o b dm.1 e
   refine⟨a,?_,pg⟩
   show (e2p b n,g)=_
   rw[e2]
  | none =>
   rw[e]at h
   dsimp only at h
   split at h <;> cases h
 | sh f ns ms =>
  dsimp only [lkA]at h
  have two:Two g:=pg
  obtain⟨okP,okO⟩:=ok
  have oP:=e4p (g:=g) okP okO
  have oO:=e4p (g:=g) okO okP
  cases e:b3e (sel g ns ms) (sel g ms ns) g r with
  | none =>
   rw[e]at h
   dsimp only at h
   split at h <;> cases h
  | some z =>
   rw[e]at h
   obtain⟨m,gg⟩:=z
   cases h
   have inn : ∀ {x:Int},x∈sel g ns ms\/x∈sel g ms ns->x∈ns\/x∈ms:=fun {x} hx=>by
    rcases two with rfl | rfl
    ·exact hx
    ·exact hx.symm
   rcases dm with ⟨b,rfl,b0⟩ | ⟨c,rfl,c0⟩
   ·have e:((sel g ns ms)[b.toNat]?.map fun n=>(n,g))=some (n,g'):=e
    obtain⟨m,hm,e2⟩:=Option.map_eq_some_iff.mp e
    cases e2
    refine⟨inn (.inl (List.mem_of_getElem? hm)),?_,pg⟩
    show (b8l (sel g ns ms) (sel g ms ns) g (.int n)).getD _=_
    unfold b8l
    dsimp only
    rw[f9u oP.2.1 hm]
    show (([(b.toNat:Int)],g):List Int × Int)=_
    rw[Int.toNat_of_nonneg b0]
   ·have e:(match (sel g ms ns)[c.toNat]? with | some n=>if n∈sel g ns ms then none else some (n,1 - g) | none=>none)=some (n,g'):=e
    cases hm:(sel g ms ns)[c.toNat]? with
    | none=>rw[hm]at e; cases e
    | some m =>
     rw[hm]at e
     dsimp only at e
     by_cases hp:m∈sel g ns ms
     ·rw[if_pos hp]at e; cases e
     ·rw[if_neg hp]at e
      cases e
      refine⟨inn (.inr (List.mem_of_getElem? hm)),?_,two.flip⟩
      show (b8l (sel g ns ms) (sel g ms ns) g (.int n)).getD _=_
      unfold b8l
      dsimp only
      rw[a9y.mpr hp]
      dsimp only
      rw[f9u oO.2.1 hm]
      show (([254+(1 - g),(c.toNat:Int)],1 - g):List Int × Int)=_
      rw[Int.toNat_of_nonneg c0]
 | tb f es =>
  dsimp only [lkA]at h
  cases e:es.find? fun e=>decide (e.2=r) with
  | none =>
   rw[e]at h
   dsimp only at h
   split at h <;> cases h
  | some x =>
   rw[e]at h
   cases h
   have hx:=List.mem_of_find?_eq_some e
   have hr:x.2=r:=by simpa using List.find?_some e
   refine⟨⟨x,hx,rfl⟩,?_,pg⟩
   obtain⟨y,hy,ey,ef⟩:=c7l (es:=es) (n:=x.1) ⟨x,hx,rfl⟩
   have yx:y=x:=by
    rcases Es.two ok hy hx with z | z
    ·exact z
    ·unfold e8a at z
     rw[decide_eq_true ey]at z
     cases z
   show (Option.map _ _).getD _=_
   rw[ef,yx,<- hr]
   rfl
def Bgn:Kt->Int->List Int->Prop
 | .ld,_,r=>b5u r/\r.length<=4
 | .pr _,_,r=>b5u r/\r.length<=3
 | .sh _ _ _,g,r=>r=[]\/r=[254+(1 - g)]
 | .tb _ _,_,r=>b5u r/\r.length<=6
 | .br,_,r=>r=[]
def unt:Kt->Nat
 | .pr _=>2
 | _=>1
theorem Bgn.nil(D:Kt)(g:Int):Bgn D g []:=by
 cases D with
 | ld=>exact⟨(fun _ h=>nomatch h),Nat.zero_le _⟩
 | pr b=>exact⟨(fun _ h=>nomatch h),Nat.zero_le _⟩
 | sh f ns ms=>exact .inl rfl
 | tb f es=>exact⟨(fun _ h=>nomatch h),Nat.zero_le _⟩
 | br=>rfl
theorem Bgn.byts{D:Kt}{g:Int}{r:List Int}(pg:PgK D g)(h:Bgn D g r):b5u r/\r.length<=6:=by
 cases D with
 | ld=>exact⟨h.1,by have:=h.2; omega⟩
 | pr b=>exact⟨h.1,by have:=h.2; omega⟩
 | sh f ns ms =>
  have two:Two g:=pg
  rcases h with rfl | rfl
  ·exact⟨(fun _ h=>nomatch h),Nat.zero_le _⟩
  ·refine⟨fun x hx=>?_,by show 1<=6; decide⟩
   rw[List.mem_singleton.mp hx]
   rcases two with rfl | rfl <;> decide
 | tb f es=>exact h
 | br =>
  obtain rfl:r=[]:=h
  exact⟨(fun _ h=>nomatch h),Nat.zero_le _⟩
theorem b1d{r:List Int}{b:Int}(h:b5u r)(b0:0<=b)(b1:b<=255):b5u (r++[b]):=fun x hx=>by
 rcases List.mem_append.mp hx with z | z
 ·exact h x z
 ·rw[List.mem_singleton.mp z]; exact⟨b0,b1⟩
theorem e3h{D:Kt}{g:Int}{r:List Int}{b:Int}(h:Bgn D g r)(b0:0<=b)(b1:b<=255):Dm D g (r++[b]):=by
 cases D with
 | ld=>exact⟨b1d h.1 b0 b1,by have:=h.2; rw[List.length_append]; show _+1<=_; omega⟩
 | pr c=>exact⟨b1d h.1 b0 b1,by have:=h.2; rw[List.length_append]; show _+1<=_; omega⟩
 | sh f ns ms =>
  rcases h with rfl | rfl
  ·exact .inl ⟨b,rfl,b0⟩
  ·exact .inr ⟨b,rfl,b0⟩
 | tb f es=>exact b1d h.1 b0 b1
 | br=>exact trivial
theorem e3i{D:Kt}{g:Int}{r:List Int}{b:Int}(h:Bgn D g r)(b0:0<=b)(b1:b<=255):Dm D g ((r++[b]).drop ((r++[b]).length - unt D)):=by
 have one:(r++[b]).drop ((r++[b]).length - 1)=[b]:=by rw[List.length_append]; simp
 have bb:b5u [b]:=fun x hx=>by rw[List.mem_singleton.mp hx]; exact⟨b0,b1⟩
 cases D with
 | ld=>show b5u _/\_; rw[show unt .ld=1 from rfl,one]; exact⟨bb,by show 1<=9; decide⟩
 | pr c=>exact⟨fun x hx=>b1d h.1 b0 b1 x (List.mem_of_mem_drop hx),by have:=h.2; rw[List.length_drop,List.length_append]; show _+1 - _<=_; omega⟩
 | sh f ns ms=>show f8y _ _; rw[show unt (.sh f ns ms)=1 from rfl,one]; exact .inl ⟨b,rfl,b0⟩
 | tb f es=>show b5u _; rw[show unt (.tb f es)=1 from rfl,one]; exact bb
 | br=>exact trivial
theorem h5u(h:Bool){r:List Int}(l:r.length=4)(e:whl h r=none):fil h r=none:=by
 unfold fil
 refine List.find?_eq_none.mpr fun f hf=>?_
 rw[Bool.not_eq_true,Option.isSome_eq_false_iff,Option.isNone_iff_eq_none]
 by_cases c:f=[]
 ·rw[c,List.append_nil]; exact e
 ·unfold whl
  have:1<=f.length:=List.length_pos_iff.mpr c
  rw[if_neg (by rw[List.length_append,l]; omega)]
theorem f9q{D:Kt}{g:Int}{r:List Int}(ok:KoS D)(dm:Dm D g r)(ev:r.length%unt D=0)(l5:r.length<=4\/∀ h,D ≠ .pr h)(h:lkA D g r=.mo):Bgn D g r:=by
 cases D with
 | br=>cases h
 | ld =>
  dsimp only [lkA]at h
  refine⟨dm.1,?_⟩
  split at h
  ·cases h
  split at h
  ·rename_i bg
   cases r with
   | nil=>exact Nat.zero_le _
   | cons f r =>
    have bg:Beg f r:=bg
    have:=bg.1
    have:=(f7m f).2
    rw[List.length_cons]
    omega
  ·cases h
 | pr b =>
  dsimp only [lkA]at h
  refine⟨dm.1,?_⟩
  have ev:r.length%2=0:=ev
  cases e:whl b r with
  | some m=>rw[e]at h; cases h
  | none =>
   rw[e]at h
   dsimp only at h
   rcases l5 with l5 | l5
   ·by_cases c:r.length=4
    ·rw[if_pos (h5u b c e)]at h; cases h
    ·omega
   ·exact absurd rfl (l5 b)
 | sh f ns ms =>
  dsimp only [lkA]at h
  rcases dm with ⟨b,rfl,b0⟩ | ⟨c,rfl,c0⟩
  ·have lk:=h0u (P:=sel g ns ms) (O:=sel g ms ns) (g:=g) b0
   unfold e2t at lk
   cases e:b3e (sel g ns ms) (sel g ms ns) g [b] with
   | some z=>rw[e]at h; cases h
   | none =>
    rw[e]at h lk
    dsimp only at h lk
    by_cases c:f2v (sel g ns ms) (sel g ms ns) g [b]=true
    ·rw[if_pos c]at lk
     cases e2:(sel g ns ms)[b.toNat]? with
     | some n=>rw[e2]at lk; cases lk
     | none =>
      rw[e2]at lk
      dsimp only at lk
      by_cases c2:b=254+(1 - g)/\c3a (sel g ms ns) (sel g ns ms)≠[]
      ·exact .inr (by rw[c2.1])
      ·rw[if_neg c2]at lk; cases lk
    ·rw[if_neg c]at h; cases h
  ·have lk:=h0t (P:=sel g ns ms) (O:=sel g ms ns) (g:=g) c0
   unfold e2t at lk
   cases e:b3e (sel g ns ms) (sel g ms ns) g [254+(1 - g),c] with
   | some z=>rw[e]at h; cases h
   | none =>
    rw[e]at h lk
    dsimp only at h lk
    by_cases d:f2v (sel g ns ms) (sel g ms ns) g [254+(1 - g),c]=true
    ·rw[if_pos d]at lk
     split at lk <;> cases lk
    ·rw[if_neg d]at h; cases h
 | tb f es =>
  dsimp only [lkA]at h
  refine⟨dm,?_⟩
  split at h
  ·cases h
  split at h
  ·rename_i rt
   obtain⟨e,he,m,hm,rfl⟩:=rt
   have:=(Es.sg ok e he).2.2.1
   rw[List.length_take]
   omega
  ·cases h
inductive Ev where
 | sg (n:Int)
 | ft (p l:Nat) (k:Str) (bs:List Int)
inductive Wy where
 | lv
 | pt (n:Int)
 | se
def tlB:Wy->List Int->List Int
 | .lv,_=>[]
 | .pt n,_=>[n]
 | .se,bs=>bs.map fun b=>61184+b
def tl1(W:Wy):Ev->List Int
 | .sg n=>[n]
 | .ft _ _ _ bs=>tlB W bs
def tld(W:Wy)(es:List Ev):List Int:=es.flatMap (tl1 W)
def fts:List Ev->List (Nat × Nat × Str)
 | []=>[]
 | .sg _ :: es=>fts es
 | .ft p l k _ :: es=>(p,l,k) :: fts es
theorem b8s : ∀ xs ys:List Ev,fts (xs++ys)=fts xs++fts ys
 | [],_=>rfl
 | .sg n :: xs,ys=>b8s xs ys
 | .ft p l k bs :: xs,ys=>by show (p,l,k) :: fts (xs++ys)=_; rw[b8s xs ys]; rfl
theorem b8k(W:Wy)(xs ys:List Ev):tld W (xs++ys)=tld W xs++tld W ys:=List.flatMap_append ..
noncomputable def lkO(D:Kt)(g:Int)(c:Nat)(r:List Int):Int × List Int × List Ev:=match lkA D g r with
 | .sg n g'=>(g',[],[.sg n])
 | .mo=>(g,r,[])
 | .no=>(g,[],[.ft (c - r.length) r.length "strange" r])
noncomputable def lkN(D:Kt)(g:Int)(c:Nat)(r:List Int):Int × List Int × List Ev:=match lkA D g r with
 | .sg n g'=>(g',[],[.sg n])
 | .mo=>(g,r,[])
 | .no=>((lkO D g c (r.drop (r.length - unt D))).1,(lkO D g c (r.drop (r.length - unt D))).2.1,.ft (c - r.length) (r.length - unt D) "broken" (r.take (r.length - unt D)) :: (lkO D g c (r.drop (r.length - unt D))).2.2)
noncomputable def stp(D:Kt)(g:Int)(r:List Int)(c:Nat)(b:Int):Int × List Int × List Ev :=
 if (r++[b]).length%unt D=0 then (if (r++[b]).length=unt D then lkO D g c (r++[b]) else lkN D g c (r++[b])) else (g,r++[b],[])
noncomputable def run(D:Kt):Int->List Int->Nat->List Int->Int × List Int × List Ev
 | g,r,_,[]=>(g,r,[])
 | g,r,c,b :: bs=>((run D (stp D g r (c+1) b).1 (stp D g r (c+1) b).2.1 (c+1) bs).1,(run D (stp D g r (c+1) b).1 (stp D g r (c+1) b).2.1 (c+1) bs).2.1,(stp D g r (c+1) b).2.2++(run D (stp D g r (c+1) b).1 (stp D g r (c+1) b).2.1 (c+1) bs).2.2)
theorem e4r(D:Kt)(b:Int) : ∀ (bs:List Int) (g:Int) (r:List Int) (c:Nat),run D g r c (bs++[b])=((stp D (run D g r c bs).1 (run D g r c bs).2.1 (c+bs.length+1) b).1,(stp D (run D g r c bs).1 (run D g r c bs).2.1 (c+bs.length+1) b).2.1,(run D g r c bs).2.2++(stp D (run D g r c bs).1 (run D g r c bs).2.1 (c+bs.length+1) b).2.2)
 | [],g,r,c=>by simp[run]
 | a :: bs,g,r,c=>by
  show run D g r c (a :: (bs++[b]))=_
  simp only [run]
  rw[e4r D b bs]
  simp[Nat.add_assoc,Nat.add_comm 1,Nat.add_left_comm]
theorem e9u(D:Kt) : ∀ (bs ds:List Int) (g:Int) (r:List Int) (c:Nat),run D g r c (bs++ds)=((run D (run D g r c bs).1 (run D g r c bs).2.1 (c+bs.length) ds).1,(run D (run D g r c bs).1 (run D g r c bs).2.1 (c+bs.length) ds).2.1,(run D g r c bs).2.2++(run D (run D g r c bs).1 (run D g r c bs).2.1 (c+bs.length) ds).2.2)
 | [],ds,g,r,c=>by simp[run]
 | a :: bs,ds,g,r,c=>by
  show run D g r c (a :: (bs++ds))=_
  simp only [run]
  rw[e9u D bs]
  simp[Nat.add_assoc,Nat.add_comm 1]
def Ok1(D:Kt):Ev->Prop
 | .sg n=>InT D n
 | .ft _ l _ bs=>b5u bs/\bs.length=l
def spS(D:Kt)(g x:Int):List Int × Int:=if 61184<=x/\x<=61439 then ([x - 61184],g) else e2d D g x
def wrS(D:Kt)(g:Int)(xs:List Int):List Int × Int:=xs.foldl (fun a n=>(a.1++(spS D a.2 n).1,(spS D a.2 n).2)) ([],g)
theorem e1s(D:Kt) : ∀ (ts:List Int) (row:List Int) (g:Int),ts.foldl (fun a n=>(a.1++(spS D a.2 n).1,(spS D a.2 n).2)) (row,g)=(row++(wrS D g ts).1,(wrS D g ts).2)
 | [],row,g=>by simp[wrS]
 | n :: ts,row,g=>by
  rw[List.foldl_cons,e1s D ts]
  have e:wrS D g (n :: ts)=((spS D g n).1++(wrS D (spS D g n).2 ts).1,(wrS D (spS D g n).2 ts).2):=by
   show List.foldl _ _ (n :: ts)=_
   rw[List.foldl_cons,e1s D ts]
   simp
  rw[e,List.append_assoc]
theorem b8i(D:Kt)(g:Int)(xs ys:List Int):wrS D g (xs++ys)=((wrS D g xs).1++(wrS D (wrS D g xs).2 ys).1,(wrS D (wrS D g xs).2 ys).2):=by
 show List.foldl _ _ (xs++ys)=_
 rw[List.foldl_append]
 exact e1s D ys _ _
theorem d5r(D:Kt)(g n:Int):wrS D g [n]=spS D g n:=by simp[wrS]
theorem c5d(D:Kt)(g:Int) : ∀ bs:List Int,b5u bs->wrS D g (bs.map fun b=>61184+b)=(bs,g)
 | [],_=>rfl
 | b :: bs,h=>by
  have hb:=h b (List.mem_cons_self ..)
  have e:(b :: bs).map (fun b=>61184+b)=[61184+b]++bs.map fun b=>61184+b:=rfl
  rw[e,b8i,d5r]
  unfold spS
  rw[if_pos (by omega),c5d D g bs fun x hx=>h x (List.mem_cons_of_mem _ hx)]
  simp
  omega
theorem g5b{D:Kt}{g n:Int}(h:Sg n):spS D g n=e2d D g n:=by
 unfold spS
 rw[if_neg (fun z=>h.2.2.2 z)]
def h2d(D:Kt)(g:Int)(r:List Int)(z:Int × List Int × List Ev):Prop:=PgK D z.1/\Bgn D z.1 z.2.1/\(wrS D g (tld .se z.2.2)).1++z.2.1=r/\(wrS D g (tld .se z.2.2)).2=z.1/\(∀ e∈z.2.2,Ok1 D e)/\z.2.2.length<=2
theorem f1z{D:Kt}{g n g':Int}{r:List Int}(ok:KoS D)(pg:PgK D g)(dm:Dm D g r)(h:lkA D g r=.sg n g'):h2d D g r (g',[],[.sg n]):=by
 obtain⟨a,b,c⟩:=h0v ok pg dm h
 have e:wrS D g (tld .se [.sg n])=(r,g'):=by
  show wrS D g [n]=_
  rw[d5r,g5b (g2r ok a),b]
 refine⟨c,Bgn.nil _ _,by rw[e,List.append_nil],by rw[e],fun x hx=>?_,by show 1<=2; decide⟩
 rw[List.mem_singleton.mp hx]; exact a
theorem f9w{D:Kt}{g:Int}{r:List Int}(c:Nat)(ok:KoS D)(pg:PgK D g)(dm:Dm D g r)(by':b5u r)(ev:r.length%unt D=0)(l5:r.length<=4\/∀ h,D ≠ .pr h):h2d D g r (lkO D g c r)/\(lkO D g c r).2.2.length<=1:=by
 unfold lkO
 cases e:lkA D g r with
 | sg n g'=>exact⟨f1z ok pg dm e,by show 1<=1; decide⟩
 | mo=>exact⟨⟨pg,f9q ok dm ev l5 e,rfl,rfl,(fun _ h=>nomatch h),by show 0<=2; decide⟩,by show 0<=1; decide⟩
 | no =>
  have e2:wrS D g (tld .se [.ft (c - r.length) r.length "strange" r])=(r,g):=by
   show wrS D g ((r.map fun b=>61184+b)++[])=_
   rw[List.append_nil,c5d D g r by']
  refine⟨⟨pg,Bgn.nil _ _,by rw[e2,List.append_nil],by rw[e2],fun x hx=>?_,by show 1<=2; decide⟩,by show 1<=1; decide⟩
  rw[List.mem_singleton.mp hx]; exact⟨by',rfl⟩
theorem e5f{D:Kt}{g:Int}{r:List Int}(c:Nat){b:Int}(ok:KoS D)(pg:PgK D g)(bg:Bgn D g r)(b0:0<=b)(b1:b<=255):h2d D g (r++[b]) (stp D g r c b):=by
 obtain⟨by0,l6⟩:=bg.byts pg
 have by1:=b1d by0 b0 b1
 have dm:=e3h bg b0 b1
 have l5:(r++[b]).length<=4\/∀ h,D ≠ .pr h:=by
  cases D with
  | pr h=>exact .inl (by rw[List.length_append]; have:=bg.2; show _+1<=4; omega)
  | _=>exact .inr (fun h z=>by cases z)
 unfold stp
 by_cases ev:(r++[b]).length%unt D=0
 ·rw[if_pos ev]
  by_cases one:(r++[b]).length=unt D
  ·rw[if_pos one]
   exact (f9w c ok pg dm by1 ev l5).1
  ·rw[if_neg one]
   unfold lkN
   cases e:lkA D g (r++[b]) with
   | sg n g'=>exact f1z ok pg dm e
   | mo=>exact⟨pg,f9q ok dm ev l5 e,rfl,rfl,(fun _ h=>nomatch h),by show 0<=2; decide⟩
   | no =>
    have u1:1<=unt D/\unt D<=2:=by cases D <;> simp[unt]
    have ln:(r++[b]).length=r.length+1:=by rw[List.length_append]; rfl
    have lu:unt D<=(r++[b]).length:=by
     rcases Nat.lt_or_ge (r++[b]).length (unt D) with z | z
     ·rw[Nat.mod_eq_of_lt z]at ev; omega
     ·exact z
    have ld:((r++[b]).drop ((r++[b]).length - unt D)).length=unt D:=by rw[List.length_drop]; omega
    obtain⟨⟨h1,h2,h3,h4,h5,h6⟩,h7⟩:=f9w (r:=(r++[b]).drop ((r++[b]).length - unt D)) c ok pg (e3i bg b0 b1) (fun x hx=>by1 x (List.mem_of_mem_drop hx)) (by rw[ld,Nat.mod_self]) (.inl (by rw[ld]; omega))
    have by2:b5u ((r++[b]).take ((r++[b]).length - unt D)):=fun x hx=>by1 x (List.mem_of_mem_take hx)
    have et : ∀ (p l:Nat) (k:Str) (bs:List Int) (es:List Ev),b5u bs->wrS D g (tld .se (.ft p l k bs :: es))=(bs++(wrS D g (tld .se es)).1,(wrS D g (tld .se es)).2):=fun p l k bs es hb=>by
     show wrS D g ((bs.map fun b=>61184+b)++tld .se es)=_
     rw[b8i,c5d D g bs hb]
    refine⟨h1,h2,?_,?_,fun x hx=>?_,?_⟩
    ·dsimp only
     rw[et _ _ _ _ _ by2,List.append_assoc,h3,List.take_append_drop]
    ·dsimp only
     rw[et _ _ _ _ _ by2,h4]
    ·rcases List.mem_cons.mp hx with rfl | hx
     ·exact⟨by2,by rw[List.length_take]; omega⟩
     ·exact h5 x hx
    ·dsimp only
     rw[List.length_cons]
     omega
 ·rw[if_neg ev]
  refine⟨pg,?_,rfl,rfl,(fun _ h=>nomatch h),by show 0<=2; decide⟩
  have ln:(r++[b]).length=r.length+1:=by rw[List.length_append]; rfl
  cases D with
  | pr h =>
   have ev : ¬ (r++[b]).length%2=0:=ev
   refine⟨by1,?_⟩
   have:=bg.2
   dsimp only
   omega
  | _=>exact absurd (Nat.mod_one _) ev
theorem b3s{D:Kt}(ok:KoS D) : ∀ (bs:List Int) (g:Int) (r:List Int) (c:Nat),PgK D g->Bgn D g r->b5u bs->PgK D (run D g r c bs).1/\Bgn D (run D g r c bs).1 (run D g r c bs).2.1/\(wrS D g (tld .se (run D g r c bs).2.2)).1++(run D g r c bs).2.1=r++bs/\(wrS D g (tld .se (run D g r c bs).2.2)).2=(run D g r c bs).1/\(∀ e∈(run D g r c bs).2.2,Ok1 D e)/\(run D g r c bs).2.2.length<=2*bs.length
 | [],g,r,c,pg,bg,_=>⟨pg,bg,by simp[run,tld,wrS],rfl,(fun _ h=>nomatch h),Nat.le_refl _⟩
 | b :: bs,g,r,c,pg,bg,hb=>by
  have h:=hb b (List.mem_cons_self ..)
  obtain⟨h1,h2,h3,h4,h5,h6⟩:=e5f (c+1) ok pg bg h.1 h.2
  obtain⟨k1,k2,k3,k4,k5,k6⟩:=b3s ok bs _ _ (c+1) h1 h2 fun x hx=>hb x (List.mem_cons_of_mem _ hx)
  simp only [run]
  refine⟨k1,k2,?_,?_,fun e he=>?_,?_⟩
  ·rw[b8k,b8i]
   dsimp only
   rw[h4,List.append_assoc,k3,<- List.append_assoc,h3,List.append_assoc]
   rfl
  ·rw[b8k,b8i]
   dsimp only
   rw[h4,k4]
  ·rcases List.mem_append.mp he with z | z
   ·exact h5 e z
   ·exact k5 e z
  ·rw[List.length_append,List.length_cons]
   omega
theorem Kp.free{x b:Addr}{H H':Hp}{o:HO}(k:Kp x H H')(hx:H' x=some o)(n:H' b=none):H b=none:=by
 cases e:H b with
 | none=>rfl
 | some u =>
  have:=k b u (fun z=>by rw[z,hx]at n; cases n) e
  rw[n]at this; cases this
abbrev RdO(t:Adr)(dx o b mt y:Addr)(g:Int)(c:Nat)(e:Bool):HO:=.ins t.a0p dx [("tongue",.ref o),("place",.int 0),("at_page",.int g),("begun",.ref b),("many",.int (c:Int)),("met",.ref mt),("ended",.bl e),("way",.ref y)]
def g0x(t:Adr):Sp:=fun vs H Q _=>∃ (x dx o:Addr),vs=[.ref x,.ref o,.int 0]/\H x=some (.ins t.a0p dx [])/\∀ b mt H',H b=none->H mt=none->b≠mt->Kp x H H'->H' x=some (.ins t.a0p dx [("tongue",.ref o),("place",.int 0),("at_page",.int 0),("begun",.ref b),("many",.int 0),("met",.ref mt),("ended",.bl false)])->H' b=some (.lst [])->H' mt=some (.lst [])->Q .non H'
theorem f1m (T:Txt w K mg t):h2b P w K mg base 1 t.c0d t.b3u ["self", "tongue", "place"] [] (g0x t):=by
 refine⟨T.c6v.kp,⟨_,T.d7z,.nil⟩,T.c6v.okQ d3z (fun vs H Q E h=>by obtain⟨x,dx,o,rfl,_⟩:=h; rfl) fun cdv A outer s H vs Q E hr h=>?_⟩
 obtain⟨x,dx,o,rfl,hx,k⟩:=h
 refine⟨_,(a0b (a1w (K:=K) rfl (a0h 0) (a0h 1))
  (a0b (a1w (K:=K) rfl (a0h 0) (a0h 2))
  (a0b (a1w (K:=K) rfl (a0h 0) a0g)
  (a0b (a1w (K:=K) rfl (a0h 0) (a0y a0a))
  (a0b (a1w (K:=K) rfl (a0h 0) a0g)
  (a0b (a1w (K:=K) rfl (a0h 0) (a0y a0a))
  (a0e (a1w (K:=K) rfl (a0h 0) b5d)))))))),?_⟩
 refine⟨x,_,dx,_,rfl,hx,T.a0d,T.a0m,Nat.lt_of_lt_of_le Nat.zero_lt_one (by decide),?_⟩
 refine⟨x,_,dx,_,rfl,a0v,T.a0d,T.b3j,Nat.lt_of_lt_of_le (Nat.lt_succ_self 1) (by decide),?_⟩
 refine⟨x,_,dx,_,rfl,a0v,T.a0d,T.a1i,Nat.lt_of_lt_of_le (Nat.lt_succ_self 2) (by decide),?_⟩
 refine⟨sz rfl,fun b H1 g1=>?_⟩
 have nb:H b=none:=Kp.free (x:=x) (Kp.trans Kp.upd (Kp.trans Kp.upd Kp.upd)) a0v g1.nw
 have k1:Kp x H H1:=Kp.trans (Kp.trans Kp.upd (Kp.trans Kp.upd Kp.upd)) (Kp.of g1.sm)
 have nxb:b≠x:=fun z=>by rw[z,hx]at nb; cases nb
 have h1:=g1.sm x _ a0v
 refine⟨x,_,dx,_,rfl,h1,T.a0d,T.a0k,Nat.lt_of_lt_of_le (Nat.lt_succ_self 3) (by decide),?_⟩
 refine⟨x,_,dx,_,rfl,a0v,T.a0d,T.a6m,Nat.lt_of_lt_of_le (Nat.lt_succ_self 4) (by decide),?_⟩
 refine⟨sz rfl,fun mt H2 g2=>?_⟩
 have nm:H mt=none:=Kp.free (x:=x) (k1.trans (Kp.trans Kp.upd Kp.upd)) a0v g2.nw
 have k3:Kp x H H2:=Kp.trans (k1.trans (Kp.trans Kp.upd Kp.upd)) (Kp.of g2.sm)
 have b2:H2 b=some (.lst []):=g2.sm _ _ (by rw[a1c nxb,a1c nxb]; exact g1.at_)
 have nbm:b≠mt:=a0l (by rw[a1c nxb,a1c nxb]; exact g1.at_) g2.nw
 have nxm:mt≠x:=fun z=>by rw[z,hx]at nm; cases nm
 have h2:=g2.sm x _ a0v
 refine⟨x,_,dx,_,rfl,h2,T.a0d,T.b0y,Nat.lt_of_lt_of_le (Nat.lt_succ_self 5) (by decide),?_⟩
 refine⟨x,_,dx,_,rfl,a0v,T.a0d,T.a4g,Nat.lt_of_lt_of_le (Nat.lt_succ_self 6) (by decide),?_⟩
 exact k b mt _ nb nm nbm (k3.trans (Kp.upd.trans Kp.upd)) (by rw[a0v]; rfl) (by rw[a1c nxb,a1c nxb]; exact b2) (by rw[a1c nxm,a1c nxm]; exact g2.at_)
def e2e(t:Adr):Sp:=fun vs H Q _=>∃ (x dx o y:Addr),vs=[.ref x,.ref o,.ref y,.int 0]/\H x=some (.ins t.a0p dx [])/\∀ b mt H',H b=none->H mt=none->b≠mt->Kp x H H'->H' x=some (RdO t dx o b mt y 0 0 false)->H' b=some (.lst [])->H' mt=some (.lst [])->Q .non H'
theorem e4z (T:Txt w K mg t):b8g P w K mg base CX0 2 t.a5q t.a4d ["self", "tongue", "way", "place"] (e2e t):=by
 refine T.c7a.okQ c3k (fun vs H Q E h=>by obtain⟨x,dx,o,y,rfl,_⟩:=h; rfl) fun cdv A outer s H vs Q E hr h=>?_
 obtain⟨x,dx,o,y,rfl,hx,k⟩:=h
 refine⟨_,(a0b (a2n (f0d (K:=K) rfl T.f4c T.f2c (f1m T) hr (a0c (a0h 0) (a0c (a0h 1) (a0c (a0h 3) a0a)))))
  (a0e (a1w (K:=K) rfl (a0h 0) (a0h 2)))),?_⟩
 refine⟨x,dx,o,rfl,hx,fun b mt H1 nb nm nbm k1 hx1 hb1 hm1=>?_⟩
 have nxb:b≠x:=fun z=>by rw[z,hx]at nb; cases nb
 have nxm:mt≠x:=fun z=>by rw[z,hx]at nm; cases nm
 refine⟨x,_,dx,_,rfl,hx1,T.a0d,T.a2x,Nat.lt_of_lt_of_le (Nat.lt_succ_self 7) (by decide),?_⟩
 exact k b mt _ nb nm nbm (k1.trans Kp.upd) (by rw[a0v]; rfl) (by rw[a1c nxb]; exact hb1) (by rw[a1c nxm]; exact hm1)
theorem c0h (T:Txt w K mg t):d8f P w K mg base "GoingReader" t.a0p 2 t.a5q t.a4d ["self", "tongue", "way", "place"] [.int 0] (e2e t):=⟨T.c2z,T.c2x,⟨_,T.c4i,.cons ⟨_,rfl⟩ .nil⟩,e4z T⟩
theorem c9k (T:Txt w K mg t):d8f P w K mg base "GoingReader" t.a0p 2 t.a5q t.a4d ["self", "tongue", "way", "place"] [] (e2e t):=⟨T.c2z,T.c2x,⟨[],T.c6l,.nil⟩,e4z T⟩
def WyA(t:Adr)(H:Hp)(y:Addr):Wy->Prop
 | .lv=>∃ dx,H y=some (.ins t.b3c dx [])
 | .pt n=>∃ dx,H y=some (.ins t.b8e dx [("sign",.int n)])
 | .se=>∃ dx,H y=some (.ins t.c9m dx [])
theorem WyA.mono{H H':Hp}{y:Addr}{W:Wy}(h:WyA t H y W)(s:a1l H H'):WyA t H' y W:=by
 cases W <;> exact let ⟨dx,z⟩:=h; ⟨dx,s _ _ z⟩
def f5x(t:Adr):Sp:=fun vs H Q _=>∃ (x dx:Addr) (n:Int),vs=[.ref x,.int n]/\H x=some (.ins t.b8e dx [])/\Q .non (upd H x (.ins t.b8e dx [("sign",.int n)]))
theorem f7r (T:Txt w K mg t):d8f P w K mg base "Put" t.b8e 1 t.c8l t.c2c ["self", "sign"] [] (f5x t):=⟨T.g8c,T.g6v,⟨[],T.e8n,.nil⟩,by
 refine T.e8t.okQ e2j (fun vs H Q E h=>by obtain⟨x,dx,n,rfl,_⟩:=h; rfl) fun cdv A outer s H vs Q E hr h=>?_
 obtain⟨x,dx,n,rfl,hx,k⟩:=h
 exact⟨_,(a0e (a1w (K:=K) rfl (a0h 0) (a0h 1))),x,_,dx,_,rfl,hx,T.e3m,T.d0k,by decide,k⟩⟩
def g9m(K:PySem.W.Frag)(t:Adr)(W:Wy->Prop):Sp:=fun vs H Q _=>∃ (y a:Addr) (V':Wy) (bs:List Int),vs=[.ref y,.ref a]/\WyA t H y V'/\W V'/\SqL K H a (bs.map V.int)/\bs.length<=1000/\∀ p H',Gro H p (.lst ((tlB V' bs).map V.int)) H'->Q (.ref p) H'
theorem c8x (T:Txt w K mg t):c4v P w K mg base t.b3c "told" 1 t.c8i t.c7t ["self", "row"] (g9m K t fun W=>W=.lv):=by
 refine⟨T.f3q,T.mt_Leave_told,T.e8k,T.e8q.okQ e2g (fun vs H Q E h=>by obtain⟨y,a,W,bs,rfl,_⟩:=h; rfl) fun cdv A outer s H vs Q E hr h=>?_⟩
 obtain⟨y,a,W,bs,rfl,wy,rfl,ha,hl,k⟩:=h
 exact⟨_,(a0e (a0i (a0y a0a))),sz rfl,k⟩
theorem d5d (T:Txt w K mg t):c4v P w K mg base t.b8e "told" 1 t.c8k t.c7v ["self", "row"] (g9m K t fun W=>∃ n,W=.pt n):=by
 refine⟨T.e3m,T.e2r,T.e8m,T.e8s.okQ e2i (fun vs H Q E h=>by obtain⟨y,a,W,bs,rfl,_⟩:=h; rfl) fun cdv A outer s H vs Q E hr h=>?_⟩
 obtain⟨y,a,W,bs,rfl,wy,⟨n,rfl⟩,ha,hl,k⟩:=h
 obtain⟨dx,hy⟩:=wy
 exact⟨_,(a0e (a0i (a0y (a0c (a0z (K:=K) rfl (a0h 0)) a0a)))),y,_,dx,_,_,rfl,hy,T.e3m,T.d0k,rfl,sz rfl,k⟩
theorem d5c (T:Txt w K mg t):c4v P w K mg base t.c9m "told" 1 t.c8j t.c7u ["self", "row"] (g9m K t fun W=>W=.se):=by
 refine⟨T.g3o,T.e2q,T.e8l,T.e8r.okQ e2h (fun vs H Q E h=>by obtain⟨y,a,W,bs,rfl,_⟩:=h; rfl) fun cdv A outer s H vs Q E hr h=>?_⟩
 obtain⟨y,a,W,bs,rfl,wy,rfl,ha,hl,k⟩:=h
 refine⟨_,(a0e (a0i (a6b rfl (a2b.of (fns:=(a0f b1o).names) (N:=["self", "row"]) (Nc:=["byte"]) (nv:=1) (caps:=[]) rfl rfl (by decide +kernel)) (a2q (K:=K) rfl (a0h 1)) (fun _ _ _ _=>(a0x (i:=0) (show List.Nodup (["byte"]:List Str) by decide +kernel) rfl (Or.inl rfl) (Or.inr rfl))) (fun _ _ _ _=>a4p) (fun _ _ _ _=>(a0q (a1r (K:=K) rfl) (c2w T.c1g) (a0h 0)))))),?_⟩
 refine⟨a,rfl,⟨_,ha⟩,c4e ((bs.map fun b=>61184+b).map V.int) (by simp) ha (szl (by rw[List.length_map]; omega)) (fun i x y H4 N hx hy s4 hN=>?_) fun p3 H3 g3=>k p3 H3 g3⟩
 obtain⟨o,ho,rfl⟩:=a6p hx
 rw[List.getElem?_map,List.getElem?_map,ho]at hy
 cases hy
 exact hN _ (a1l.refl _)
abbrev FL:=List (Addr × Nat × Nat × Str)
def ftV(x:Nat × Nat × Str):List V:=[.int (x.1:Int),.int (x.2.1:Int),.str x.2.2]
def FtA(H:Hp)(mt:Addr)(L:FL):Prop:=H mt=some (.lst (L.map fun x=>V.ref x.1))/\∀ x∈L,H x.1=some (.tup (ftV x.2))
theorem FtA.mono{H H':Hp}{mt:Addr}{L:FL}(h:FtA H mt L)(s:a1l H H'):FtA H' mt L:=⟨s _ _ h.1,fun x hx=>s _ _ (h.2 x hx)⟩
theorem FtA.keep{H H':Hp}{mt x b:Addr}{L:FL}{C dx:Addr}{fs:List (Str × V)}{vs:List V}(h:FtA H mt L)(k : ∀ c u,c≠x->c≠b->H c=some u->H' c=some u)(hx:H x=some (.ins C dx fs))(hb:H b=some (.lst vs))(n:mt≠b):FtA H' mt L :=
 ⟨k _ _ (a1o h.1 hx (by intro z; cases z)) n h.1,fun z hz=>k _ _ (a1o (h.2 z hz) hx (by intro z; cases z)) (a1o (h.2 z hz) hb (by intro z; cases z)) (h.2 z hz)⟩
def h4h(t:Adr):Sp:=fun vs H Q _=>∃ (x dx o b mt y:Addr) (g:Int) (c l:Nat) (k:Str) (r:List Int) (L:FL),vs=[.ref x,.int (l:Int),.str k]/\H x=some (RdO t dx o b mt y g c false)/\H b=some (.lst (r.map V.int))/\FtA H mt L/\r.length<=c/\L.length<=10000 /\
 ∀ p H',(∀ a u,a≠mt->H a=some u->H' a=some u)->H p=none->FtA H' mt (L++[(p,c - r.length,l,k)])->Q .non H'
theorem b6a (T:Txt w K mg t):c4v P w K mg base t.a0p "note" 1 t.c0c t.b9a ["self", "length", "kind"] (h4h t):=by
 refine⟨T.a0d,T.mt_GoingReader_note,T.d7y,T.d8l.okQ d3y (fun vs H Q E h=>by obtain⟨x,dx,o,b,mt,y,g,c,l,k,r,L,rfl,_⟩:=h; rfl) fun cdv A outer s H vs Q E hr h=>?_⟩
 obtain⟨x,dx,o,b,mt,y,g,c,l,kd,r,L,rfl,hx,hb,ft,lr,lL,k⟩:=h
 refine⟨_,(a0e (a2n (a5t (K:=K) rfl PySem.F.plainAttrs_list PySem.F.slot_list_append PySem.F.type_list_append a9v (a0z (K:=K) rfl (a0h 0)) (a0c (a1u (a0c (a0q b2z (a0q (a1r (K:=K) rfl) (a0z (K:=K) rfl (a0h 0)) (a0z (K:=K) rfl (a0h 0))) (a2g (a3b (K:=K) rfl) T.n_len PySem.boot_len (a0c (a0z (K:=K) rfl (a0h 0)) a0a))) (a0c (a0h 1) (a0c (a0h 2) a0a)))) a0a)))),?_⟩
 refine⟨x,_,dx,_,_,rfl,hx,T.a0d,T.b0y,rfl,?_⟩
 refine⟨.inl ⟨rfl,_,.of ft.1⟩,?_⟩
 refine⟨x,_,dx,_,_,rfl,hx,T.a0d,T.b3j,rfl,?_⟩
 refine⟨x,_,dx,_,_,rfl,hx,T.a0d,T.a6m,rfl,?_⟩
 refine⟨x,_,dx,_,_,rfl,hx,T.a0d,T.a0k,rfl,?_⟩
 refine⟨_,.inl (.of hb),?_⟩
 refine⟨sz rfl,fun p H1 g1=>?_⟩
 have ep:(0:Int)+(c:Int) - ((r.map V.int).length:Int)=((c - r.length:Nat):Int):=by rw[List.length_map]; omega
 have g1':Gro H p (.tup [.int ((0:Int)+(c:Int) - ((r.map V.int).length:Int)),.int (l:Int),.str kd]) H1:=g1
 rw[ep]at g1'
 refine⟨_,g1.sm _ _ ft.1,e1m (by rw[List.length_map]; omega),?_⟩
 have np:p≠mt:=(a0l ft.1 g1.nw).symm
 refine k p _ (fun a u n e=>by rw[a1c n]; exact g1.sm _ _ e) g1.nw ⟨by rw[a0v,List.map_append]; rfl,fun z hz=>?_⟩
 rcases List.mem_append.mp hz with q | q
 ·rw[a1c (a1o (ft.2 z q) ft.1 (by intro z; cases z))]
  exact g1.sm _ _ (ft.2 z q)
 ·rw[List.mem_singleton.mp q,a1c np]
  exact g1'.at_
def wo(H:Hp)(X:List Addr):Hp:=fun a=>if a∈X then none else H a
theorem b3b{H:Hp}{X:List Addr}{a:Addr}(h:a∈X):wo H X a=none:=if_pos h
theorem e8x{H:Hp}{X:List Addr}{a:Addr}{u:HO}(h:a∉X)(e:H a=some u):wo H X a=some u:=(if_neg h).trans e
theorem b8j{H:Hp}{X:List Addr}:a1l (wo H X) H:=fun a u e=>by
 unfold wo at e
 split at e
 ·cases e
 ·exact e
theorem a1l.wo{Hb H:Hp}{X:List Addr}(s:a1l Hb H)(h : ∀ a∈X,Hb a=none):a1l Hb (wo H X):=fun a u e=>e8x (fun z=>by rw[h a z]at e; cases e) (s a u e)
theorem wo3{H:Hp}{x y z a:Addr}{u:HO}(n1:a≠x)(n2:a≠y)(n3:a≠z)(e:H a=some u):wo H [x,y,z] a=some u:=e8x (by simp only [List.mem_cons,List.not_mem_nil,or_false,not_or]; exact⟨n1,n2,n3⟩) e
theorem c8r{Hb H:Hp}{x y z:Addr}(s:a1l Hb H)(h1:Hb x=none)(h2:Hb y=none)(h3:Hb z=none):a1l Hb (wo H [x,y,z]):=a1l.wo s fun a ha=>by
 simp only [List.mem_cons,List.not_mem_nil,or_false]at ha
 rcases ha with rfl | rfl | rfl <;> assumption
theorem f7v (T:Txt w K mg t):c4v P w K mg base t.a0p "look_at_begun" 1 t.a3c t.a3a ["self"] g9r :=
 ⟨T.a0d,T.mt_GoingReader_look_at_begun,T.a7g,T.a7h.okQ a2v (fun vs H Q E h=>h.elim) fun cdv A outer s H vs Q E hr h=>h.elim⟩
def h4m(t:Adr):Sp:=fun vs H Q _=>∃ (Hb:Hp) (x dx o b mt y:Addr) (W:Wy) (g:Int) (c:Nat) (r:List Int) (L:FL) (kd:Str),vs=[.ref x,.int (r.length:Int),.str kd]/\WyA t Hb y W/\a1l Hb H/\Hb x=none/\Hb b=none/\Hb mt=none/\b≠mt/\H x=some (RdO t dx o b mt y g c false)/\H b=some (.lst (r.map V.int))/\FtA H mt L/\r.length<=c/\r.length<=100/\L.length<=10000 /\
 ∀ q b' p H',a1l Hb H'->H q=none->H b'=none->q≠b'->H' x=some (RdO t dx o b' mt y g c false)->H' b'=some (.lst [])->FtA H' mt (L++[(p,c - r.length,r.length,kd)])->H' q=some (.lst ((tlB W r).map V.int))->Q (.ref q) H'
theorem f1t (T:Txt w K mg t):c4v P w K mg base t.a0p "meet" 2 t.a8b t.a7r ["self", "length", "kind"] (h4m t):=by
 have h_GoingReader_look_at_begun:=fun (T:Txt w K mg t)=>f7v (P:=P) (base:=base) T
 refine⟨T.a0d,T.b5f,T.b6d,T.b6f.okQ a6l (fun vs H Q E h=>by obtain⟨Hb,x,dx,o,b,mt,y,W,g,c,r,L,kd,rfl,_⟩:=h; rfl) fun cdv A outer s H vs Q E hr h=>?_⟩
 obtain⟨Hb,x,dx,o,b,mt,y,W,g,c,r,L,kd,rfl,wy,sb,fx,fb,fm,nbm,hx,hb,ft,lc,l1,lL,k⟩:=h
 refine⟨_,(a0b (a2n (a4f (b6a T) hr (a0h 0) (a0c (a0h 1) (a0c (a0h 2) a0a))))
  (a0b (a0r (i:=3) a6l.nd rfl (by first | exact Or.inl rfl | exact Or.inr rfl) (a4e (a4f (c8x T) hr (a0z (K:=K) rfl (a0h 0)) (a0c (a1z (b8c (K:=K) rfl) (a0z (K:=K) rfl (a0h 0)) a3o (a1x (a0h 1))) a0a)) (a4e (a4f (d5d T) hr (a0z (K:=K) rfl (a0h 0)) (a0c (a1z (b8c (K:=K) rfl) (a0z (K:=K) rfl (a0h 0)) a3o (a1x (a0h 1))) a0a)) (a4f (d5c T) hr (a0z (K:=K) rfl (a0h 0)) (a0c (a1z (b8c (K:=K) rfl) (a0z (K:=K) rfl (a0h 0)) a3o (a1x (a0h 1))) a0a)))))
  (a0b (a1w (K:=K) rfl (a0h 0) (a1z (b8c (K:=K) rfl) (a0z (K:=K) rfl (a0h 0)) (a1x (a0h 1)) a3o))
  (a0e (a0i (a7b (a8e (K:=K) rfl (a0z (K:=K) rfl (a0h 0))) (a0q (a1r (K:=K) rfl) (a0h 3) (a2l (h_GoingReader_look_at_begun T) hr (a0h 0))) (a0h 3))))))),?_⟩
 have nbx:b≠x:=a1o hb hx (by intro z; cases z)
 have nmx:mt≠x:=a1o ft.1 hx (by intro z; cases z)
 refine⟨x,dx,_,rfl,hx,rfl,x,dx,o,b,mt,y,g,c,r.length,kd,r,L,rfl,hx,hb,ft,lc,lL,fun p H1 k1 np ft1=>?_⟩
 have hx1:=k1 _ _ nmx.symm hx
 have hb1:=k1 _ _ nbm hb
 have s1:a1l Hb H1:=fun a u e=>k1 a u (a0l e fm) (sb a u e)
 have wy1:=wy.mono s1
 dsimp only
 have ec:d5g (r.map V.int) none (some ((r.length:Nat):Int))=(r.take r.length).map V.int:=by rw[a5p,d1y]
 have ed:d5g (r.map V.int) (some ((r.length:Nat):Int)) none=(r.drop r.length).map V.int:=by rw[a5p]; exact congrArg _ (c1d r r.length)
 have lt:(r.take r.length).length<=1000:=by rw[List.length_take]; omega
 refine b0u (fun σ' H'=>a1l H1 H'/\∃ q,H1 q=none/\H' q=some (.lst ((tlB W (r.take r.length)).map V.int))/\σ'=[some (.ref x),some (.int ((r.length:Nat):Int)),some (.str kd),some (.ref q)]) (fun nx hn=>?_) ?_
 ·have fin : ∀ p2 H2 q H3,Gro H1 p2 (.lst ((r.take r.length).map V.int)) H2->Gro H2 q (.lst ((tlB W (r.take r.length)).map V.int)) H3->nx [some (.ref x),some (.int ((r.length:Nat):Int)),some (.str kd),some (.ref q)] H3:=fun p2 H2 q H3 g2 g3=>hn _ _ ⟨g2.sm.trans g3.sm,q,g2.sm.free g3.nw,g3.at_,rfl⟩
  cases W with
  | lv =>
   obtain⟨dy,hy⟩:=id wy1
   refine .inl ⟨x,_,dx,_,_,rfl,hx1,T.a0d,T.a2x,rfl,y,dy,_,rfl,hy,rfl,x,_,dx,_,_,rfl,hx1,T.a0d,T.a0k,rfl,_,rfl,_,.of hb1,fun p2 H2 g2=>?_⟩
   rw[ec]at g2
   exact⟨y,p2,.lv,_,rfl,wy1.mono g2.sm,rfl,g2.lst,lt,fun q H3 g3=>fin p2 H2 q H3 g2 g3⟩
  | pt n =>
   obtain⟨dy,hy⟩:=id wy1
   refine .inr (.inl ⟨x,_,dx,_,_,rfl,hx1,T.a0d,T.a2x,rfl,y,dy,_,rfl,hy,rfl,x,_,dx,_,_,rfl,hx1,T.a0d,T.a0k,rfl,_,rfl,_,.of hb1,fun p2 H2 g2=>?_⟩)
   rw[ec]at g2
   exact⟨y,p2,.pt n,_,rfl,wy1.mono g2.sm,⟨n,rfl⟩,g2.lst,lt,fun q H3 g3=>fin p2 H2 q H3 g2 g3⟩
  | se =>
   obtain⟨dy,hy⟩:=id wy1
   refine .inr (.inr ⟨x,_,dx,_,_,rfl,hx1,T.a0d,T.a2x,rfl,y,dy,_,rfl,hy,rfl,x,_,dx,_,_,rfl,hx1,T.a0d,T.a0k,rfl,_,rfl,_,.of hb1,fun p2 H2 g2=>?_⟩)
   rw[ec]at g2
   exact⟨y,p2,.se,_,rfl,wy1.mono g2.sm,rfl,g2.lst,lt,fun q H3 g3=>fin p2 H2 q H3 g2 g3⟩
 rintro σ' H3 ⟨s3,q,nq,hq,rfl⟩
 have hx3:=s3 _ _ hx1
 have hb3:=s3 _ _ hb1
 refine⟨x,_,dx,_,_,rfl,hx3,T.a0d,T.a0k,rfl,?_⟩
 refine⟨_,rfl,_,.of hb3,fun b' H4 g4=>?_⟩
 rw[ed]at g4
 refine⟨x,_,dx,_,rfl,g4.sm _ _ hx3,T.a0d,T.a0k,Nat.lt_of_lt_of_le (Nat.lt_succ_self 8) (by decide),?_⟩
 have s4:=s1.trans (s3.trans g4.sm)
 have ft4:=ft1.mono (s3.trans g4.sm)
 have hx4:=g4.sm _ _ hx3
 obtain⟨H5,e5⟩ : ∃ H5,H5=upd H4 x (RdO t dx o b' mt y g c false):=⟨_,rfl⟩
 have e5':upd H4 x (.ins t.a0p dx (c7g "begun" (.ref b') [("tongue",.ref o),("place",.int 0),("at_page",.int g),("begun",.ref b),("many",.int (c:Int)),("met",.ref mt),("ended",.bl false),("way",.ref y)]))=H5:=by rw[e5]; rfl
 rw[e5']
 have hx5:H5 x=some (RdO t dx o b' mt y g c false):=by rw[e5,a0v]
 have st5 : ∀ a u,a≠x->H4 a=some u->H5 a=some u:=fun a u n e=>by rw[e5,a1c n]; exact e
 have nbx':b'≠x:=(a0l hx3 g4.nw).symm
 have hb5:=st5 _ _ nbx' g4.at_
 have hq4:=g4.sm _ _ hq
 have nqx:q≠x:=a1o hq4 hx4 (by intro z; cases z)
 have hq5:=st5 _ _ nqx hq4
 have s5:a1l Hb H5:=fun a u e=>st5 a u (a0l e fx) (s4 a u e)
 have ft5:FtA H5 mt (L++[(p,c - r.length,r.length,kd)]):=⟨st5 _ _ nmx ft4.1,fun z hz=>st5 _ _ (a1o (ft4.2 z hz) hx4 (by intro z; cases z)) (ft4.2 z hz)⟩
 have fr0 : ∀ a,H1 a=none->H a=none:=fun a n=>by
  cases e:H a with
  | none=>rfl
  | some u =>
   by_cases z:a=mt
   ·rw[z,ft1.1]at n; cases n
   ·rw[k1 a u z e]at n; cases n
 have nqb:q≠b':=a0l hq g4.nw
 have nq0:=fr0 q nq
 have nb0:=fr0 b' (s3.free g4.nw)
 refine⟨x,_,dx,_,_,rfl,hx5,T.a0d,T.a0k,rfl,_,.inl (.of hb5),?_⟩
 rw[List.take_length]at hq5
 rw[List.drop_length]at hb5 ⊢
 exact k q b' p H5 s5 nq0 nb0 nqb hx5 hb5 ft5 hq5
noncomputable def lkZ(o:Bool)(D:Kt)(g:Int)(c:Nat)(r:List Int):Int × List Int × List Ev:=if o=true then lkO D g c r else lkN D g c r
structure Lks (t:Adr) (Hb H:Hp) (x dx o b mt y:Addr) (D:Kt) (W:Wy) (g:Int) (c:Nat) (r:List Int) (L:FL) (one:Bool):Prop where
 tn:TN t Hb o D
 wy:WyA t Hb y W
 sb:a1l Hb H
 fx:Hb x=none
 fb:Hb b=none
 fm:Hb mt=none
 nbm:b≠mt
 hx:H x=some (RdO t dx o b mt y g c false)
 hb:H b=some (.lst (r.map V.int))
 ft:FtA H mt L
 pg:PgK D g
 dm:Dm D g r
 dl:Dm D g (r.drop (r.length - unt D))
 lc:r.length<=c
 l1:r.length<=100
 lu:unt D<=r.length
 lL:L.length<=9000
 on:one=true->r.length=unt D
 mo:one=false->unt D < r.length
 l8:one=false->L.length<=8999
def Rlk(t:Adr)(Hb H:Hp)(x dx o mt y:Addr)(D:Kt)(W:Wy)(c:Nat)(L:FL)(z:Int × List Int × List Ev)(Q:VK):Prop :=
 ∀ (q b':Addr) (ps:FL) H',a1l Hb H'->H q=none->Hb b'=none->b'≠mt->q≠b'->H' x=some (RdO t dx o b' mt y z.1 c false)->H' b'=some (.lst (z.2.1.map V.int))->FtA H' mt (L++ps)->ps.map (fun x=>x.2)=fts z.2.2->H' q=some (.lst ((tld W z.2.2).map V.int))->Q (.ref q) H'
def h2u(t:Adr)(one:Bool):Sp:=fun vs H Q _=>∃ (Hb:Hp) (x dx o b mt y:Addr) (D:Kt) (W:Wy) (g:Int) (c:Nat) (r:List Int) (L:FL),vs=[.ref x]/\Lks t Hb H x dx o b mt y D W g c r L one/\lkA D g r=.no/\Rlk t Hb H x dx o mt y D W c L (lkZ one D g c r) Q
def g5g(t:Adr)(one:Bool):Sp:=fun vs H Q _=>∃ (Hb:Hp) (x dx o b mt y:Addr) (D:Kt) (W:Wy) (g:Int) (c:Nat) (r:List Int) (L:FL),vs=[.ref x]/\Lks t Hb H x dx o b mt y D W g c r L one/\Rlk t Hb H x dx o mt y D W c L (lkZ one D g c r) Q
theorem g2y (T:Txt w K mg t):c4v P w K mg base t.a0p "meet_none" 3 t.a7w t.a7q ["self"] (h2u t true):=by
 have a2y:=fun (T:Txt w K mg t)=>f1t (P:=P) (base:=base) T
 refine⟨T.a0d,T.mt_GoingReader_meet_none,T.b6c,T.b6e.okQ a6k (fun vs H Q E h=>by obtain⟨Hb,x,dx,o,b,mt,y,D,W,g,c,r,L,rfl,_⟩:=h; rfl) fun cdv A outer s H vs Q E hr h=>?_⟩
 obtain⟨Hb,x,dx,o,b,mt,y,D,W,g,c,r,L,rfl,M,hno,k⟩:=h
 have hu:=hr.units
 refine⟨_,(a0b (a0r (i:=1) a6k.nd rfl (by first | exact Or.inl rfl | exact Or.inr rfl) (a0q b2z (a2g (a3b (K:=K) rfl) T.n_len PySem.boot_len (a0c (a0z (K:=K) rfl (a0h 0)) a0a)) (a4e (a2l (b3r T) hr (a0z (K:=K) rfl (a0h 0))) (a4e (a2l (a9i T) hr (a0z (K:=K) rfl (a0h 0))) (a4e (a2l (a9h T) hr (a0z (K:=K) rfl (a0h 0))) (a4e (a2l (a7m T) hr (a0z (K:=K) rfl (a0h 0))) (a2l (a7l T) hr (a0z (K:=K) rfl (a0h 0)))))))))
  (a0b (a0w (a0o f5f (a0h 1) a0g (a1e _)) (a0e (a0i (a4f (a2y T) hr (a0h 0) (a0c (a0h 1) (a0c a2d a0a))))) a0n)
  (a0e (a0i (a4f (a2y T) hr (a0h 0) (a0c (a2g (a3b (K:=K) rfl) T.n_len PySem.boot_len (a0c (a0z (K:=K) rfl (a0h 0)) a0a)) (a0c a2d a0a))))))),?_⟩
 have tn:=M.tn.mono M.sb
 refine b0u (fun σ' H'=>H'=H/\σ'=[some (.ref x),some (.int ((r.length:Int) - (unt D:Int)))]) (fun nx hn=>?_) ?_
 ·refine⟨x,_,dx,_,_,rfl,M.hx,T.a0d,T.a0k,rfl,?_⟩
  refine⟨_,.inl (.of M.hb),?_⟩
  rw[List.length_map]
  cases D with
  | br =>
   obtain⟨dxo,ho⟩:=id tn
   exact .inl ⟨x,_,dx,_,_,rfl,M.hx,T.a0d,T.a0m,rfl,o,dxo,_,rfl,ho,rfl,_,rfl,hn _ _ ⟨rfl,rfl⟩⟩
  | ld =>
   obtain⟨dxo,ho⟩:=id tn
   exact .inr (.inl ⟨x,_,dx,_,_,rfl,M.hx,T.a0d,T.a0m,rfl,o,dxo,_,rfl,ho,rfl,_,rfl,hn _ _ ⟨rfl,rfl⟩⟩)
  | pr h =>
   obtain⟨dxo,ho⟩:=id tn
   exact .inr (.inr (.inl ⟨x,_,dx,_,_,rfl,M.hx,T.a0d,T.a0m,rfl,o,dxo,_,rfl,ho,rfl,_,rfl,hn _ _ ⟨rfl,rfl⟩⟩))
  | sh f ns ms=>exact .inr (.inr (.inr (.inl ⟨x,_,dx,_,_,rfl,M.hx,T.a0d,T.a0m,rfl,o,f.dx,_,rfl,Tg.o tn,rfl,_,rfl,hn _ _ ⟨rfl,rfl⟩⟩)))
  | tb f es=>exact .inr (.inr (.inr (.inr ⟨x,_,dx,_,_,rfl,M.hx,T.a0d,T.a0m,rfl,o,f.dx,_,rfl,tn.1.o,rfl,_,rfl,hn _ _ ⟨rfl,rfl⟩⟩)))
 rintro σ' H' ⟨rfl,rfl⟩
 have e:=M.on rfl
 refine a1v (fun z=>absurd (show (r.length:Int) - (unt D:Int) > 0 from of_decide_eq_true z) (by omega)) (fun _=>?_)
 refine⟨x,dx,_,rfl,M.hx,rfl,?_⟩
 refine⟨x,_,dx,_,_,rfl,M.hx,T.a0d,T.a0k,rfl,_,.inl (.of M.hb),?_⟩
 refine⟨Hb,x,dx,o,b,mt,y,W,g,c,r,L,_,by rw[List.length_map]; rfl,M.wy,M.sb,M.fx,M.fb,M.fm,M.nbm,M.hx,M.hb,M.ft,M.lc,M.l1,by have:=M.lL; omega,fun q b' p H1 s1 nq nb nqb hx1 hb1 ft1 hq1=>?_⟩
 have ez:lkZ true D g c r=(g,[],[.ft (c - r.length) r.length "strange" r]):=by
  unfold lkZ lkO
  rw[if_pos rfl,hno]
 rw[ez]at k
 exact k q b' [(p,c - r.length,r.length, "strange")] H1 s1 nq (M.sb.free nb) (a0l M.ft.1 nb).symm nqb hx1 hb1 ft1 rfl (by rw[show tld W [.ft (c - r.length) r.length "strange" r]=tlB W r++[] from rfl,List.append_nil]; exact hq1)
theorem f1u (T:Txt w K mg t):c4v P w K mg base t.a0p "look_at_begun" 8 t.a3c t.a3a ["self"] (g5g t true):=by
 have h_GoingReader_meet_none:=fun (T:Txt w K mg t)=>g2y (P:=P) (base:=base) T
 refine⟨T.a0d,T.mt_GoingReader_look_at_begun,T.a7g,T.a7h.okQ a2v (fun vs H Q E h=>by obtain⟨Hb,x,dx,o,b,mt,y,D,W,g,c,r,L,rfl,_⟩:=h; rfl) fun cdv A outer s H vs Q E hr h=>?_⟩
 obtain⟨Hb,x,dx,o,b,mt,y,D,W,g,c,r,L,rfl,M,k⟩:=h
 have hu:=hr.units
 refine⟨_,(a0b (a0r (i:=1) a2v.nd rfl (by first | exact Or.inl rfl | exact Or.inr rfl) (a4e (a2r (c0r T) hr (a0z (K:=K) rfl (a0h 0)) (a0c (a0z (K:=K) rfl (a0h 0)) (a0c (a0z (K:=K) rfl (a0h 0)) a0a))) (a4e (a2r (b5j T) hr (a0z (K:=K) rfl (a0h 0)) (a0c (a0z (K:=K) rfl (a0h 0)) (a0c (a0z (K:=K) rfl (a0h 0)) a0a))) (a4e (a2r (b5i T) hr (a0z (K:=K) rfl (a0h 0)) (a0c (a0z (K:=K) rfl (a0h 0)) (a0c (a0z (K:=K) rfl (a0h 0)) a0a))) (a4e (a2r (b3m T) hr (a0z (K:=K) rfl (a0h 0)) (a0c (a0z (K:=K) rfl (a0h 0)) (a0c (a0z (K:=K) rfl (a0h 0)) a0a))) (a2r (b3l T) hr (a0z (K:=K) rfl (a0h 0)) (a0c (a0z (K:=K) rfl (a0h 0)) (a0c (a0z (K:=K) rfl (a0h 0)) a0a))))))))
  (a0b (a0w (a0o (a4q (K:=K) rfl hu) (a1b (a1y (K:=K) rfl) (a0h 1) a0g (fun _ _=>rfl)) a2d (a1e _)) (a0e (a0i (a0y a0a))) a0n)
  (a0b (a0w (a0o (a4q (K:=K) rfl hu) (a1b (a1y (K:=K) rfl) (a0h 1) a0g (fun _ _=>rfl)) a2d (a1e _)) (a0e (a0i (a2l (h_GoingReader_meet_none T) hr (a0h 0)))) a0n)
  (a0b (a1w (K:=K) rfl (a0h 0) (a0y a0a))
  (a0b (a1w (K:=K) rfl (a0h 0) (a1b (a1y (K:=K) rfl) (a0h 1) a0g (fun _ _=>rfl)))
  (a0e (a0i (a0y (a0c (a1b (a1y (K:=K) rfl) (a0h 1) a0g (fun _ _=>rfl)) a0a))))))))),?_⟩
 have tn:=M.tn.mono M.sb
 refine b0u (fun σ' H'=>∃ pf,a1l H H'/\H' pf=some (.tup (lkV g (lkA D g r)))/\σ'=[some (.ref x),some (.ref pf)]) (fun nx hnx=>?_) ?_
 ·have fin : ∃ (o' q':Addr) (D':Kt) (g':Int) (r':List Int),([.ref o,.ref b,.int g]:List V)=[.ref o',.ref q',.int g']/\TN t H o' D'/\PgK D' g'/\H q'=some (.lst (r'.map V.int))/\Dm D' g' r'/\∀ p H',a1l H H'->H' p=some (.tup (lkV g' (lkA D' g' r')))->nx [some (.ref x),some (.ref p)] H':=⟨o,b,D,g,r,rfl,tn,M.pg,M.hb,M.dm,fun p H' s' hp=>hnx _ _ ⟨p,s',hp,rfl⟩⟩
  cases D with
  | br =>
   obtain⟨dxo,ho⟩:=id tn
   exact .inl ⟨x,_,dx,_,_,rfl,M.hx,T.a0d,T.a0m,rfl,o,dxo,_,rfl,ho,rfl,x,_,dx,_,_,rfl,M.hx,T.a0d,T.a0k,rfl,x,_,dx,_,_,rfl,M.hx,T.a0d,T.a1i,rfl,fin⟩
  | ld =>
   obtain⟨dxo,ho⟩:=id tn
   exact .inr (.inl ⟨x,_,dx,_,_,rfl,M.hx,T.a0d,T.a0m,rfl,o,dxo,_,rfl,ho,rfl,x,_,dx,_,_,rfl,M.hx,T.a0d,T.a0k,rfl,x,_,dx,_,_,rfl,M.hx,T.a0d,T.a1i,rfl,fin⟩)
  | pr h =>
   obtain⟨dxo,ho⟩:=id tn
   exact .inr (.inr (.inl ⟨x,_,dx,_,_,rfl,M.hx,T.a0d,T.a0m,rfl,o,dxo,_,rfl,ho,rfl,x,_,dx,_,_,rfl,M.hx,T.a0d,T.a0k,rfl,x,_,dx,_,_,rfl,M.hx,T.a0d,T.a1i,rfl,fin⟩))
  | sh f ns ms =>
   exact .inr (.inr (.inr (.inl ⟨x,_,dx,_,_,rfl,M.hx,T.a0d,T.a0m,rfl,o,f.dx,_,rfl,Tg.o tn,rfl,x,_,dx,_,_,rfl,M.hx,T.a0d,T.a0k,rfl,x,_,dx,_,_,rfl,M.hx,T.a0d,T.a1i,rfl,fin⟩)))
  | tb f es =>
   exact .inr (.inr (.inr (.inr ⟨x,_,dx,_,_,rfl,M.hx,T.a0d,T.a0m,rfl,o,f.dx,_,rfl,tn.1.o,rfl,x,_,dx,_,_,rfl,M.hx,T.a0d,T.a0k,rfl,x,_,dx,_,_,rfl,M.hx,T.a0d,T.a1i,rfl,fin⟩)))
 ·rintro σ' H1 ⟨pf,s1,hp,rfl⟩
  cases e:lkA D g r with
  | sg n g' =>
   rw[e]at hp
   have ez:lkZ true D g c r=(g',[],[.sg n]):=by
    simp only [lkZ,lkO,lkN,e,ite_self]
   rw[ez]at k
   refine⟨_,_,.inr (.of hp),a1f (j:=0) rfl,?_⟩
   refine⟨_,_,a1j.str _,a1j.str _,a0j g8t,a0j f9p,?_⟩
   refine a1v (fun z=>absurd (show PyData.eqv (.str "sign") (.str "more")=true from z) (by decide +kernel)) (fun _=>?_)
   refine⟨_,_,.inr (.of hp),a1f (j:=0) rfl,?_⟩
   refine⟨_,_,a1j.str _,a1j.str _,a0j g8t,a0j f9o,?_⟩
   refine a1v (fun z=>absurd (show PyData.eqv (.str "sign") (.str "none")=true from z) (by decide +kernel)) (fun _=>?_)
   refine⟨sz rfl,fun b' H2 g2=>?_⟩
   have s2:=s1.trans g2.sm
   have hx2:=s2 _ _ M.hx
   have hp2:=g2.sm _ _ hp
   have nb:H b'=none:=s1.free g2.nw
   have npx:pf≠x:=a1o hp2 hx2 (by intro z; cases z)
   have nbx:b'≠x:=(a0l M.hx nb).symm
   refine⟨x,_,dx,_,rfl,hx2,T.a0d,T.a0k,Nat.lt_of_lt_of_le (Nat.lt_succ_self 8) (by decide),?_⟩
   refine⟨_,_,.inr (.of (by rw[a1c npx]; exact hp2)),a1f (j:=2) rfl,?_⟩
   refine⟨x,_,dx,_,rfl,a0v,T.a0d,T.a1i,Nat.lt_of_lt_of_le (Nat.lt_succ_self 8) (by decide),?_⟩
   refine⟨_,_,.inr (.of (by rw[a1c npx,a1c npx]; exact hp2)),a1f (j:=1) rfl,?_⟩
   refine⟨sz rfl,fun q H3 g3=>?_⟩
   have kp:Kp x H H3:=Kp.trans (Kp.trans (Kp.of s2) (Kp.trans Kp.upd Kp.upd)) (Kp.of g3.sm)
   have nq:H q=none:=Kp.free (x:=x) (Kp.trans (Kp.of s2) (Kp.trans Kp.upd Kp.upd)) a0v g3.nw
   have hb3:=g3.sm b' _ (by rw[a1c nbx,a1c nbx]; exact g2.at_)
   refine k q b' [] H3 (fun a u e=>kp _ _ (a0l e M.fx) (M.sb _ _ e)) nq (M.sb.free nb) (a0l M.ft.1 nb).symm (a0l (by rw[a1c nbx,a1c nbx]; exact g2.at_) g3.nw).symm (g3.sm x _ (by rw[a0v]; rfl)) hb3 ?_ rfl g3.at_
   rw[List.append_nil]
   exact⟨kp _ _ (a1o M.ft.1 M.hx (by intro z; cases z)) M.ft.1,fun z hz=>kp _ _ (a1o (M.ft.2 z hz) M.hx (by intro z; cases z)) (M.ft.2 z hz)⟩
  | mo =>
   rw[e]at hp
   have ez:lkZ true D g c r=(g,r,[]):=by
    simp only [lkZ,lkO,lkN,e,ite_self]
   rw[ez]at k
   refine⟨_,_,.inr (.of hp),a1f (j:=0) rfl,?_⟩
   refine⟨_,_,a1j.str _,a1j.str _,a0j f9p,a0j f9p,?_⟩
   refine a1v (fun _=>?_) (fun z=>absurd (show PyData.eqv (.str "more") (.str "more")=true by decide +kernel) z)
   refine⟨sz rfl,fun q H2 g2=>?_⟩
   have s2:=s1.trans g2.sm
   have nq:=s1.free g2.nw
   exact k q b [] H2 (M.sb.trans s2) nq M.fb M.nbm (a0l M.hb nq).symm (s2 _ _ M.hx) (s2 _ _ M.hb) (by rw[List.append_nil]; exact M.ft.mono s2) rfl g2.at_
  | no =>
   rw[e]at hp
   refine⟨_,_,.inr (.of hp),a1f (j:=0) rfl,?_⟩
   refine⟨_,_,a1j.str _,a1j.str _,a0j f9o,a0j f9p,?_⟩
   refine a1v (fun z=>absurd (show PyData.eqv (.str "none") (.str "more")=true from z) (by decide +kernel)) (fun _=>?_)
   refine⟨_,_,.inr (.of hp),a1f (j:=0) rfl,?_⟩
   refine⟨_,_,a1j.str _,a1j.str _,a0j f9o,a0j f9o,?_⟩
   refine a1v (fun _=>?_) (fun z=>absurd (show PyData.eqv (.str "none") (.str "none")=true by decide +kernel) z)
   refine⟨x,dx,_,rfl,s1 _ _ M.hx,rfl,Hb,x,dx,o,b,mt,y,D,W,g,c,r,L,rfl,{ M with sb:=M.sb.trans s1,hx:=s1 _ _ M.hx,hb:=s1 _ _ M.hb,ft:=M.ft.mono s1 },e,fun q b' ps H' a1 a2=>k q b' ps H' a1 (s1.free a2)⟩
def h4j(t:Adr):Sp:=fun vs H Q _=>∃ (Hb:Hp) (x dx o b mt y:Addr) (D:Kt) (W:Wy) (g:Int) (c:Nat) (r:List Int) (L:FL),vs=[.ref x,.int ((r.length - unt D:Nat):Int),.str "broken"]/\Lks t Hb H x dx o b mt y D W g c r L false/\lkA D g r=.no/\Rlk t Hb H x dx o mt y D W c L (lkZ false D g c r) Q
theorem g2z (T:Txt w K mg t):c4v P w K mg base t.a0p "meet" 9 t.a8b t.a7r ["self", "length", "kind"] (h4j t):=by
 have h_GoingReader_look_at_begun:=fun (T:Txt w K mg t)=>f1u (P:=P) (base:=base) T
 refine⟨T.a0d,T.b5f,T.b6d,T.b6f.okQ a6l (fun vs H Q E h=>by obtain⟨Hb,x,dx,o,b,mt,y,D,W,g,c,r,L,rfl,_⟩:=h; rfl) fun cdv A outer s H vs Q E hr h=>?_⟩
 obtain⟨Hb,x,dx,o,b,mt,y,D,W,g,c,r,L,rfl,M,hno,k⟩:=h
 obtain⟨tn,wy,sb,fx,fb,fm,nbm,hx,hb,ft,pg,dm,dl,lc,l1,lu,lL9,_,mo,l8⟩:=id M
 have l8:=l8 rfl
 have lL:L.length<=10000:=by omega
 have lm:=mo rfl
 obtain⟨kd,ekd⟩ : ∃ kd:Str,kd = "broken":=⟨_,rfl⟩
 rw[<- ekd]
 refine⟨_,(a0b (a2n (a4f (b6a T) hr (a0h 0) (a0c (a0h 1) (a0c (a0h 2) a0a))))
  (a0b (a0r (i:=3) a6l.nd rfl (by first | exact Or.inl rfl | exact Or.inr rfl) (a4e (a4f (c8x T) hr (a0z (K:=K) rfl (a0h 0)) (a0c (a1z (b8c (K:=K) rfl) (a0z (K:=K) rfl (a0h 0)) a3o (a1x (a0h 1))) a0a)) (a4e (a4f (d5d T) hr (a0z (K:=K) rfl (a0h 0)) (a0c (a1z (b8c (K:=K) rfl) (a0z (K:=K) rfl (a0h 0)) a3o (a1x (a0h 1))) a0a)) (a4f (d5c T) hr (a0z (K:=K) rfl (a0h 0)) (a0c (a1z (b8c (K:=K) rfl) (a0z (K:=K) rfl (a0h 0)) a3o (a1x (a0h 1))) a0a)))))
  (a0b (a1w (K:=K) rfl (a0h 0) (a1z (b8c (K:=K) rfl) (a0z (K:=K) rfl (a0h 0)) (a1x (a0h 1)) a3o))
  (a0e (a0i (a7b (a8e (K:=K) rfl (a0z (K:=K) rfl (a0h 0))) (a0q (a1r (K:=K) rfl) (a0h 3) (a2l (h_GoingReader_look_at_begun T) hr (a0h 0))) (a0h 3))))))),?_⟩
 have nbx:b≠x:=a1o hb hx (by intro z; cases z)
 have nmx:mt≠x:=a1o ft.1 hx (by intro z; cases z)
 refine⟨x,dx,_,rfl,hx,rfl,x,dx,o,b,mt,y,g,c,(r.length - unt D),kd,r,L,rfl,hx,hb,ft,lc,lL,fun p H1 k1 np ft1=>?_⟩
 have hx1:=k1 _ _ nmx.symm hx
 have hb1:=k1 _ _ nbm hb
 have s1:a1l Hb H1:=fun a u e=>k1 a u (a0l e fm) (sb a u e)
 have wy1:=wy.mono s1
 dsimp only
 have ec:d5g (r.map V.int) none (some (((r.length - unt D):Nat):Int))=(r.take (r.length - unt D)).map V.int:=by rw[a5p,d1y]
 have ed:d5g (r.map V.int) (some (((r.length - unt D):Nat):Int)) none=(r.drop (r.length - unt D)).map V.int:=by rw[a5p]; exact congrArg _ (c1d r (r.length - unt D))
 have lt:(r.take (r.length - unt D)).length<=1000:=by rw[List.length_take]; omega
 refine b0u (fun σ' H'=>a1l H1 H'/\∃ q,H1 q=none/\H' q=some (.lst ((tlB W (r.take (r.length - unt D))).map V.int))/\σ'=[some (.ref x),some (.int (((r.length - unt D):Nat):Int)),some (.str kd),some (.ref q)]) (fun nx hn=>?_) ?_
 ·have fin : ∀ p2 H2 q H3,Gro H1 p2 (.lst ((r.take (r.length - unt D)).map V.int)) H2->Gro H2 q (.lst ((tlB W (r.take (r.length - unt D))).map V.int)) H3->nx [some (.ref x),some (.int (((r.length - unt D):Nat):Int)),some (.str kd),some (.ref q)] H3:=fun p2 H2 q H3 g2 g3=>hn _ _ ⟨g2.sm.trans g3.sm,q,g2.sm.free g3.nw,g3.at_,rfl⟩
  cases W with
  | lv =>
   obtain⟨dy,hy⟩:=id wy1
   refine .inl ⟨x,_,dx,_,_,rfl,hx1,T.a0d,T.a2x,rfl,y,dy,_,rfl,hy,rfl,x,_,dx,_,_,rfl,hx1,T.a0d,T.a0k,rfl,_,rfl,_,.of hb1,fun p2 H2 g2=>?_⟩
   rw[ec]at g2
   exact⟨y,p2,.lv,_,rfl,wy1.mono g2.sm,rfl,g2.lst,lt,fun q H3 g3=>fin p2 H2 q H3 g2 g3⟩
  | pt n =>
   obtain⟨dy,hy⟩:=id wy1
   refine .inr (.inl ⟨x,_,dx,_,_,rfl,hx1,T.a0d,T.a2x,rfl,y,dy,_,rfl,hy,rfl,x,_,dx,_,_,rfl,hx1,T.a0d,T.a0k,rfl,_,rfl,_,.of hb1,fun p2 H2 g2=>?_⟩)
   rw[ec]at g2
   exact⟨y,p2,.pt n,_,rfl,wy1.mono g2.sm,⟨n,rfl⟩,g2.lst,lt,fun q H3 g3=>fin p2 H2 q H3 g2 g3⟩
  | se =>
   obtain⟨dy,hy⟩:=id wy1
   refine .inr (.inr ⟨x,_,dx,_,_,rfl,hx1,T.a0d,T.a2x,rfl,y,dy,_,rfl,hy,rfl,x,_,dx,_,_,rfl,hx1,T.a0d,T.a0k,rfl,_,rfl,_,.of hb1,fun p2 H2 g2=>?_⟩)
   rw[ec]at g2
   exact⟨y,p2,.se,_,rfl,wy1.mono g2.sm,rfl,g2.lst,lt,fun q H3 g3=>fin p2 H2 q H3 g2 g3⟩
 rintro σ' H3 ⟨s3,q,nq,hq,rfl⟩
 have hx3:=s3 _ _ hx1
 have hb3:=s3 _ _ hb1
 refine⟨x,_,dx,_,_,rfl,hx3,T.a0d,T.a0k,rfl,?_⟩
 refine⟨_,rfl,_,.of hb3,fun b' H4 g4=>?_⟩
 rw[ed]at g4
 refine⟨x,_,dx,_,rfl,g4.sm _ _ hx3,T.a0d,T.a0k,Nat.lt_of_lt_of_le (Nat.lt_succ_self 8) (by decide),?_⟩
 have s4:=s1.trans (s3.trans g4.sm)
 have ft4:=ft1.mono (s3.trans g4.sm)
 have hx4:=g4.sm _ _ hx3
 obtain⟨H5,e5⟩ : ∃ H5,H5=upd H4 x (RdO t dx o b' mt y g c false):=⟨_,rfl⟩
 have e5':upd H4 x (.ins t.a0p dx (c7g "begun" (.ref b') [("tongue",.ref o),("place",.int 0),("at_page",.int g),("begun",.ref b),("many",.int (c:Int)),("met",.ref mt),("ended",.bl false),("way",.ref y)]))=H5:=by rw[e5]; rfl
 rw[e5']
 have hx5:H5 x=some (RdO t dx o b' mt y g c false):=by rw[e5,a0v]
 have st5 : ∀ a u,a≠x->H4 a=some u->H5 a=some u:=fun a u n e=>by rw[e5,a1c n]; exact e
 have nbx':b'≠x:=(a0l hx3 g4.nw).symm
 have hb5:=st5 _ _ nbx' g4.at_
 have hq4:=g4.sm _ _ hq
 have nqx:q≠x:=a1o hq4 hx4 (by intro z; cases z)
 have hq5:=st5 _ _ nqx hq4
 have s5:a1l Hb H5:=fun a u e=>st5 a u (a0l e fx) (s4 a u e)
 have ft5:FtA H5 mt (L++[(p,c - r.length,(r.length - unt D),kd)]):=⟨st5 _ _ nmx ft4.1,fun z hz=>st5 _ _ (a1o (ft4.2 z hz) hx4 (by intro z; cases z)) (ft4.2 z hz)⟩
 have fr0 : ∀ a,H1 a=none->H a=none:=fun a n=>by
  cases e:H a with
  | none=>rfl
  | some u =>
   by_cases z:a=mt
   ·rw[z,ft1.1]at n; cases n
   ·rw[k1 a u z e]at n; cases n
 have nqb:q≠b':=a0l hq g4.nw
 have nq0:=fr0 q nq
 have nb0:=fr0 b' (s3.free g4.nw)
 refine⟨x,_,dx,_,_,rfl,hx5,T.a0d,T.a0k,rfl,_,.inl (.of hb5),?_⟩
 have u1:1<=unt D/\unt D<=2:=by cases D <;> simp[unt]
 have ldr:(r.drop (r.length - unt D)).length=unt D:=by rw[List.length_drop]; omega
 have cne:((r.drop (r.length - unt D)).map V.int).isEmpty=false:=by
  cases e:r.drop (r.length - unt D) with
  | nil=>rw[e]at ldr; simp at ldr; omega
  | cons a as=>rfl
 refine a1v (fun _=>?_) (fun z=>absurd (show (!((r.drop (r.length - unt D)).map V.int).isEmpty)=true by rw[cne]; rfl) z)
 have fb':Hb b'=none:=sb.free nb0
 have nbm':b'≠mt:=(a0l ft.1 nb0).symm
 have ez:lkZ false D g c r=((lkO D g c (r.drop (r.length - unt D))).1,(lkO D g c (r.drop (r.length - unt D))).2.1,.ft (c - r.length) (r.length - unt D) "broken" (r.take (r.length - unt D)) :: (lkO D g c (r.drop (r.length - unt D))).2.2):=by
  unfold lkZ lkN
  rw[if_neg (by decide),hno]
 rw[ez]at k
 have dd:(r.drop (r.length - unt D)).drop ((r.drop (r.length - unt D)).length - unt D)=r.drop (r.length - unt D):=by rw[ldr,Nat.sub_self,List.drop_zero]
 have sw:a1l Hb (wo H5 [x,b',mt]):=c8r s5 fx fb' fm
 have nqm:q≠mt:=(a0l ft.1 nq0).symm
 have wq:=wo3 nqx nqb nqm hq5
 have kp5 : ∀ a u,a≠x->a≠mt->H a=some u->H5 a=some u:=fun a u n1 n2 e=>st5 _ _ n1 (g4.sm _ _ (s3 _ _ (k1 _ _ n2 e)))
 refine⟨x,dx,_,rfl,hx5,rfl,wo H5 [x,b',mt],x,dx,o,b',mt,y,D,W,g,c,r.drop (r.length - unt D),L++[(p,c - r.length,r.length - unt D,kd)],rfl,⟨tn.mono sw,wy.mono sw,b8j,b3b (by simp),b3b (by simp),b3b (by simp),nbm',hx5,hb5,ft5,pg,dl,by rw[dd]; exact dl,by omega,by omega,by omega,by rw[List.length_append]; show _+1<=9000; omega,(fun _=>ldr),(fun z=>nomatch z),(fun z=>nomatch z)⟩,fun q2 b2 ps H6 s6 nq2 fb2 nbm2 nqb2 hx6 hb6 ft6 eps hq6=>?_⟩
 have ezO:lkZ true D g c (r.drop (r.length - unt D))=lkO D g c (r.drop (r.length - unt D)):=if_pos rfl
 rw[ezO]at hx6 hb6 eps hq6
 have hqq:=s6 _ _ wq
 have evs:(lkO D g c (r.drop (r.length - unt D))).2.2.length<=1:=by
  unfold lkO
  split <;> simp
 have tlB_len : ∀ bs:List Int,(tlB W bs).length<=bs.length+1:=fun bs=>by cases W <;> simp[tlB]
 have tl6:(tld W (lkO D g c (r.drop (r.length - unt D))).2.2).length<=200:=by
  unfold lkO
  split
  ·show 1<=200; decide
  ·show 0<=200; decide
  ·show (tlB W (r.drop (r.length - unt D))++[]).length<=200
   rw[List.append_nil]
   have:=tlB_len (r.drop (r.length - unt D))
   omega
 have tl5:=tlB_len (r.take (r.length - unt D))
 rw[List.length_take]at tl5
 refine⟨_,_,.of hqq,.of hq6,szl (by rw[List.length_map,List.length_map]; omega),fun q3 H7 g7=>?_⟩
 rw[<- List.map_append]at g7
 have nq3:H q3=none:=by
  cases e:H q3 with
  | none=>rfl
  | some u =>
   have n1:q3≠x:=(a0l hx6 g7.nw).symm
   have n2:q3≠mt:=(a0l ft6.1 g7.nw).symm
   have n3:q3≠b':=a0l e nb0
   have:=s6 _ _ (wo3 n1 n3 n2 (kp5 _ _ n1 n2 e))
   rw[g7.nw]at this; cases this
 refine k q3 b2 ((p,c - r.length,r.length - unt D,kd) :: ps) H7 ((sw.trans s6).trans g7.sm) nq3 (sw.free fb2) nbm2 (a0l hb6 g7.nw).symm (g7.sm _ _ hx6) (g7.sm _ _ hb6) ?_ ?_ g7.at_
 ·have:=ft6.mono g7.sm
  rw[List.append_assoc]at this
  exact this
 ·rw[List.map_cons,eps,ekd]
  rfl
theorem g2x (T:Txt w K mg t):c4v P w K mg base t.a0p "meet_none" 10 t.a7w t.a7q ["self"] (h2u t false):=by
 have a2y:=fun (T:Txt w K mg t)=>g2z (P:=P) (base:=base) T
 refine⟨T.a0d,T.mt_GoingReader_meet_none,T.b6c,T.b6e.okQ a6k (fun vs H Q E h=>by obtain⟨Hb,x,dx,o,b,mt,y,D,W,g,c,r,L,rfl,_⟩:=h; rfl) fun cdv A outer s H vs Q E hr h=>?_⟩
 obtain⟨Hb,x,dx,o,b,mt,y,D,W,g,c,r,L,rfl,M,hno,k⟩:=h
 have hu:=hr.units
 refine⟨_,(a0b (a0r (i:=1) a6k.nd rfl (by first | exact Or.inl rfl | exact Or.inr rfl) (a0q b2z (a2g (a3b (K:=K) rfl) T.n_len PySem.boot_len (a0c (a0z (K:=K) rfl (a0h 0)) a0a)) (a4e (a2l (b3r T) hr (a0z (K:=K) rfl (a0h 0))) (a4e (a2l (a9i T) hr (a0z (K:=K) rfl (a0h 0))) (a4e (a2l (a9h T) hr (a0z (K:=K) rfl (a0h 0))) (a4e (a2l (a7m T) hr (a0z (K:=K) rfl (a0h 0))) (a2l (a7l T) hr (a0z (K:=K) rfl (a0h 0)))))))))
  (a0b (a0w (a0o f5f (a0h 1) a0g (a1e _)) (a0e (a0i (a4f (a2y T) hr (a0h 0) (a0c (a0h 1) (a0c a2d a0a))))) a0n)
  (a0e (a0i (a4f (a2y T) hr (a0h 0) (a0c (a2g (a3b (K:=K) rfl) T.n_len PySem.boot_len (a0c (a0z (K:=K) rfl (a0h 0)) a0a)) (a0c a2d a0a))))))),?_⟩
 have tn:=M.tn.mono M.sb
 refine b0u (fun σ' H'=>H'=H/\σ'=[some (.ref x),some (.int ((r.length:Int) - (unt D:Int)))]) (fun nx hn=>?_) ?_
 ·refine⟨x,_,dx,_,_,rfl,M.hx,T.a0d,T.a0k,rfl,?_⟩
  refine⟨_,.inl (.of M.hb),?_⟩
  rw[List.length_map]
  cases D with
  | br =>
   obtain⟨dxo,ho⟩:=id tn
   exact .inl ⟨x,_,dx,_,_,rfl,M.hx,T.a0d,T.a0m,rfl,o,dxo,_,rfl,ho,rfl,_,rfl,hn _ _ ⟨rfl,rfl⟩⟩
  | ld =>
   obtain⟨dxo,ho⟩:=id tn
   exact .inr (.inl ⟨x,_,dx,_,_,rfl,M.hx,T.a0d,T.a0m,rfl,o,dxo,_,rfl,ho,rfl,_,rfl,hn _ _ ⟨rfl,rfl⟩⟩)
  | pr h =>
   obtain⟨dxo,ho⟩:=id tn
   exact .inr (.inr (.inl ⟨x,_,dx,_,_,rfl,M.hx,T.a0d,T.a0m,rfl,o,dxo,_,rfl,ho,rfl,_,rfl,hn _ _ ⟨rfl,rfl⟩⟩))
  | sh f ns ms=>exact .inr (.inr (.inr (.inl ⟨x,_,dx,_,_,rfl,M.hx,T.a0d,T.a0m,rfl,o,f.dx,_,rfl,Tg.o tn,rfl,_,rfl,hn _ _ ⟨rfl,rfl⟩⟩)))
  | tb f es=>exact .inr (.inr (.inr (.inr ⟨x,_,dx,_,_,rfl,M.hx,T.a0d,T.a0m,rfl,o,f.dx,_,rfl,tn.1.o,rfl,_,rfl,hn _ _ ⟨rfl,rfl⟩⟩)))
 rintro σ' H' ⟨rfl,rfl⟩
 have e:=M.mo rfl
 refine a1v (fun _=>?_) (fun z=>absurd (decide_eq_true (show (r.length:Int) - (unt D:Int) > 0 by omega)) z)
 have ec:(r.length:Int) - (unt D:Int)=((r.length - unt D:Nat):Int):=by omega
 rw[ec]
 refine⟨x,dx,_,rfl,M.hx,rfl,Hb,x,dx,o,b,mt,y,D,W,g,c,r,L,rfl,M,hno,k⟩
theorem g3a (T:Txt w K mg t):c4v P w K mg base t.a0p "look_at_begun" 11 t.a3c t.a3a ["self"] (g5g t false):=by
 have h_GoingReader_meet_none:=fun (T:Txt w K mg t)=>g2x (P:=P) (base:=base) T
 refine⟨T.a0d,T.mt_GoingReader_look_at_begun,T.a7g,T.a7h.okQ a2v (fun vs H Q E h=>by obtain⟨Hb,x,dx,o,b,mt,y,D,W,g,c,r,L,rfl,_⟩:=h; rfl) fun cdv A outer s H vs Q E hr h=>?_⟩
 obtain⟨Hb,x,dx,o,b,mt,y,D,W,g,c,r,L,rfl,M,k⟩:=h
 have hu:=hr.units
 refine⟨_,(a0b (a0r (i:=1) a2v.nd rfl (by first | exact Or.inl rfl | exact Or.inr rfl) (a4e (a2r (c0r T) hr (a0z (K:=K) rfl (a0h 0)) (a0c (a0z (K:=K) rfl (a0h 0)) (a0c (a0z (K:=K) rfl (a0h 0)) a0a))) (a4e (a2r (b5j T) hr (a0z (K:=K) rfl (a0h 0)) (a0c (a0z (K:=K) rfl (a0h 0)) (a0c (a0z (K:=K) rfl (a0h 0)) a0a))) (a4e (a2r (b5i T) hr (a0z (K:=K) rfl (a0h 0)) (a0c (a0z (K:=K) rfl (a0h 0)) (a0c (a0z (K:=K) rfl (a0h 0)) a0a))) (a4e (a2r (b3m T) hr (a0z (K:=K) rfl (a0h 0)) (a0c (a0z (K:=K) rfl (a0h 0)) (a0c (a0z (K:=K) rfl (a0h 0)) a0a))) (a2r (b3l T) hr (a0z (K:=K) rfl (a0h 0)) (a0c (a0z (K:=K) rfl (a0h 0)) (a0c (a0z (K:=K) rfl (a0h 0)) a0a))))))))
  (a0b (a0w (a0o (a4q (K:=K) rfl hu) (a1b (a1y (K:=K) rfl) (a0h 1) a0g (fun _ _=>rfl)) a2d (a1e _)) (a0e (a0i (a0y a0a))) a0n)
  (a0b (a0w (a0o (a4q (K:=K) rfl hu) (a1b (a1y (K:=K) rfl) (a0h 1) a0g (fun _ _=>rfl)) a2d (a1e _)) (a0e (a0i (a2l (h_GoingReader_meet_none T) hr (a0h 0)))) a0n)
  (a0b (a1w (K:=K) rfl (a0h 0) (a0y a0a))
  (a0b (a1w (K:=K) rfl (a0h 0) (a1b (a1y (K:=K) rfl) (a0h 1) a0g (fun _ _=>rfl)))
  (a0e (a0i (a0y (a0c (a1b (a1y (K:=K) rfl) (a0h 1) a0g (fun _ _=>rfl)) a0a))))))))),?_⟩
 have tn:=M.tn.mono M.sb
 refine b0u (fun σ' H'=>∃ pf,a1l H H'/\H' pf=some (.tup (lkV g (lkA D g r)))/\σ'=[some (.ref x),some (.ref pf)]) (fun nx hnx=>?_) ?_
 ·have fin : ∃ (o' q':Addr) (D':Kt) (g':Int) (r':List Int),([.ref o,.ref b,.int g]:List V)=[.ref o',.ref q',.int g']/\TN t H o' D'/\PgK D' g'/\H q'=some (.lst (r'.map V.int))/\Dm D' g' r'/\∀ p H',a1l H H'->H' p=some (.tup (lkV g' (lkA D' g' r')))->nx [some (.ref x),some (.ref p)] H':=⟨o,b,D,g,r,rfl,tn,M.pg,M.hb,M.dm,fun p H' s' hp=>hnx _ _ ⟨p,s',hp,rfl⟩⟩
  cases D with
  | br =>
   obtain⟨dxo,ho⟩:=id tn
   exact .inl ⟨x,_,dx,_,_,rfl,M.hx,T.a0d,T.a0m,rfl,o,dxo,_,rfl,ho,rfl,x,_,dx,_,_,rfl,M.hx,T.a0d,T.a0k,rfl,x,_,dx,_,_,rfl,M.hx,T.a0d,T.a1i,rfl,fin⟩
  | ld =>
   obtain⟨dxo,ho⟩:=id tn
   exact .inr (.inl ⟨x,_,dx,_,_,rfl,M.hx,T.a0d,T.a0m,rfl,o,dxo,_,rfl,ho,rfl,x,_,dx,_,_,rfl,M.hx,T.a0d,T.a0k,rfl,x,_,dx,_,_,rfl,M.hx,T.a0d,T.a1i,rfl,fin⟩)
  | pr h =>
   obtain⟨dxo,ho⟩:=id tn
   exact .inr (.inr (.inl ⟨x,_,dx,_,_,rfl,M.hx,T.a0d,T.a0m,rfl,o,dxo,_,rfl,ho,rfl,x,_,dx,_,_,rfl,M.hx,T.a0d,T.a0k,rfl,x,_,dx,_,_,rfl,M.hx,T.a0d,T.a1i,rfl,fin⟩))
  | sh f ns ms =>
   exact .inr (.inr (.inr (.inl ⟨x,_,dx,_,_,rfl,M.hx,T.a0d,T.a0m,rfl,o,f.dx,_,rfl,Tg.o tn,rfl,x,_,dx,_,_,rfl,M.hx,T.a0d,T.a0k,rfl,x,_,dx,_,_,rfl,M.hx,T.a0d,T.a1i,rfl,fin⟩)))
  | tb f es =>
   exact .inr (.inr (.inr (.inr ⟨x,_,dx,_,_,rfl,M.hx,T.a0d,T.a0m,rfl,o,f.dx,_,rfl,tn.1.o,rfl,x,_,dx,_,_,rfl,M.hx,T.a0d,T.a0k,rfl,x,_,dx,_,_,rfl,M.hx,T.a0d,T.a1i,rfl,fin⟩)))
 ·rintro σ' H1 ⟨pf,s1,hp,rfl⟩
  cases e:lkA D g r with
  | sg n g' =>
   rw[e]at hp
   have ez:lkZ false D g c r=(g',[],[.sg n]):=by
    simp only [lkZ,lkO,lkN,e,ite_self]
   rw[ez]at k
   refine⟨_,_,.inr (.of hp),a1f (j:=0) rfl,?_⟩
   refine⟨_,_,a1j.str _,a1j.str _,a0j g8t,a0j f9p,?_⟩
   refine a1v (fun z=>absurd (show PyData.eqv (.str "sign") (.str "more")=true from z) (by decide +kernel)) (fun _=>?_)
   refine⟨_,_,.inr (.of hp),a1f (j:=0) rfl,?_⟩
   refine⟨_,_,a1j.str _,a1j.str _,a0j g8t,a0j f9o,?_⟩
   refine a1v (fun z=>absurd (show PyData.eqv (.str "sign") (.str "none")=true from z) (by decide +kernel)) (fun _=>?_)
   refine⟨sz rfl,fun b' H2 g2=>?_⟩
   have s2:=s1.trans g2.sm
   have hx2:=s2 _ _ M.hx
   have hp2:=g2.sm _ _ hp
   have nb:H b'=none:=s1.free g2.nw
   have npx:pf≠x:=a1o hp2 hx2 (by intro z; cases z)
   have nbx:b'≠x:=(a0l M.hx nb).symm
   refine⟨x,_,dx,_,rfl,hx2,T.a0d,T.a0k,Nat.lt_of_lt_of_le (Nat.lt_succ_self 8) (by decide),?_⟩
   refine⟨_,_,.inr (.of (by rw[a1c npx]; exact hp2)),a1f (j:=2) rfl,?_⟩
   refine⟨x,_,dx,_,rfl,a0v,T.a0d,T.a1i,Nat.lt_of_lt_of_le (Nat.lt_succ_self 8) (by decide),?_⟩
   refine⟨_,_,.inr (.of (by rw[a1c npx,a1c npx]; exact hp2)),a1f (j:=1) rfl,?_⟩
   refine⟨sz rfl,fun q H3 g3=>?_⟩
   have kp:Kp x H H3:=Kp.trans (Kp.trans (Kp.of s2) (Kp.trans Kp.upd Kp.upd)) (Kp.of g3.sm)
   have nq:H q=none:=Kp.free (x:=x) (Kp.trans (Kp.of s2) (Kp.trans Kp.upd Kp.upd)) a0v g3.nw
   have hb3:=g3.sm b' _ (by rw[a1c nbx,a1c nbx]; exact g2.at_)
   refine k q b' [] H3 (fun a u e=>kp _ _ (a0l e M.fx) (M.sb _ _ e)) nq (M.sb.free nb) (a0l M.ft.1 nb).symm (a0l (by rw[a1c nbx,a1c nbx]; exact g2.at_) g3.nw).symm (g3.sm x _ (by rw[a0v]; rfl)) hb3 ?_ rfl g3.at_
   rw[List.append_nil]
   exact⟨kp _ _ (a1o M.ft.1 M.hx (by intro z; cases z)) M.ft.1,fun z hz=>kp _ _ (a1o (M.ft.2 z hz) M.hx (by intro z; cases z)) (M.ft.2 z hz)⟩
  | mo =>
   rw[e]at hp
   have ez:lkZ false D g c r=(g,r,[]):=by
    simp only [lkZ,lkO,lkN,e,ite_self]
   rw[ez]at k
   refine⟨_,_,.inr (.of hp),a1f (j:=0) rfl,?_⟩
   refine⟨_,_,a1j.str _,a1j.str _,a0j f9p,a0j f9p,?_⟩
   refine a1v (fun _=>?_) (fun z=>absurd (show PyData.eqv (.str "more") (.str "more")=true by decide +kernel) z)
   refine⟨sz rfl,fun q H2 g2=>?_⟩
   have s2:=s1.trans g2.sm
   have nq:=s1.free g2.nw
   exact k q b [] H2 (M.sb.trans s2) nq M.fb M.nbm (a0l M.hb nq).symm (s2 _ _ M.hx) (s2 _ _ M.hb) (by rw[List.append_nil]; exact M.ft.mono s2) rfl g2.at_
  | no =>
   rw[e]at hp
   refine⟨_,_,.inr (.of hp),a1f (j:=0) rfl,?_⟩
   refine⟨_,_,a1j.str _,a1j.str _,a0j f9o,a0j f9p,?_⟩
   refine a1v (fun z=>absurd (show PyData.eqv (.str "none") (.str "more")=true from z) (by decide +kernel)) (fun _=>?_)
   refine⟨_,_,.inr (.of hp),a1f (j:=0) rfl,?_⟩
   refine⟨_,_,a1j.str _,a1j.str _,a0j f9o,a0j f9o,?_⟩
   refine a1v (fun _=>?_) (fun z=>absurd (show PyData.eqv (.str "none") (.str "none")=true by decide +kernel) z)
   refine⟨x,dx,_,rfl,s1 _ _ M.hx,rfl,Hb,x,dx,o,b,mt,y,D,W,g,c,r,L,rfl,{ M with sb:=M.sb.trans s1,hx:=s1 _ _ M.hx,hb:=s1 _ _ M.hb,ft:=M.ft.mono s1 },e,fun q b' ps H' a1 a2=>k q b' ps H' a1 (s1.free a2)⟩
structure Hld (t:Adr) (Hb H:Hp) (x dx o b mt y:Addr) (D:Kt) (W:Wy) (g:Int) (c:Nat) (r:List Int) (L:FL):Prop where
 tn:TN t Hb o D
 wy:WyA t Hb y W
 sb:a1l Hb H
 fx:Hb x=none
 fb:Hb b=none
 fm:Hb mt=none
 nbm:b≠mt
 hx:H x=some (RdO t dx o b mt y g c false)
 hb:H b=some (.lst (r.map V.int))
 ft:FtA H mt L
 pg:PgK D g
 bg:Bgn D g r
 lc:r.length<=c
def h3x(t:Adr):Sp:=fun vs H Q _=>∃ (Hb:Hp) (x dx o b mt y:Addr) (D:Kt) (W:Wy) (g:Int) (c:Nat) (r:List Int) (L:FL) (v:Int),vs=[.ref x,.int v]/\Hld t Hb H x dx o b mt y D W g c r L/\0<=v/\v<=255/\L.length<=8999/\Rlk t Hb H x dx o mt y D W (c+1) L (stp D g r (c+1) v) Q
theorem c5q (T:Txt w K mg t):c4v P w K mg base t.a0p "take" 12 t.c0b t.b8z ["self", "byte"] (h3x t):=by
 refine⟨T.a0d,T.mt_GoingReader_take,T.d7x,T.d8k.okQ d3x (fun vs H Q E h=>by obtain⟨Hb,x,dx,o,b,mt,y,D,W,g,c,r,L,v,rfl,_⟩:=h; rfl) fun cdv A outer s H vs Q E hr h=>?_⟩
 obtain⟨Hb,x,dx,o,b,mt,y,D,W,g,c,r,L,v,rfl,⟨tn,wy,sb,fx,fb,fm,nbm,hx,hb,ft,pg,bg,lc⟩,v0,v1,lL,k⟩:=h
 have hu:=hr.units
 have l6:=(bg.byts pg).2
 have ln:(r++[v]).length=r.length+1:=by rw[List.length_append]; rfl
 have nbx:b≠x:=a1o hb hx (by intro z; cases z)
 by_cases one:(r++[v]).length=unt D
 ·have h_GoingReader_look_at_begun:=fun (T:Txt w K mg t)=>f1u (P:=P) (base:=base) T
  refine⟨_,(a0b (a2n (a5t (K:=K) rfl PySem.F.plainAttrs_list PySem.F.slot_list_append PySem.F.type_list_append a9v (a0z (K:=K) rfl (a0h 0)) (a0c (a0h 1) a0a)))
   (a0b (d9i (K:=K) rfl (a0h 0) a0g)
   (a0b (a0w (a0o (d4k (K:=K) rfl hu) (a0q f8d (a2g (a3b (K:=K) rfl) T.n_len PySem.boot_len (a0c (a0z (K:=K) rfl (a0h 0)) a0a)) (a4e (a2l (b3r T) hr (a0z (K:=K) rfl (a0h 0))) (a4e (a2l (a9i T) hr (a0z (K:=K) rfl (a0h 0))) (a4e (a2l (a9h T) hr (a0z (K:=K) rfl (a0h 0))) (a4e (a2l (a7m T) hr (a0z (K:=K) rfl (a0h 0))) (a2l (a7l T) hr (a0z (K:=K) rfl (a0h 0)))))))) a0g (a1e _)) (a0e (a0i (a0y a0a))) a0n)
   (a0e (a0i (a2l (h_GoingReader_look_at_begun T) hr (a0h 0))))))),?_⟩
  refine⟨x,_,dx,_,_,rfl,hx,T.a0d,T.a0k,rfl,?_⟩
  refine⟨.inl ⟨rfl,_,.of hb⟩,?_⟩
  refine⟨_,hb,e1m (by rw[List.length_map]; omega),?_⟩
  obtain⟨H1,e1⟩ : ∃ H1,H1=upd H b (.lst (r.map V.int++[.int v])):=⟨_,rfl⟩
  rw[<- e1]
  have hb1:H1 b=some (.lst ((r++[v]).map V.int)):=by rw[e1,a0v,List.map_append]; rfl
  have hx1:H1 x=some (RdO t dx o b mt y g c false):=by rw[e1,a1c nbx.symm]; exact hx
  refine⟨x,_,dx,_,_,rfl,hx1,T.a0d,T.a6m,rfl,_,_,rfl,rfl,dx,_,hx1,Nat.lt_of_lt_of_le (Nat.lt_succ_self 8) (by decide),?_⟩
  obtain⟨H2,e2⟩ : ∃ H2,H2=upd H1 x (RdO t dx o b mt y g (c+1) false):=⟨_,rfl⟩
  have e2':upd H1 x (.ins t.a0p dx (c7g "many" (.int ((c:Int)+1)) [("tongue",.ref o),("place",.int 0),("at_page",.int g),("begun",.ref b),("many",.int (c:Int)),("met",.ref mt),("ended",.bl false),("way",.ref y)]))=H2:=by rw[e2]; rfl
  rw[e2']
  have hx2:H2 x=some (RdO t dx o b mt y g (c+1) false):=by rw[e2]; exact a0v
  have hb2:H2 b=some (.lst ((r++[v]).map V.int)):=by rw[e2,a1c nbx]; exact hb1
  have sb2:a1l Hb H2:=by rw[e2,e1]; exact (sb.put fb).put fx
  have k2 : ∀ a u,a≠x->a≠b->H a=some u->H2 a=some u:=fun a u na nb e=>by rw[e2,a1c na,e1,a1c nb]; exact e
  have ft2:FtA H2 mt L:=ft.keep k2 hx hb nbm.symm
  have tn2:=tn.mono sb2
  have nq2 : ∀ q,H2 q=none->H q=none:=fun q nq=>by
   cases e:H q with
   | none=>rfl
   | some u =>
    have:=k2 q u (fun z=>by rw[z,hx2]at nq; cases nq) (fun z=>by rw[z,hb2]at nq; cases nq) e
    rw[nq]at this; cases this
  dsimp only
  refine b0u (fun σ' H'=>H'=H2/\(r++[v]).length%unt D=0/\σ'=[some (.ref x),some (.int v)]) (fun nx hnx=>?_) ?_
  ·have out : ¬ (r++[v]).length%unt D=0->∀ q H3,Gro H2 q (.lst []) H3->Q (.ref q) H3:=fun nev q H3 g3=>by
    have ez:stp D g r (c+1) v=(g,r++[v],[]):=by unfold stp; rw[if_neg nev]
    rw[ez]at k
    have nq:=nq2 q g3.nw
    exact k q b [] H3 (sb2.trans g3.sm) nq fb nbm (a0l hb nq).symm (g3.sm _ _ hx2) (g3.sm _ _ hb2) (by rw[List.append_nil]; exact ft2.mono g3.sm) rfl g3.at_
   refine⟨x,_,dx,_,_,rfl,hx2,T.a0d,T.a0k,rfl,?_⟩
   refine⟨_,.inl (.of hb2),?_⟩
   rw[List.length_map]
   cases D with
   | br =>
    obtain⟨dxo,ho⟩:=id tn2
    refine .inl ⟨x,_,dx,_,_,rfl,hx2,T.a0d,T.a0m,rfl,o,dxo,_,rfl,ho,rfl,_,rfl,Int.zero_lt_one,?_⟩
    exact a1v (fun z=>absurd z (by simp)) (fun _=>hnx _ _ ⟨rfl,Nat.mod_one _,rfl⟩)
   | ld =>
    obtain⟨dxo,ho⟩:=id tn2
    refine .inr (.inl ⟨x,_,dx,_,_,rfl,hx2,T.a0d,T.a0m,rfl,o,dxo,_,rfl,ho,rfl,_,rfl,Int.zero_lt_one,?_⟩)
    exact a1v (fun z=>absurd z (by simp)) (fun _=>hnx _ _ ⟨rfl,Nat.mod_one _,rfl⟩)
   | pr h =>
    obtain⟨dxo,ho⟩:=id tn2
    refine .inr (.inr (.inl ⟨x,_,dx,_,_,rfl,hx2,T.a0d,T.a0m,rfl,o,dxo,_,rfl,ho,rfl,_,rfl,(show (0:Int) < 2 by decide),?_⟩))
    refine a1v (fun z=>?_) (fun z=>?_)
    ·have z:(!decide ((((r++[v]).length:Nat):Int)%2=0))=true:=z
     refine⟨sz rfl,out (fun y=>?_)⟩
     have y:(r++[v]).length%2=0:=y
     rw[decide_eq_true (by omega)]at z
     cases z
    ·refine hnx _ _ ⟨rfl,?_,rfl⟩
     have z : ¬ (!decide ((((r++[v]).length:Nat):Int)%2=0))=true:=z
     show (r++[v]).length%2=0
     rcases Nat.mod_two_eq_zero_or_one (r++[v]).length with y | y
     ·exact y
     ·exact absurd (by rw[decide_eq_false (by omega)]; rfl) z
   | sh f ns ms =>
    refine .inr (.inr (.inr (.inl ⟨x,_,dx,_,_,rfl,hx2,T.a0d,T.a0m,rfl,o,f.dx,_,rfl,Tg.o tn2,rfl,_,rfl,Int.zero_lt_one,?_⟩)))
    exact a1v (fun z=>absurd z (by simp)) (fun _=>hnx _ _ ⟨rfl,Nat.mod_one _,rfl⟩)
   | tb f es =>
    refine .inr (.inr (.inr (.inr ⟨x,_,dx,_,_,rfl,hx2,T.a0d,T.a0m,rfl,o,f.dx,_,rfl,tn2.1.o,rfl,_,rfl,Int.zero_lt_one,?_⟩)))
    exact a1v (fun z=>absurd z (by simp)) (fun _=>hnx _ _ ⟨rfl,Nat.mod_one _,rfl⟩)
  rintro σ' H' ⟨rfl,ev,rfl⟩
  have lu:unt D<=(r++[v]).length:=by
   rcases Nat.lt_or_ge (r++[v]).length (unt D) with z | z
   ·rw[Nat.mod_eq_of_lt z]at ev; omega
   ·exact z
  have ez:stp D g r (c+1) v=lkZ true D g (c+1) (r++[v]):=by
   unfold stp lkZ
   rw[if_pos ev]
   rw[if_pos one,if_pos rfl]
  rw[ez]at k
  exact⟨x,dx,_,rfl,hx2,rfl,Hb,x,dx,o,b,mt,y,D,W,g,c+1,r++[v],L,rfl,⟨tn,wy,sb2,fx,fb,fm,nbm,hx2,hb2,ft2,pg,e3h bg v0 v1,e3i bg v0 v1,by omega,by omega,lu,by omega,(fun _=>one),(fun z=>nomatch z),fun _=>lL⟩,fun q b' ps H' a1 a2=>k q b' ps H' a1 (nq2 q a2)⟩
 ·have h_GoingReader_look_at_begun:=fun (T:Txt w K mg t)=>g3a (P:=P) (base:=base) T
  refine⟨_,(a0b (a2n (a5t (K:=K) rfl PySem.F.plainAttrs_list PySem.F.slot_list_append PySem.F.type_list_append a9v (a0z (K:=K) rfl (a0h 0)) (a0c (a0h 1) a0a)))
   (a0b (d9i (K:=K) rfl (a0h 0) a0g)
   (a0b (a0w (a0o (d4k (K:=K) rfl hu) (a0q f8d (a2g (a3b (K:=K) rfl) T.n_len PySem.boot_len (a0c (a0z (K:=K) rfl (a0h 0)) a0a)) (a4e (a2l (b3r T) hr (a0z (K:=K) rfl (a0h 0))) (a4e (a2l (a9i T) hr (a0z (K:=K) rfl (a0h 0))) (a4e (a2l (a9h T) hr (a0z (K:=K) rfl (a0h 0))) (a4e (a2l (a7m T) hr (a0z (K:=K) rfl (a0h 0))) (a2l (a7l T) hr (a0z (K:=K) rfl (a0h 0)))))))) a0g (a1e _)) (a0e (a0i (a0y a0a))) a0n)
   (a0e (a0i (a2l (h_GoingReader_look_at_begun T) hr (a0h 0))))))),?_⟩
  refine⟨x,_,dx,_,_,rfl,hx,T.a0d,T.a0k,rfl,?_⟩
  refine⟨.inl ⟨rfl,_,.of hb⟩,?_⟩
  refine⟨_,hb,e1m (by rw[List.length_map]; omega),?_⟩
  obtain⟨H1,e1⟩ : ∃ H1,H1=upd H b (.lst (r.map V.int++[.int v])):=⟨_,rfl⟩
  rw[<- e1]
  have hb1:H1 b=some (.lst ((r++[v]).map V.int)):=by rw[e1,a0v,List.map_append]; rfl
  have hx1:H1 x=some (RdO t dx o b mt y g c false):=by rw[e1,a1c nbx.symm]; exact hx
  refine⟨x,_,dx,_,_,rfl,hx1,T.a0d,T.a6m,rfl,_,_,rfl,rfl,dx,_,hx1,Nat.lt_of_lt_of_le (Nat.lt_succ_self 8) (by decide),?_⟩
  obtain⟨H2,e2⟩ : ∃ H2,H2=upd H1 x (RdO t dx o b mt y g (c+1) false):=⟨_,rfl⟩
  have e2':upd H1 x (.ins t.a0p dx (c7g "many" (.int ((c:Int)+1)) [("tongue",.ref o),("place",.int 0),("at_page",.int g),("begun",.ref b),("many",.int (c:Int)),("met",.ref mt),("ended",.bl false),("way",.ref y)]))=H2:=by rw[e2]; rfl
  rw[e2']
  have hx2:H2 x=some (RdO t dx o b mt y g (c+1) false):=by rw[e2]; exact a0v
  have hb2:H2 b=some (.lst ((r++[v]).map V.int)):=by rw[e2,a1c nbx]; exact hb1
  have sb2:a1l Hb H2:=by rw[e2,e1]; exact (sb.put fb).put fx
  have k2 : ∀ a u,a≠x->a≠b->H a=some u->H2 a=some u:=fun a u na nb e=>by rw[e2,a1c na,e1,a1c nb]; exact e
  have ft2:FtA H2 mt L:=ft.keep k2 hx hb nbm.symm
  have tn2:=tn.mono sb2
  have nq2 : ∀ q,H2 q=none->H q=none:=fun q nq=>by
   cases e:H q with
   | none=>rfl
   | some u =>
    have:=k2 q u (fun z=>by rw[z,hx2]at nq; cases nq) (fun z=>by rw[z,hb2]at nq; cases nq) e
    rw[nq]at this; cases this
  dsimp only
  refine b0u (fun σ' H'=>H'=H2/\(r++[v]).length%unt D=0/\σ'=[some (.ref x),some (.int v)]) (fun nx hnx=>?_) ?_
  ·have out : ¬ (r++[v]).length%unt D=0->∀ q H3,Gro H2 q (.lst []) H3->Q (.ref q) H3:=fun nev q H3 g3=>by
    have ez:stp D g r (c+1) v=(g,r++[v],[]):=by unfold stp; rw[if_neg nev]
    rw[ez]at k
    have nq:=nq2 q g3.nw
    exact k q b [] H3 (sb2.trans g3.sm) nq fb nbm (a0l hb nq).symm (g3.sm _ _ hx2) (g3.sm _ _ hb2) (by rw[List.append_nil]; exact ft2.mono g3.sm) rfl g3.at_
   refine⟨x,_,dx,_,_,rfl,hx2,T.a0d,T.a0k,rfl,?_⟩
   refine⟨_,.inl (.of hb2),?_⟩
   rw[List.length_map]
   cases D with
   | br =>
    obtain⟨dxo,ho⟩:=id tn2
    refine .inl ⟨x,_,dx,_,_,rfl,hx2,T.a0d,T.a0m,rfl,o,dxo,_,rfl,ho,rfl,_,rfl,Int.zero_lt_one,?_⟩
    exact a1v (fun z=>absurd z (by simp)) (fun _=>hnx _ _ ⟨rfl,Nat.mod_one _,rfl⟩)
   | ld =>
    obtain⟨dxo,ho⟩:=id tn2
    refine .inr (.inl ⟨x,_,dx,_,_,rfl,hx2,T.a0d,T.a0m,rfl,o,dxo,_,rfl,ho,rfl,_,rfl,Int.zero_lt_one,?_⟩)
    exact a1v (fun z=>absurd z (by simp)) (fun _=>hnx _ _ ⟨rfl,Nat.mod_one _,rfl⟩)
   | pr h =>
    obtain⟨dxo,ho⟩:=id tn2
    refine .inr (.inr (.inl ⟨x,_,dx,_,_,rfl,hx2,T.a0d,T.a0m,rfl,o,dxo,_,rfl,ho,rfl,_,rfl,(show (0:Int) < 2 by decide),?_⟩))
    refine a1v (fun z=>?_) (fun z=>?_)
    ·have z:(!decide ((((r++[v]).length:Nat):Int)%2=0))=true:=z
     refine⟨sz rfl,out (fun y=>?_)⟩
     have y:(r++[v]).length%2=0:=y
     rw[decide_eq_true (by omega)]at z
     cases z
    ·refine hnx _ _ ⟨rfl,?_,rfl⟩
     have z : ¬ (!decide ((((r++[v]).length:Nat):Int)%2=0))=true:=z
     show (r++[v]).length%2=0
     rcases Nat.mod_two_eq_zero_or_one (r++[v]).length with y | y
     ·exact y
     ·exact absurd (by rw[decide_eq_false (by omega)]; rfl) z
   | sh f ns ms =>
    refine .inr (.inr (.inr (.inl ⟨x,_,dx,_,_,rfl,hx2,T.a0d,T.a0m,rfl,o,f.dx,_,rfl,Tg.o tn2,rfl,_,rfl,Int.zero_lt_one,?_⟩)))
    exact a1v (fun z=>absurd z (by simp)) (fun _=>hnx _ _ ⟨rfl,Nat.mod_one _,rfl⟩)
   | tb f es =>
    refine .inr (.inr (.inr (.inr ⟨x,_,dx,_,_,rfl,hx2,T.a0d,T.a0m,rfl,o,f.dx,_,rfl,tn2.1.o,rfl,_,rfl,Int.zero_lt_one,?_⟩)))
    exact a1v (fun z=>absurd z (by simp)) (fun _=>hnx _ _ ⟨rfl,Nat.mod_one _,rfl⟩)
  rintro σ' H' ⟨rfl,ev,rfl⟩
  have lu:unt D<=(r++[v]).length:=by
   rcases Nat.lt_or_ge (r++[v]).length (unt D) with z | z
   ·rw[Nat.mod_eq_of_lt z]at ev; omega
   ·exact z
  have ez:stp D g r (c+1) v=lkZ false D g (c+1) (r++[v]):=by
   unfold stp lkZ
   rw[if_pos ev]
   rw[if_neg one,if_neg (by decide)]
  rw[ez]at k
  exact⟨x,dx,_,rfl,hx2,rfl,Hb,x,dx,o,b,mt,y,D,W,g,c+1,r++[v],L,rfl,⟨tn,wy,sb2,fx,fb,fm,nbm,hx2,hb2,ft2,pg,e3h bg v0 v1,e3i bg v0 v1,by omega,by omega,lu,by omega,(fun z=>nomatch z),(fun _=>by omega),fun _=>lL⟩,fun q b' ps H' a1 a2=>k q b' ps H' a1 (nq2 q a2)⟩
theorem e9f{D:Kt}{g n:Int}(tn:Kok D)(pg:PgK D g)(hn:InT D n):1<=(e2d D g n).1.length:=by
 cases D with
 | ld=>exact (e9v n).1
 | pr h=>show 1<=(e2p h n).length; rw[f0g]; split <;> omega
 | sh f ns ms =>
  obtain⟨r,g',e,_,hr⟩:=e9h pg hn
  rw[f9f e]
  rcases hr with ⟨b,rfl,_⟩ | ⟨c,rfl,_⟩
  ·show 1<=1; decide
  ·show 1<=2; decide
 | tb f es =>
  obtain⟨e,he,_,ef⟩:=c7l hn
  have es':e2d (.tb f es) g n=(e.2,g):=by
   show (Option.map _ _).getD _=_
   rw[ef]; rfl
  rw[es']
  exact (Es.sg tn e he).2.1
 | br=>exact hn.elim
def Thg(D:Kt)(x:Int):Prop:=(61184<=x/\x<=61439)\/InT D x
theorem e9k{D:Kt}{g x:Int}(ok:KoS D)(pg:PgK D g)(h:Thg D x):PgK D (spS D g x).2/\1<=(spS D g x).1.length/\(spS D g x).1.length<=6:=by
 unfold spS
 by_cases c:61184<=x/\x<=61439
 ·rw[if_pos c]; exact⟨pg,by show 1<=1; decide,by show 1<=6; decide⟩
 ·rw[if_neg c]
  have h:=h.resolve_left c
  obtain⟨r,g',_,ef,p,l⟩:=e9g ok.kok pg h
  have z:=e9f ok.kok pg h
  rw[ef]at z ⊢
  exact⟨p,z,l⟩
theorem e4h{D:Kt}(ok:KoS D) : ∀ (xs:List Int) (g:Int),PgK D g->(∀ x∈xs,Thg D x)->PgK D (wrS D g xs).2/\xs.length<=(wrS D g xs).1.length
 | [],g,pg,_=>⟨pg,Nat.le_refl _⟩
 | x :: xs,g,pg,h=>by
  have e:wrS D g (x :: xs)=wrS D g ([x]++xs):=rfl
  obtain⟨a,b,_⟩:=e9k ok pg (h x (List.mem_cons_self ..))
  obtain⟨c,d⟩:=e4h ok xs _ a fun y hy=>h y (List.mem_cons_of_mem _ hy)
  rw[e,b8i,d5r]
  exact⟨c,by rw[List.length_cons,List.length_append]; omega⟩
theorem e2a{D:Kt}{es:List Ev}(h : ∀ e∈es,Ok1 D e) : ∀ x∈tld .se es,Thg D x:=fun x hx=>by
 obtain⟨e,he,hx⟩:=List.mem_flatMap.mp hx
 have o:=h e he
 cases e with
 | sg n=>rw[List.mem_singleton.mp hx]; exact .inr o
 | ft p l k bs =>
  obtain⟨b,hb,rfl⟩:=List.mem_map.mp hx
  have:=o.1 b hb
  exact .inl (by omega)
theorem e4k(W:Wy) : ∀ es:List Ev,(tld W es).length<=(tld .se es).length+es.length
 | []=>Nat.le_refl _
 | e :: es=>by
  have ih:=e4k W es
  have h1:(tl1 W e).length<=(tl1 .se e).length+1:=by
   cases e with
   | sg n=>show 1<=1+1; decide
   | ft p l k bs=>cases W <;> simp[tl1,tlB]
  show (tl1 W e++tld W es).length<=(tl1 .se e++tld .se es).length+(es.length+1)
  rw[List.length_append,List.length_append]
  omega
theorem e2k{D:Kt}(ok:KoS D)(W:Wy){bs:List Int}{g:Int}{r:List Int}(c:Nat)(pg:PgK D g)(bg:Bgn D g r)(hb:b5u bs):(tld W (run D g r c bs).2.2).length<=r.length+3*bs.length:=by
 obtain⟨_,_,h3,_,h5,h6⟩:=b3s ok bs g r c pg bg hb
 have a:=e4k W (run D g r c bs).2.2
 have b:=(e4h ok _ g pg (e2a h5)).2
 have e:=congrArg List.length h3
 rw[List.length_append,List.length_append]at e
 omega
theorem c7k : ∀ es:List Ev,(fts es).length<=es.length
 | []=>Nat.le_refl _
 | .sg n :: es=>Nat.le_succ_of_le (c7k es)
 | .ft p l k bs :: es=>Nat.succ_le_succ (c7k es)
def h4r(K:PySem.W.Frag)(t:Adr):Sp:=fun vs H Q _=>∃ (Hb:Hp) (x dx o b mt y a:Addr) (D:Kt) (W:Wy) (g:Int) (c:Nat) (r:List Int) (L:FL) (ws:List Int),vs=[.ref x,.ref a]/\Hld t Hb H x dx o b mt y D W g c r L/\SqL K Hb a (ws.map V.int)/\b5u ws/\ws.length<=1000/\L.length<=4000/\Rlk t Hb H x dx o mt y D W (c+ws.length) L (run D g r c ws) Q
theorem a7n (T:Txt w K mg t):c4v P w K mg base t.a0p "feed" 13 t.c0e t.b9b ["self", "row"] (h4r K t):=by
 refine⟨T.a0d,T.mt_GoingReader_feed,T.d8a,T.d8m.okQ b6h (fun vs H Q E h=>by obtain⟨Hb,x,dx,o,b,mt,y,a,D,W,g,c,r,L,ws,rfl,_⟩:=h; rfl) fun cdv A outer s H vs Q E hr h=>?_⟩
 obtain⟨Hb,x,dx,o,b0,mt,y,a,D,W,g,c,r,L,ws,rfl,⟨tn,wy,sb,fx,fb0,fm,nbm0,hx,hb0,ft,pg,bg,lc⟩,ha,hws,lw,lL,k⟩:=h
 have hu:=hr.units
 have ok:=tn.koS
 have l6:=(bg.byts pg).2
 refine⟨_,(a0b (a0r (i:=2) b6h.nd rfl (by first | exact Or.inl rfl | exact Or.inr rfl) (a0y a0a))
  (a0b (a0w (a8e (K:=K) rfl (a0z (K:=K) rfl (a0h 0))) (a0e (a0i (a0h 2))) a0n)
  (a0b (a4x PassesOwn.never rfl (a2q (K:=K) rfl (a0h 1)) (a0x (i:=3) b6h.nd rfl (by first | exact Or.inl rfl | exact Or.inr rfl)) (a0b (a2n (a5t (K:=K) rfl PySem.F.plainAttrs_list PySem.F.slot_list_extend PySem.F.type_list_extend (c7i (K:=K) rfl) (a0h 2) (a0c (a4f (c5q T) hr (a0h 0) (a0c (a0h 3) a0a)) a0a)))
  (a0e (a0w (a8e (K:=K) rfl (a0z (K:=K) rfl (a0h 0))) (a0e e6z) a0n))))
  (a0e (a0i (a0h 2)))))),?_⟩
 refine⟨sz rfl,fun q H1 g1=>?_⟩
 have s1:=sb.trans g1.sm
 have fq:Hb q=none:=sb.free g1.nw
 have hx1:=g1.sm _ _ hx
 have nqm:q≠mt:=(a0l ft.1 g1.nw).symm
 have nqx:q≠x:=(a0l hx g1.nw).symm
 refine⟨x,_,dx,_,_,rfl,hx1,T.a0d,T.a4g,rfl,?_⟩
 refine⟨a,rfl,⟨_,s1.seq ha⟩,b8t (K:=K) (a:=a) (xs:=ws.map V.int) (fun i σ H'=>a1l Hb H'/\∃ (b:Addr) (ps:FL) (v3:Option V),Hb b=none/\q≠b/\b≠mt/\H' x=some (RdO t dx o b mt y (run D g r c (ws.take i)).1 (c+i) false)/\H' b=some (.lst ((run D g r c (ws.take i)).2.1.map V.int))/\FtA H' mt (L++ps)/\ps.map (fun x=>x.2)=fts (run D g r c (ws.take i)).2.2/\H' q=some (.lst ((tld W (run D g r c (ws.take i)).2.2).map V.int))/\σ=[some (.ref x),some (.ref a),some (.ref q),v3])
  ⟨s1,b0,[],_,fb0,(a0l hb0 g1.nw).symm,nbm0,hx1,g1.sm _ _ hb0,by rw[List.append_nil]; exact ft.mono g1.sm,rfl,g1.at_,rfl⟩ (fun i σ H' _ z=>z.1.seq ha) ?_ ?_⟩
 ·rintro i v σ H3 hv ⟨s3,b,ps,v3,fb,nqb,nbm,hx3,hb3,ft3,eps,hq3,rfl⟩
  obtain⟨by',hby,rfl⟩:=a6p hv
  have hi:i < ws.length:=(List.getElem?_eq_some_iff.mp hby).1
  have hv01:=hws by' (List.mem_of_getElem? hby)
  have htk:b5u (ws.take i):=fun z hz=>hws z (List.mem_of_mem_take hz)
  obtain⟨pg3,bg3,acc3,_,ev3,le3⟩:=b3s ok (ws.take i) g r c pg bg htk
  have rl:=e2k ok W (r:=r) c pg bg htk
  have lti:(ws.take i).length=i:=by rw[List.length_take]; omega
  have nxt:run D g r c (ws.take (i+1))=((stp D (run D g r c (ws.take i)).1 (run D g r c (ws.take i)).2.1 (c+i+1) by').1,(stp D (run D g r c (ws.take i)).1 (run D g r c (ws.take i)).2.1 (c+i+1) by').2.1,(run D g r c (ws.take i)).2.2++(stp D (run D g r c (ws.take i)).1 (run D g r c (ws.take i)).2.1 (c+i+1) by').2.2):=by
   rw[a5w hby,e4r,lti]
  have lc3:(run D g r c (ws.take i)).2.1.length<=c+i:=by
   have:=congrArg List.length acc3
   rw[List.length_append,List.length_append,lti]at this
   omega
  have lps:ps.length<=2*i:=by
   have:=congrArg List.length eps
   rw[List.length_map]at this
   have:=c7k (run D g r c (ws.take i)).2.2
   omega
  obtain⟨gd1,gd2,gd3,gd4,gd5,gd6⟩:=e5f (c+i+1) ok pg3 bg3 hv01.1 hv01.2
  have lst4:(tld W (stp D (run D g r c (ws.take i)).1 (run D g r c (ws.take i)).2.1 (c+i+1) by').2.2).length<=20:=by
   have a1:=e4k W (stp D (run D g r c (ws.take i)).1 (run D g r c (ws.take i)).2.1 (c+i+1) by').2.2
   have a2:=(e4h ok _ _ pg3 (e2a gd5)).2
   have a3:=congrArg List.length gd3
   have a4:=(bg3.byts pg3).2
   rw[List.length_append,List.length_append]at a3
   simp at a3
   omega
  have sw:a1l Hb (wo H3 [x,b,mt]):=c8r s3 fx fb fm
  refine⟨.inl ⟨rfl,_,.of hq3⟩,?_⟩
  refine⟨x,dx,_,rfl,hx3,rfl,wo H3 [x,b,mt],x,dx,o,b,mt,y,D,W,_,c+i,_,L++ps,by',rfl,⟨tn.mono sw,wy.mono sw,b8j,b3b (by simp),b3b (by simp),b3b (by simp),nbm,hx3,hb3,ft3,pg3,bg3,lc3⟩,hv01.1,hv01.2,by rw[List.length_append]; omega,fun q2 b2 ps2 H4 s4 nq2 fb2 nbm2 nqb2 hx4 hb4 ft4 eps2 hq4=>?_⟩
  have hqq:=s4 _ _ (wo3 nqx nqb nqm hq3)
  refine⟨_,_,hqq,hq4,szl (by rw[List.length_map,List.length_map]; omega),?_⟩
  have nqx':x≠q:=nqx.symm
  have nqb2':b2≠q:=fun z=>by
   have:=wo3 (H:=H3) nqx nqb nqm hq3
   rw[z]at fb2
   rw[fb2]at this; cases this
  have hx5:upd H4 q (.lst ((tld W (run D g r c (ws.take i)).2.2).map V.int++(tld W (stp D (run D g r c (ws.take i)).1 (run D g r c (ws.take i)).2.1 (c+i+1) by').2.2).map V.int)) x=some (RdO t dx o b2 mt y (stp D (run D g r c (ws.take i)).1 (run D g r c (ws.take i)).2.1 (c+i+1) by').1 (c+i+1) false):=by rw[a1c nqx']; exact hx4
  refine⟨x,_,dx,_,_,rfl,hx5,T.a0d,T.a4g,rfl,?_⟩
  refine⟨(sw.trans s4).put fq,b2,ps++ps2,_,sw.free fb2,nqb2'.symm,nbm2,?_,?_,?_,?_,?_,rfl⟩
  ·rw[nxt]; exact hx5
  ·rw[nxt,a1c nqb2']; exact hb4
  ·rw[<- List.append_assoc]
   exact⟨by rw[a1c nqm.symm]; exact ft4.1,fun z hz=>by rw[a1c (a1o (ft4.2 z hz) hqq (by intro z; cases z))]; exact ft4.2 z hz⟩
  ·rw[nxt,List.map_append,eps,eps2,b8s]
  ·rw[nxt,a0v,b8k,List.map_append]
 ·rintro σ H3 ⟨s3,b,ps,v3,fb,nqb,nbm,hx3,hb3,ft3,eps,hq3,rfl⟩
  rw[List.length_map,List.take_length]at hx3 hb3 eps hq3
  exact k q b ps H3 s3 g1.nw fb nbm nqb hx3 hb3 ft3 eps hq3
def enE(c:Nat)(r:List Int):List Ev:=if r=[] then [] else [.ft (c - r.length) r.length "short" r]
def h4t(t:Adr):Sp:=fun vs H Q _=>∃ (Hb:Hp) (x dx o b mt y:Addr) (D:Kt) (W:Wy) (g:Int) (c:Nat) (r:List Int) (L:FL),vs=[.ref x]/\Hld t Hb H x dx o b mt y D W g c r L/\L.length<=9000 /\
 ∀ (q b':Addr) (ps:FL) H',a1l Hb H'->H q=none->H' x=some (RdO t dx o b' mt y g c true)->FtA H' mt (L++ps)->ps.map (fun x=>x.2)=fts (enE c r)->H' q=some (.lst ((tld W (enE c r)).map V.int))->Q (.ref q) H'
theorem b1q (T:Txt w K mg t):c4v P w K mg base t.a0p "end" 3 t.c1q t.c1a ["self"] (h4t t):=by
 have a2y:=fun (T:Txt w K mg t)=>f1t (P:=P) (base:=base) T
 refine⟨T.a0d,T.mt_GoingReader_end,T.e0s,T.e1k.okQ c5h (fun vs H Q E h=>by obtain⟨Hb,x,dx,o,b,mt,y,D,W,g,c,r,L,rfl,_⟩:=h; rfl) fun cdv A outer s H vs Q E hr h=>?_⟩
 obtain⟨Hb,x,dx,o,b,mt,y,D,W,g,c,r,L,rfl,M,lL,k⟩:=h
 have hu:=hr.units
 have l6:=(M.bg.byts M.pg).2
 refine⟨_,(a0b (a0w (a8e (K:=K) rfl (a0z (K:=K) rfl (a0h 0))) (a0e (a0i (a0y a0a))) a0n)
  (a0b (a0r (i:=1) c5h.nd rfl (by first | exact Or.inl rfl | exact Or.inr rfl) (a7b (a8e (K:=K) rfl (a0z (K:=K) rfl (a0h 0))) (a4f (a2y T) hr (a0h 0) (a0c (a2g (a3b (K:=K) rfl) T.n_len PySem.boot_len (a0c (a0z (K:=K) rfl (a0h 0)) a0a)) (a0c a2d a0a))) (a0y a0a)))
  (a0b (a1w (K:=K) rfl (a0h 0) b5d)
  (a0e (a0i (a0h 1)))))),?_⟩
 refine⟨x,_,dx,_,_,rfl,M.hx,T.a0d,T.a4g,rfl,?_⟩
 unfold f5r
 dsimp only
 rw[if_neg (by decide)]
 refine b0u (fun σ' H'=>a1l Hb H'/\∃ (q b':Addr) (ps:FL),H q=none/\H' x=some (RdO t dx o b' mt y g c false)/\FtA H' mt (L++ps)/\ps.map (fun x=>x.2)=fts (enE c r)/\H' q=some (.lst ((tld W (enE c r)).map V.int))/\σ'=[some (.ref x),some (.ref q)]) (fun nx hn=>?_) ?_
 ·refine⟨x,_,dx,_,_,rfl,M.hx,T.a0d,T.a0k,rfl,_,.inl (.of M.hb),?_⟩
  cases r with
  | nil =>
   refine⟨sz rfl,fun q H1 g1=>?_⟩
   exact hn _ _ ⟨M.sb.trans g1.sm,q,b,[],g1.nw,g1.sm _ _ M.hx,by rw[List.append_nil]; exact M.ft.mono g1.sm,rfl,g1.at_,rfl⟩
  | cons v r =>
   refine⟨x,dx,_,rfl,M.hx,rfl,?_⟩
   refine⟨x,_,dx,_,_,rfl,M.hx,T.a0d,T.a0k,rfl,_,.inl (.of M.hb),?_⟩
   refine⟨Hb,x,dx,o,b,mt,y,W,g,c,v :: r,L,_,by rw[List.length_map]; rfl,M.wy,M.sb,M.fx,M.fb,M.fm,M.nbm,M.hx,M.hb,M.ft,M.lc,by omega,by omega,fun q b' p H1 s1 nq nb nqb hx1 hb1 ft1 hq1=>?_⟩
   refine hn _ _ ⟨s1,q,b',[(p,c - (v :: r).length,(v :: r).length, "short")],nq,hx1,ft1,rfl,?_,rfl⟩
   rw[show tld W (enE c (v :: r))=tlB W (v :: r)++[] from rfl,List.append_nil]
   exact hq1
 ·rintro σ' H1 ⟨s1,q,b',ps,nq,hx1,ft1,eps,hq1,rfl⟩
  refine⟨x,_,dx,_,rfl,hx1,T.a0d,T.a4g,Nat.lt_of_lt_of_le (Nat.lt_succ_self 8) (by decide),?_⟩
  have nqx:q≠x:=(a0l M.hx nq).symm
  refine k q b' ps _ (s1.put M.fx) nq (by rw[a0v]; rfl) ⟨by rw[a1c (a1o ft1.1 hx1 (by intro z; cases z))]; exact ft1.1,fun z hz=>by rw[a1c (a1o (ft1.2 z hz) hx1 (by intro z; cases z))]; exact ft1.2 z hz⟩ eps (by rw[a1c nqx]; exact hq1)
def h4q(t:Adr):Sp:=fun vs H Q _=>∃ (x dx o b mt y:Addr) (g:Int) (c:Nat) (e:Bool) (L:FL),vs=[.ref x]/\H x=some (RdO t dx o b mt y g c e)/\FtA H mt L/\∀ p H',Gro H p (.lst (L.map fun x=>V.ref x.1)) H'->Q (.ref p) H'
theorem a4h (T:Txt w K mg t):c4v P w K mg base t.a0p "faults" 1 t.b5s t.b5o ["self"] (h4q t):=by
 refine⟨T.a0d,T.mt_GoingReader_faults,T.d2s,T.d3q.okQ c9h (fun vs H Q E h=>by obtain⟨x,dx,o,b,mt,y,g,c,e,L,rfl,_⟩:=h; rfl) fun cdv A outer s H vs Q E hr h=>?_⟩
 obtain⟨x,dx,o,b,mt,y,g,c,e,L,rfl,hx,ft,k⟩:=h
 refine⟨_,(a0e (a0i (a9o (b1t (K:=K) rfl) T.n_list PyProof.Rows.boot_list (a0c (a0z (K:=K) rfl (a0h 0)) a0a)))),?_⟩
 refine⟨x,_,dx,_,_,rfl,hx,T.a0d,T.b0y,rfl,?_⟩
 exact⟨_,.inl (.of ft.1),k⟩
def e8v(n:Int):Int:=if n < 128 then 1 else if n < 2048 then 2 else if n < 65536 then 3 else 4
theorem e7g{n:Int}(h:Sg n)(h1:128<=n) : ∃ (L:Nat) (v q0:Int) (c2u:List Int),e8v n=(L:Int)/\L≠1/\L<=4/\e2o 6 L n=q0 :: c2u/\[0,0,192,224,240][L]? = some v/\row n=(v+q0) :: c2u.map (fun x=>128+x)/\n < 2 ^ (6*L):=by
 obtain⟨h0,h2,_,_⟩:=h
 have c1 : ¬ n < 128:=by omega
 by_cases c2:n < 2048
 ·have e1:row n=[192+n / 64,128+n%64]:=by unfold row; rw[if_neg c1,if_pos c2]
  have e2:e8v n=2:=by unfold e8v; rw[if_neg c1,if_pos c2]
  rw[e1,e2]
  refine⟨2,192,n / 64%64,[n%64],rfl,by decide,by decide,by simp[e2o,List.range_succ],rfl,?_,by simp; omega⟩
  have:n / 64%64=n / 64:=by omega
  rw[this]; rfl
 by_cases c3:n < 65536
 ·have e1:row n=[224+n / 4096,128+n / 64%64,128+n%64]:=by unfold row; rw[if_neg c1,if_neg c2,if_pos c3]
  have e2:e8v n=3:=by unfold e8v; rw[if_neg c1,if_neg c2,if_pos c3]
  rw[e1,e2]
  refine⟨3,224,n / 4096%64,[n / 64%64,n%64],rfl,by decide,by decide,by simp[e2o,List.range_succ],rfl,?_,by simp; omega⟩
  have:n / 4096%64=n / 4096:=by omega
  rw[this]; rfl
 have e1:row n=[240+n / 262144,128+n / 4096%64,128+n / 64%64,128+n%64]:=by unfold row; rw[if_neg c1,if_neg c2,if_neg c3]
 have e2:e8v n=4:=by unfold e8v; rw[if_neg c1,if_neg c2,if_neg c3]
 rw[e1,e2]
 refine⟨4,240,n / 262144%64,[n / 4096%64,n / 64%64,n%64],rfl,by decide,by decide,by simp[e2o,List.range_succ],rfl,?_,by simp; omega⟩
 have:n / 262144%64=n / 262144:=by omega
 rw[this]; rfl
def f5u:Sp:=fun vs H Q _=>∃ (n:Int) (b m:Nat),vs=[.int n,.int (b:Int),.int (m:Int)]/\0<=n/\n < 2 ^ (b*m)/\b<=1000/\m<=1000/\∀ p H',Gro H p (.lst ((e2o b m n).map V.int)) H'->Q (.ref p) H'
theorem d6o (T:Txt w K mg t):Has P w K mg base "parted" 2 t.d8c t.d7b ["number", "bits", "many"] f5u:=by
 refine⟨T.f8b,T.e6h.kp,T.f8v,T.e6h.okQ c0n (fun vs H Q E h=>by obtain⟨n,b,m,rfl,_⟩:=h; rfl) fun cdv A outer s H vs Q E hr h=>?_⟩
 obtain⟨n,b,m,rfl,h0,h1,hb,hm,k⟩:=h
 refine⟨_,(a0b (a2n (a2a (c8w T) hr (a0c (a0h 0) (a0c (a0q c3y (a0h 1) (a0h 2)) a0a))))
  (a0b (a0r (i:=3) c0n.nd rfl (by first | exact Or.inl rfl | exact Or.inr rfl) (a0y a0a))
  (a0b (a4x PassesOwn.never rfl (b1p rfl T.n_range (a0c (a0h 2) a0a)) (a0x (i:=4) c0n.nd rfl (by first | exact Or.inl rfl | exact Or.inr rfl)) (a0b (a0r (i:=5) c0n.nd rfl (by first | exact Or.inl rfl | exact Or.inr rfl) (a0q h1f (a0h 0) (a0h 1)))
  (a0b (a2n (a5t (K:=K) rfl PySem.F.plainAttrs_list PySem.F.slot_list_append PySem.F.type_list_append a9v (a0h 3) (a0c (a0q b2z (a0h 0) (a0q f9y (a0h 5) (a0h 1))) a0a)))
  (a0e (a0r (i:=0) c0n.nd rfl (by first | exact Or.inl rfl | exact Or.inr rfl) (a0h 5))))))
  (a0e (a0i (f0c (K:=K) rfl rfl T.n_list T.n_reversed (a0c (a0h 3) a0a))))))),?_⟩
 have two64:(2:Int) ^ 64=18446744073709551616:=by decide
 refine⟨Or.inl ⟨by omega,by omega⟩,?_⟩
 refine⟨n,b*m,by rw[Int.natCast_mul]; rfl,h0,h1,?_⟩
 refine⟨sz rfl,fun p1 H1 g1=>?_⟩
 refine⟨(m:Int),rfl,by omega,by omega,?_⟩
 refine c5r (lo:=0) (n:=((m:Nat):Int).toNat) (fun i σ H'=>a1l H H'/\H' p1=some (.lst (((List.range i).map fun i=>n / 2 ^ (b*i)%2 ^ b).map V.int))/\∃ v4 v5,σ=[some (.int (n / 2 ^ (b*i))),some (.int b),some (.int m),some (.ref p1),v4,v5])
  ⟨g1.sm,g1.at_,_,_,by simp; rfl⟩ ?_ ?_
 ·rintro i σ H2 hi ⟨s2,h2,v4,v5,rfl⟩
  have hi':i < m:=by simpa using hi
  refine⟨by omega,?_⟩
  refine⟨.inl ⟨rfl,_,.of h2⟩,?_⟩
  have hq:0<=n / 2 ^ (b*i) / 2 ^ b/\n / 2 ^ (b*i) / 2 ^ b<=n:=by
   have z1:0<=n / 2 ^ (b*i):=Int.ediv_nonneg h0 (Int.le_of_lt (d5u _))
   exact⟨Int.ediv_nonneg z1 (Int.le_of_lt (d5u _)),Int.le_trans (Int.ediv_le_self _ z1) (Int.ediv_le_self _ h0)⟩
  have hbits:Builtin.Int.intBits (n / 2 ^ (b*i) / 2 ^ b)<=b*m:=intBits_le_iff.mpr (by
   have:((n / 2 ^ (b*i) / 2 ^ b).natAbs:Int) < ((2 ^ (b*m):Nat):Int):=by rw[Int.natAbs_of_nonneg hq.1,Int.natCast_pow]; exact Int.lt_of_le_of_lt hq.2 h1
   exact Int.ofNat_lt.mp this)
  have hbm:b*m<=1000000:=Nat.mul_le_mul hb hm
  refine⟨⟨by omega,show ((Builtin.Int.intBits (n / 2 ^ (b*i) / 2 ^ b):Nat):Int)+(b:Int)<=2 ^ 27 by omega⟩,?_⟩
  refine⟨_,h2,e1m (by simp; omega),?_⟩
  refine⟨s2.put g1.nw,?_,?_⟩
  ·rw[a0v,List.range_succ,List.map_append,List.map_append]
   have:=f7h (n / 2 ^ (b*i)) b
   exact congrArg (fun z=>some (HO.lst (_++[V.int z]))) this
  ·rw[<- f8o n b i]
   exact⟨_,_,rfl⟩
 ·rintro σ H2 ⟨s2,h2,v4,v5,rfl⟩
  refine⟨p1,_,rfl,.of h2,fun p3 H3 g3=>?_⟩
  have e:((List.map V.int ((List.range ((m:Nat):Int).toNat).map fun i=>n / 2 ^ (b*i)%2 ^ b))).reverse=(e2o b m n).map V.int:=by
   rw[<- List.map_reverse,Int.toNat_natCast,f6m]
  rw[e]at g3
  exact k _ _ (g3.after s2)
def g0u:Sp:=fun vs H Q _=>∃ n,vs=[.int n]/\Sg n/\∀ p H',Gro H p (.lst ((a3d n).map V.int)) H'->Q (.ref p) H'
theorem e7k (T:Txt w K mg t):Has P w K mg base "units_of" 3 t.c8e t.c7p ["sign"] g0u:=by
 refine⟨T.e7s,T.d5n.kp,T.e8g,T.d5n.okQ c9z (fun vs H Q E h=>by obtain⟨n,rfl,_⟩:=h; rfl) fun cdv A outer s H vs Q E hr h=>?_⟩
 obtain⟨n,rfl,hs,k⟩:=h
 have hu:=hr.units
 refine⟨_,(a0b (a0w (a0o d8n (a0h 0) (c2w T.c1f) (a1e _)) (a0e (a0i (a0y (a0c (a0h 0) a0a)))) a0n)
  (a0b (a0r (i:=1) c9z.nd rfl (by first | exact Or.inl rfl | exact Or.inr rfl) (a2a (d6o T) hr (a0c (a0q b2z (a0h 0) (c2w T.c1f)) (a0c (c2w T.d2h) (a0c a0g a0a)))))
  (a0e (a0i (a0y (a0c (a0q (a1r (K:=K) rfl) (c2w T.c1h) (a1b (a1y (K:=K) rfl) (a0h 1) a0g (fun _ _=>rfl))) (a0c (a0q (a1r (K:=K) rfl) (c2w T.b6b) (a1b (a1y (K:=K) rfl) (a0h 1) a0g (fun _ _=>rfl))) a0a))))))),?_⟩
 obtain⟨h0,h1,_,_⟩:=hs
 refine a1v (fun e=>?_) (fun e=>?_)
 ·have e2:a3d n=[n]:=by unfold a3d; rw[if_pos (of_decide_eq_true e)]
  rw[e2]at k
  exact⟨sz rfl,fun p H' g=>k p H' g⟩
 have c : ¬ n < 65536:=fun z=>e (decide_eq_true z)
 have e2:a3d n=[55296+(n - 65536) / 1024,56320+(n - 65536)%1024]:=by unfold a3d; rw[if_neg c]
 have two20:(2:Int) ^ (10*2)=1048576:=by decide
 refine⟨n - 65536,10,2,rfl,by omega,by omega,by decide,by decide,fun p1 H1 g1=>?_⟩
 have ep:e2o 10 2 (n - 65536)=[(n - 65536) / 1024,(n - 65536)%1024]:=by
  have:(n - 65536) / 1024%1024=(n - 65536) / 1024:=by omega
  simp[e2o,List.range_succ,this]
 rw[ep]at g1
 refine⟨_,.int ((n - 65536) / 1024),.inl g1.lst,a1f (j:=0) rfl,?_⟩
 refine⟨_,.int ((n - 65536)%1024),.inl g1.lst,a1f (j:=1) rfl,?_⟩
 rw[e2]at k
 exact⟨sz rfl,fun p2 H2 g2=>k _ _ (g2.after g1.sm)⟩
def g0v(K:PySem.W.Frag)(t:Adr):Sp:=fun vs H Q _=>∃ (o a:Addr) (h:Bool) (us:List Int),vs=[.ref o,.ref a]/\Po t H o h/\SqL K H a (us.map V.int)/\us.length<=10/\(∀ u∈us,0<=u/\u < 65536)/\∀ p H',Gro H p (.lst ((us.flatMap (ub h)).map V.int)) H'->Q (.ref p) H'
theorem c3u (T:Txt w K mg t):c4v P w K mg base t.a1k "row_of" 3 t.b0j t.b0e ["self", "units"] (g0v K t):=by
 refine⟨T.a2s,T.c2n,T.c4p,T.c5c.okQ a9n (fun vs H Q E h=>by obtain⟨o,a,h,us,rfl,_⟩:=h; rfl) fun cdv A outer s H vs Q E hr h=>?_⟩
 obtain⟨o,a,h,us,rfl,po,ha,hl,hb,k⟩:=h
 have hu:=hr.units
 refine⟨_,(a0b (a0r (i:=2) a9n.nd rfl (by first | exact Or.inl rfl | exact Or.inr rfl) (a0y a0a))
  (a0b (a4x PassesOwn.never rfl (a2q (K:=K) rfl (a0h 1)) (a0x (i:=3) a9n.nd rfl (by first | exact Or.inl rfl | exact Or.inr rfl)) (a0e (a2n (a5t (K:=K) rfl PySem.F.plainAttrs_list PySem.F.slot_list_extend PySem.F.type_list_extend (c7i (K:=K) rfl) (a0h 2) (a0c (a4f (b5h T) hr (a0h 0) (a0c (a2a (d6o T) hr (a0c (a0h 3) (a0c (c2w T.d2i) (a0c a0g a0a)))) a0a)) a0a)))))
  (a0e (a0i (a0h 2))))),?_⟩
 refine⟨sz rfl,fun p1 H1 g1=>?_⟩
 refine⟨a,rfl,⟨_,g1.sm.seq ha⟩,b8t (K:=K) (a:=a) (xs:=us.map V.int) (fun i σ H'=>a1l H H'/\H' p1=some (.lst (((us.take i).flatMap (ub h)).map V.int))/\∃ v3,σ=[some (.ref o),some (.ref a),some (.ref p1),v3]) ⟨g1.sm,g1.at_,_,rfl⟩ (fun i σ H' _ z=>z.1.seq ha) ?_ ?_⟩
 ·rintro i x σ H2 hx ⟨s2,h2,v3,rfl⟩
  obtain⟨u,hux,rfl⟩:=a6p hx
  have hub:=hb u (List.mem_of_getElem? hux)
  have hi:i < us.length:=(List.getElem?_eq_some_iff.mp hux).1
  obtain⟨dx,ho⟩:=po
  have two16:(2:Int) ^ (8*2)=65536:=by decide
  refine⟨.inl ⟨rfl,_,.of h2⟩,?_⟩
  refine⟨o,dx,_,rfl,s2 _ _ ho,rfl,?_⟩
  refine⟨u,8,2,rfl,hub.1,by omega,by decide,by decide,fun p2 H3 g3=>?_⟩
  have ep:e2o 8 2 u=[u / 256,u%256]:=by
   have:u / 256%256=u / 256:=by omega
   simp[e2o,List.range_succ,this]
  rw[ep]at g3
  refine⟨o,p2,h,u / 256,u%256,rfl,⟨dx,g3.sm _ _ (s2 _ _ ho)⟩,g3.at_,fun p3 H4 s4 h4=>?_⟩
  have h24:=s4 _ _ (g3.sm _ _ h2)
  have el:((us.take i).flatMap (ub h)).length=2*(us.take i).length:=c5s h _
  have el2:(us.take i).length<=10:=by rw[List.length_take]; omega
  refine⟨_,_,h24,h4,szl (by rw[List.length_map,List.length_map,el]; cases h <;> simp <;> omega),?_⟩
  refine⟨(s2.trans (g3.sm.trans s4)).put g1.nw,?_,_,rfl⟩
  rw[a0v]
  have e:us.take (i+1)=us.take i++[u]:=by rw[List.take_add_one,hux]; rfl
  rw[e,List.flatMap_append,List.map_append]
  simp[ub]
 ·rintro σ H2 ⟨s2,h2,v3,rfl⟩
  rw[List.length_map,List.take_length]at h2
  exact k _ _ ⟨g1.nw,s2,h2⟩
def e4n(t:Adr):Sp:=fun vs H Q _=>∃ (o:Addr) (h:Bool) (n:Int),vs=[.ref o,.int n,.int 0]/\Po t H o h/\Sg n/\∀ p q H',H q=none->a1l H H'->H' q=some (.lst ((e2p h n).map V.int))->H' p=some (.tup [.ref q,.int 0])->Q (.ref p) H'
theorem f0u (T:Txt w K mg t):b8g P w K mg base CX0 4 t.a7y t.a5m ["self", "sign", "page"] (e4n t):=by
 refine T.c6x.okQ c3h (fun vs H Q E h=>by obtain⟨o,h,n,rfl,_⟩:=h; rfl) fun cdv A outer s H vs Q E hr h=>?_
 obtain⟨o,h,n,rfl,po,hs,k⟩:=h
 have hu:=hr.units
 refine⟨_,(a0b (a0w (a7j (a5h (a2a (b2u T) hr (a0c (a0h 1) a0a)))) (a0e a5e) a0n)
  (a0e (a0i (a1u (a0c (a4f (c3u T) hr (a0h 0) (a0c (a2a (e7k T) hr (a0c (a0h 1) a0a)) a0a)) (a0c (a0h 2) a0a)))))),?_⟩
 refine⟨.int n,rfl,.int n,?_⟩
 refine a1v (fun e=>absurd ((c5f n).mpr hs) (by simpa using e)) (fun _=>?_)
 obtain⟨dx,ho⟩:=id po
 refine⟨o,dx,_,rfl,ho,rfl,?_⟩
 refine⟨n,rfl,hs,fun p1 H1 g1=>?_⟩
 refine⟨o,p1,h,a3d n,rfl,po.mono g1.sm,g1.lst,by have:=c9x n; omega,fun u hu=>e4j hs hu,fun p2 H2 g2=>?_⟩
 exact⟨sz rfl,fun p3 H3 g3=>k p3 p2 H3 (g2.after g1.sm).nw (g1.sm.trans (g2.sm.trans g3.sm)) (g3.sm _ _ g2.at_) g3.at_⟩
theorem b3o (T:Txt w K mg t):b7o P w K mg base t.a1k "spell" 4 t.a7y t.a5m ["self", "sign", "page"] [] (e4n t) :=
 ⟨T.a2s,T.c3o,⟨_,T.c6i,.nil⟩,f0u T⟩
theorem e2w (T:Txt w K mg t):Has P w K mg base "length_of" 1 t.c4t t.c4c ["sign"] (fun vs H Q _=>∃ n,vs=[.int n]/\Q (.int (e8v n)) H):=by
 refine⟨T.e3b,T.d3o.kp,T.e4b,T.d3o.okQ d9c (fun vs H Q E h=>by obtain⟨n,rfl,_⟩:=h; rfl) fun cdv A outer s H vs Q E hr h=>?_⟩
 obtain⟨n,rfl,k⟩:=h
 refine⟨_,(a0b (a0w (a0o d8n (a0h 0) a0g (a1e _)) (a0e (a0i a0g)) a0n)
  (a0b (a0w (a0o d8n (a0h 0) a0g (a1e _)) (a0e (a0i a0g)) a0n)
  (a0b (a0w (a0o d8n (a0h 0) a0g (a1e _)) (a0e (a0i a0g)) a0n)
  (a0e (a0i a0g))))),?_⟩
 unfold e8v at k
 refine a1v (fun e=>?_) (fun e=>?_)
 ·rw[if_pos (of_decide_eq_true e)]at k; exact k
 rw[if_neg (fun z=>e (decide_eq_true z))]at k
 refine a1v (fun e=>?_) (fun e=>?_)
 ·rw[if_pos (of_decide_eq_true e)]at k; exact k
 rw[if_neg (fun z=>e (decide_eq_true z))]at k
 refine a1v (fun e=>?_) (fun e=>?_)
 ·rw[if_pos (of_decide_eq_true e)]at k; exact k
 rw[if_neg (fun z=>e (decide_eq_true z))]at k
 exact k
def g5c:Sp:=fun vs H Q _=>∃ n,vs=[.int n]/\Sg n/\∀ p H',Gro H p (.lst ((row n).map V.int)) H'->Q (.ref p) H'
theorem e7l (T:Txt w K mg t):Has P w K mg base "lead_row" 3 t.c8g t.c7r ["sign"] g5c:=by
 refine⟨T.e7u,T.d5p.kp,T.e8i,T.d5p.okQ c3d (fun vs H Q E h=>by obtain⟨n,rfl,_⟩:=h; rfl) fun cdv A outer s H vs Q E hr h=>?_⟩
 obtain⟨n,rfl,hs,k⟩:=h
 have hu:=hr.units
 refine⟨_,(a0b (a0r (i:=1) c3d.nd rfl (by first | exact Or.inl rfl | exact Or.inr rfl) (a2a (e2w T) hr (a0c (a0h 0) a0a)))
  (a0b (a0w (a0o (a4q (K:=K) rfl hu) (a0h 1) a0g (a1e _)) (a0e (a0i (a0y (a0c (a0h 0) a0a)))) a0n)
  (a0b (a0r (i:=2) c3d.nd rfl (by first | exact Or.inl rfl | exact Or.inr rfl) (a2a (d6o T) hr (a0c (a0h 0) (a0c (c2w T.g0i) (a0c (a0h 1) a0a)))))
  (a0e (a0i (a0q (a1r (K:=K) rfl) (a0y (a0c (a0q (a1r (K:=K) rfl) (a1b (a1y (K:=K) rfl) (b0v (v:=.ref t.d3k) rfl T.f3y rfl) (a0h 1) (fun _ _=>rfl)) (a1b (a1y (K:=K) rfl) (a0h 2) a0g (fun _ _=>rfl))) a0a)) (a6b rfl (a2b.of (fns:=(a0f b1m).names) (N:=["sign", "length", "parts"]) (Nc:=["part"]) (nv:=1) (caps:=[]) rfl rfl (by decide +kernel)) (a2q (K:=K) rfl (a1z (b8c (K:=K) rfl) (a0h 2) (a1x a0g) a3o)) (fun _ _ _ _=>(a0x (i:=0) (show List.Nodup (["part"]:List Str) by decide +kernel) rfl (Or.inl rfl) (Or.inr rfl))) (fun _ _ _ _=>a4p) (fun _ _ _ _=>(a0q (a1r (K:=K) rfl) (c2w T.b2q) (a0h 0)))))))))),?_⟩
 refine⟨n,rfl,?_⟩
 by_cases c:n < 128
 ·have e1:e8v n=1:=by unfold e8v; rw[if_pos c]
  have e2:row n=[n]:=by unfold row; rw[if_pos c]
  refine a1v (fun _=>?_) (fun e=>absurd (decide_eq_true e1) e)
  rw[e2]at k
  exact⟨sz rfl,fun p H' g=>k p H' g⟩
 obtain⟨L,v,q0,c2u,eL,n1,l4,ep,hv,er,hn⟩:=e7g hs (by omega)
 refine a1v (fun e=>absurd (of_decide_eq_true e) (by rw[eL]; omega)) (fun _=>?_)
 refine⟨n,6,L,by rw[eL]; rfl,hs.1,hn,by decide,by omega,fun p1 H1 g1=>?_⟩
 rw[ep]at g1
 have hat:atI (([0,0,192,224,240]:List Int).map V.int) (e8v n)=some (.int v):=by
  rw[eL]; exact a1f (by rw[List.getElem?_map,hv]; rfl)
 refine⟨_,.int v,.inr (T.f0e _),hat,?_⟩
 refine⟨_,.int q0,.inl g1.lst,a1f (j:=0) rfl,?_⟩
 refine⟨sz rfl,fun p2 H2 g2=>?_⟩
 refine⟨_,rfl,_,g2.sm.seq g1.lst,fun p3 H3 g3=>?_⟩
 rw[h3o]at g3
 have hrl:c2u.length<=1000:=by
  have:=f6n 6 L n
  rw[ep]at this
  simp at this
  omega
 refine⟨_,rfl,⟨_,g3.lst⟩,?_⟩
 refine c4e ((c2u.map fun b=>128+b).map V.int) (by simp) g3.lst (szl (by simp; omega)) (fun i y v H4 N hy hv s4 hN=>?_) fun p4 H4 g4=>?_
 ·rw[List.getElem?_map]at hy
  obtain⟨y,hy',rfl⟩:=Option.map_eq_some_iff.mp hy
  rw[List.getElem?_map,List.getElem?_map,hy']at hv
  cases hv
  exact hN _ (a1l.refl _)
 refine⟨_,_,(g3.sm.trans g4.sm).seq g2.lst,g4.lst,szl (by simp; omega),fun p5 H5 g5=>?_⟩
 rw[er]at k
 exact k _ _ (g5.after (((g1.sm.trans g2.sm).trans g3.sm).trans g4.sm))
def e4o:Sp:=fun vs H Q _=>∃ (o:Addr) (n:Int),vs=[.ref o,.int n,.int 0]/\Sg n/\∀ p q H',H q=none->a1l H H'->H' q=some (.lst ((row n).map V.int))->H' p=some (.tup [.ref q,.int 0])->Q (.ref p) H'
theorem f0v (T:Txt w K mg t):b8g P w K mg base CX0 4 t.a8a t.a5o ["self", "sign", "page"] e4o:=by
 refine T.c6z.okQ c3j (fun vs H Q E h=>by obtain⟨o,n,rfl,_⟩:=h; rfl) fun cdv A outer s H vs Q E hr h=>?_
 obtain⟨o,n,rfl,hs,k⟩:=h
 have hu:=hr.units
 refine⟨_,(a0b (a0w (a7j (a5h (a2a (b2u T) hr (a0c (a0h 1) a0a)))) (a0e a5e) a0n)
  (a0e (a0i (a1u (a0c (a2a (e7l T) hr (a0c (a0h 1) a0a)) (a0c (a0h 2) a0a)))))),?_⟩
 refine⟨.int n,rfl,.int n,?_⟩
 refine a1v (fun e=>absurd ((c5f n).mpr hs) (by simpa using e)) (fun _=>?_)
 refine⟨n,rfl,hs,fun p1 H1 g1=>?_⟩
 exact⟨sz rfl,fun p2 H2 g2=>k p2 p1 H2 g1.nw (g1.sm.trans g2.sm) (g2.sm _ _ g1.at_) g2.at_⟩
theorem b3p (T:Txt w K mg t):b7o P w K mg base t.a2c "spell" 4 t.a8a t.a5o ["self", "sign", "page"] [] e4o :=
 ⟨T.a9w,T.c3q,⟨_,T.c6k,.nil⟩,f0v T⟩
def e9j(t:Adr):Sp:=fun vs H Q _=>∃ (a:Addr) (f:Fp) (ns ms:List Int) (x:V) (g:Int) (r:List Int) (g':Int),vs=[.ref a,x,.int g]/\Two g/\Tg t H a f ns ms/\b8l (sel g ns ms) (sel g ms ns) g x=some (r,g') /\
 ∀ p q H',a1l H H'->H q=none->H' q=some (.lst (r.map V.int))->H' p=some (.tup [.ref q,.int g'])->Q (.ref p) H'
theorem f7a (T:Txt w K mg t):b8g P w K mg base CX0 4 t.a6v t.a4u ["self", "sign", "page"] (e9j t):=by
 refine T.c5a.okQ c2f (fun vs H Q E h=>by obtain⟨o,f,ns,ms,x,g,r,g',rfl,_⟩:=h; rfl) fun cdv A outer s H vs Q E hr h=>?_
 obtain⟨a,f,ns,ms,x,g,r,g',rfl,two,tg,hsp,k⟩:=h
 have hu:=hr.units
 refine⟨_,(a0b (a0w (a5h (a2a (b2u T) hr (a0c (a0h 1) a0a))) (a0b (a0w (a0o (f8f hu) (a0h 1) (a1b (a1y (K:=K) rfl) (a0z (K:=K) rfl (a0h 0)) (a0h 2) (fun _ _=>rfl)) (by with_unfolding_all rfl)) (a0e (a0i (a1u (a0c (a0y (a0c (e2m hu (a1b (a1y (K:=K) rfl) (a0z (K:=K) rfl (a0h 0)) (a0h 2) (fun _ _=>rfl)) (a0h 1)) a0a)) (a0c (a0h 2) a0a))))) a0n)
  (a0e (a0w (a0o (f8f hu) (a0h 1) (a1b (a1y (K:=K) rfl) (a0z (K:=K) rfl (a0h 0)) (a0q b2z a0g (a0h 2)) (fun _ _=>rfl)) (by with_unfolding_all rfl)) (a0e (a0i (a1u (a0c (a0y (a0c (a1b (a1y (K:=K) rfl) (b0v (v:=.ref t.c2d) rfl T.d7p rfl) (a0q b2z a0g (a0h 2)) (fun _ _=>rfl)) (a0c (e2m hu (a1b (a1y (K:=K) rfl) (a0z (K:=K) rfl (a0h 0)) (a0q b2z a0g (a0h 2)) (fun _ _=>rfl)) (a0h 1)) a0a))) (a0c (a0q b2z a0g (a0h 2)) a0a))))) a0n))) a0n)
  (a0e a5e)),?_⟩
 have okP:Okp (sel g ns ms):=e4p tg.k0 tg.k1
 have okO:Okp (sel g ms ns):=e4p tg.k1 tg.k0
 have yes:b6k x=true:=by
  cases e:b6k x with
  | true=>rfl
  | false=>rw[g0r okP okO e]at hsp; cases hsp
 obtain⟨n,rfl,_⟩:=g1b yes
 refine⟨_,rfl,.int n,?_⟩
 refine a1v (fun _=>?_) (fun z=>absurd yes z)
 have ed : ∀ g,Two g->atI [V.ref f.d0,V.ref f.d1] g=some (.ref (sel g f.d0 f.d1)):=fun g two=>by rw[d5i two]; exact congrArg some (c7d V.ref _ _ _)
 obtain⟨kv,hkv,vkv⟩:=tg.dk two
 obtain⟨kw,hkw,vkw⟩:=tg.dk two.flip
 rw[e4q two]at vkw
 refine⟨a,_,f.dx,_,_,rfl,tg.o,T.a1g,T.a2k,rfl,?_⟩
 refine⟨_,_,.inl (.of tg.p),ed g two,?_⟩
 refine⟨_,_,rfl,c9w.k (k:=.inl n) hkv,?_⟩
 unfold b8l at hsp
 dsimp only at hsp
 cases e1:idx (sel g ns ms) n with
 | some i =>
  rw[e1]at hsp
  cases hsp
  have v1:b4v kv (.inl n)=some (.int (i:Int)):=by rw[vkv,e1]; rfl
  refine a1v (fun _=>?_) (fun z=>absurd (show (b4v kv (.inl n)).isSome=true by rw[v1]; rfl) z)
  refine⟨a,_,f.dx,_,_,rfl,tg.o,T.a1g,T.a2k,rfl,?_⟩
  refine⟨_,_,.inl (.of tg.p),ed g two,?_⟩
  refine⟨_,_,rfl,by have:=c9w.k (k:=.inl n) hkv; rw[v1]at this; exact this,?_⟩
  refine⟨sz rfl,fun p1 H1 g1=>?_⟩
  refine⟨sz rfl,fun p2 H2 g2=>?_⟩
  exact k p2 p1 H2 (g1.sm.trans g2.sm) g1.nw (g2.sm _ _ g1.at_) g2.at_
 | none =>
  rw[e1]at hsp
  dsimp only at hsp
  have v1:b4v kv (.inl n)=none:=by rw[vkv,e1]; rfl
  refine a1v (fun z=>absurd (show (b4v kv (.inl n)).isSome=true from z) (by rw[v1]; decide)) (fun _=>?_)
  refine⟨a,_,f.dx,_,_,rfl,tg.o,T.a1g,T.a2k,rfl,?_⟩
  refine⟨_,_,.inl (.of tg.p),ed (1 - g) two.flip,?_⟩
  refine⟨_,_,rfl,c9w.k (k:=.inl n) hkw,?_⟩
  cases e2:idx (sel g ms ns) n with
  | none=>rw[e2]at hsp; cases hsp
  | some i =>
   rw[e2]at hsp
   cases hsp
   have v2:b4v kw (.inl n)=some (.int (i:Int)):=by rw[vkw,e2]; rfl
   refine a1v (fun _=>?_) (fun z=>absurd (show (b4v kw (.inl n)).isSome=true by rw[v2]; rfl) z)
   have sh:atI (([254,255]:List Int).map V.int) (1 - g)=some (.int (254+(1 - g))):=by
    rcases two with rfl | rfl <;> rfl
   refine⟨_,_,.inr (T.d6f _),sh,?_⟩
   refine⟨a,_,f.dx,_,_,rfl,tg.o,T.a1g,T.a2k,rfl,?_⟩
   refine⟨_,_,.inl (.of tg.p),ed (1 - g) two.flip,?_⟩
   refine⟨_,_,rfl,by have:=c9w.k (k:=.inl n) hkw; rw[v2]at this; exact this,?_⟩
   refine⟨sz rfl,fun p1 H1 g1=>?_⟩
   refine⟨sz rfl,fun p2 H2 g2=>?_⟩
   exact k p2 p1 H2 (g1.sm.trans g2.sm) g1.nw (g2.sm _ _ g1.at_) g2.at_
theorem b2x (T:Txt w K mg t):b7o P w K mg base t.a1a "spell" 4 t.a6v t.a4u ["self", "sign", "page"] [] (e9j t) :=
 ⟨T.a1g,T.c2l,⟨_,T.c4n,.nil⟩,f7a T⟩
def g4y(t:Adr):Sp:=fun vs H Q _=>∃ (a:Addr) (f:Ft) (es:List (Int × List Int)) (e:Int × List Int) (g:Int),vs=[.ref a,.int e.1,.int g]/\Tt t H a f es 1000/\Es es/\e∈es /\
 ∀ p q H',a1l H H'->H q=none->H' q=some (.lst (e.2.map V.int))->H' p=some (.tup [.ref q,.int g])->Q (.ref p) H'
theorem f0t (T:Txt w K mg t):b8g P w K mg base CX0 4 t.a6t t.a4s ["self", "sign", "page"] (g4y t):=by
 refine T.c4x.okQ c2e (fun vs H Q E h=>by obtain⟨o,f,es,e,g,rfl,_⟩:=h; rfl) fun cdv A outer s H vs Q E hr h=>?_
 obtain⟨a,f,es,e,g,rfl,tt,ok,he,k⟩:=h
 have hu:=hr.units
 refine⟨_,(a0b (a0w (a2w (a7d (a7j (a5h (a2a (b2u T) hr (a0c (a0h 1) a0a)))) (a4w (a0o (e5h hu) (a0h 1) (a0z (K:=K) rfl (a0h 0)) (by with_unfolding_all rfl))))) (a0e a5e) a0n)
  (a0e (a0i (a1u (a0c (a9o (b1t (K:=K) rfl) T.n_list PyProof.Rows.boot_list (a0c (e2m hu (a0z (K:=K) rfl (a0h 0)) (a0h 1)) a0a)) (a0c (a0h 2) a0a)))))),?_⟩
 obtain⟨o,⟨k1,k2,k3,a1,a2,a3,_,_,_,kv⟩,ne⟩:=id tt
 obtain⟨q,vq,hq⟩:=kv.a e he
 have yes:b6k (.int e.1)=true:=(c5f _).mpr (ok.sg e he).1
 refine⟨_,rfl,.int _,?_⟩
 refine a1v (fun z=>absurd (show (!b6k (.int e.1))=true from z) (by rw[yes]; decide)) (fun _=>?_)
 refine⟨a,_,f.dx,_,_,rfl,o,T.a1q,T.a2z,rfl,?_⟩
 refine⟨f.d1,_,rfl,c9w.k (k:=.inl e.1) a1,?_⟩
 refine a1v (fun z=>absurd (show (!(b4v k1 (.inl e.1)).isSome)=true from z) (by rw[vq]; simp)) (fun _=>?_)
 refine⟨a,_,f.dx,_,_,rfl,o,T.a1q,T.a2z,rfl,?_⟩
 refine⟨f.d1,_,rfl,by have:=c9w.k (k:=.inl e.1) a1; rw[vq]at this; exact this,?_⟩
 refine⟨_,.inr (.of hq),fun p1 H1 g1=>?_⟩
 refine⟨sz rfl,fun p2 H2 g2=>?_⟩
 exact k p2 p1 H2 (g1.sm.trans g2.sm) g1.nw (g2.sm _ _ g1.at_) g2.at_
theorem b2v (T:Txt w K mg t):b7o P w K mg base t.a1d "spell" 4 t.a6t t.a4s ["self", "sign", "page"] [] (g4y t) :=
 ⟨T.a1q,T.c2i,⟨_,T.c4k,.nil⟩,f0t T⟩
theorem c0i (T:Txt w K mg t):b7o P w K mg base t.a5v "spell" 2 t.b7n t.b1z ["self", "sign", "page"] [] g9r :=
 ⟨T.b8d,T.d0m,⟨_,T.d4o,.nil⟩,T.d4q.okQ d0c (fun vs H Q E h=>h.elim) fun cdv A outer s H vs Q E hr h=>h.elim⟩
theorem a5x{H:Hp}{x dx C:Addr}(hx:H x=none)(hdx:H dx=none):a1l H (upd (upd H dx (.own x)) x (.ins C dx [])):=fun b ob q=>by rw[a1c (a0l q hx),a1c (a0l q hdx)]; exact q
def Ss(t:Adr)(H:Hp)(s o:Addr):Prop:=∃ dx,H s=some (.ins t.a1t dx [("tongue",.ref o)])
theorem Ss.mono{H H':Hp}{s o:Addr}(p:Ss t H s o)(e:a1l H H'):Ss t H' s o:=let ⟨dx,z⟩:=p; ⟨dx,e _ _ z⟩
def f5w(t:Adr):Sp:=fun vs H Q _=>∃ (x dx o:Addr),vs=[.ref x,.ref o]/\H x=some (.ins t.a1t dx [])/\Q .non (upd H x (.ins t.a1t dx [("tongue",.ref o)]))
theorem c0g (T:Txt w K mg t):d8f P w K mg base "SeenSpeller" t.a1t 1 t.b1f t.b1a ["self", "tongue"] [] (f5w t):=⟨T.d4j,T.d4f,⟨[],T.c6g,.nil⟩,by
 refine T.c6u.okQ c3g (fun vs H Q E h=>by obtain⟨x,dx,o,rfl,_⟩:=h; rfl) fun cdv A outer s H vs Q E hr h=>?_
 obtain⟨x,dx,o,rfl,hx,k⟩:=h
 exact⟨_,(a0e (a1w (K:=K) rfl (a0h 0) (a0h 1))),x,_,dx,_,rfl,hx,T.a4v,T.a3p,by decide,k⟩⟩
theorem g7z (T:Txt w K mg t):c4v P w K mg base t.a1t "spell" 1 t.a6w t.a6r ["self", "sign", "page"] g9r :=
 ⟨T.a4v,T.b3k,T.b5p,T.b5t.okQ b3h (fun vs H Q E h=>h.elim) fun cdv A outer s H vs Q E hr h=>h.elim⟩
def g9o(t:Adr):Sp:=fun vs H Q _=>∃ (s o:Addr) (D:Kt) (g x:Int),vs=[.ref s,.int x,.int g]/\Ss t H s o/\TN t H o D/\PgK D g/\Thg D x/\∀ p q H',a1l H H'->H' q=some (.lst ((spS D g x).1.map V.int))->H' p=some (.tup [.ref q,.int (spS D g x).2])->Q (.ref p) H'
theorem h1b (T:Txt w K mg t):c4v P w K mg base t.a1t "spell" 5 t.a6w t.a6r ["self", "sign", "page"] (g9o t):=by
 have b0b:=fun (T:Txt w K mg t)=>g7z (P:=P) (base:=base) T
 refine⟨T.a4v,T.b3k,T.b5p,T.b5t.okQ b3h (fun vs H Q E h=>by obtain⟨s,o,D,g,x,rfl,_⟩:=h; rfl) fun cdv A outer s H vs Q E hr h=>?_⟩
 obtain⟨s,o,D,g,n,rfl,⟨dx,hs⟩,tn,pg,th,k⟩:=h
 have hu:=hr.units
 refine⟨_,(a0b (a0w (a5h (a2a (b6l T) hr (a0c (a0h 1) a0a))) (a0e (a0i (a1u (a0c (a0y (a0c (a0q b2z (a0h 1) (c2w T.c1g)) a0a)) (a0c (a0h 2) a0a))))) a0n)
  (a0e (a0i (a4e (a4f (b0b T) hr (a0z (K:=K) rfl (a0h 0)) (a0c (a0h 1) (a0c (a0h 2) a0a))) (a4e (a2r (c0i T) hr (a0z (K:=K) rfl (a0h 0)) (a0c (a0h 1) (a0c (a0h 2) a0a))) (a4e (a2r (b3p T) hr (a0z (K:=K) rfl (a0h 0)) (a0c (a0h 1) (a0c (a0h 2) a0a))) (a4e (a2r (b3o T) hr (a0z (K:=K) rfl (a0h 0)) (a0c (a0h 1) (a0c (a0h 2) a0a))) (a4e (a2r (b2x T) hr (a0z (K:=K) rfl (a0h 0)) (a0c (a0h 1) (a0c (a0h 2) a0a))) (a2r (b2v T) hr (a0z (K:=K) rfl (a0h 0)) (a0c (a0h 1) (a0c (a0h 2) a0a))))))))))),?_⟩
 refine⟨.int n,rfl,.int n,?_⟩
 unfold spS at k
 refine a1v (fun z=>?_) (fun z=>?_)
 ·have z:(decide (61184<=n) && decide (n<=61439))=true:=z
  simp at z
  rw[if_pos z]at k
  refine⟨sz rfl,fun q H1 g1=>?_⟩
  exact⟨sz rfl,fun p H2 g2=>k p q H2 (g1.sm.trans g2.sm) (g2.sm _ _ g1.at_) g2.at_⟩
 ·have z : ¬ (decide (61184<=n) && decide (n<=61439))=true:=z
  have z : ¬ (61184<=n/\n<=61439):=fun y=>z (by simp; exact y)
  rw[if_neg z]at k
  have hsn:=th.resolve_left z
  obtain⟨r,g',eO,ef,_,sl⟩:=e9g tn.ok pg hsn
  rw[ef]at k
  cases D with
  | br=>exact hsn.elim
  | ld =>
   obtain⟨dx',ho⟩:=id tn
   obtain rfl:g=0:=pg
   cases eO
   exact .inr (.inr (.inl ⟨s,_,dx,_,_,rfl,hs,T.a4v,T.a3p,rfl,o,dx',_,rfl,ho,rfl,o,n,rfl,hsn,fun pf q H4 _ s4 hq hf=>k pf q H4 s4 hq hf⟩))
  | pr b =>
   obtain⟨dx',ho⟩:=id tn
   obtain rfl:g=0:=pg
   cases eO
   exact .inr (.inr (.inr (.inl ⟨s,_,dx,_,_,rfl,hs,T.a4v,T.a3p,rfl,o,dx',_,rfl,ho,rfl,o,b,n,rfl,tn,hsn,fun pf q H4 _ s4 hq hf=>k pf q H4 s4 hq hf⟩)))
  | sh f us ms=>exact .inr (.inr (.inr (.inr (.inl ⟨s,_,dx,_,_,rfl,hs,T.a4v,T.a3p,rfl,o,f.dx,_,rfl,Tg.o tn,rfl,o,f,us,ms,.int n,g,r,g',rfl,pg,tn,eO,fun pf q H4 s4 _ hq hf=>k pf q H4 s4 hq hf⟩))))
  | tb f es =>
   obtain⟨e1,he1,en,ef1⟩:=c7l hsn
   have eO:((es.find? fun e=>decide (e.1=n)).map fun e=>(e.2,g))=some (r,g'):=eO
   rw[ef1]at eO
   cases eO
   exact .inr (.inr (.inr (.inr (.inr ⟨s,_,dx,_,_,rfl,hs,T.a4v,T.a3p,rfl,o,f.dx,_,rfl,tn.1.o,rfl,o,f,es,e1,_,by rw[en]; rfl,tn.1,tn.2,he1,fun pf q H4 s4 _ hq hf=>k pf q H4 s4 hq hf⟩))))
theorem e4g(D:Kt)(g:Int)(xs:List Int)(n:Int):wrS D g (xs++[n])=((wrS D g xs).1++(spS D (wrS D g xs).2 n).1,(spS D (wrS D g xs).2 n).2):=by rw[b8i,d5r]
theorem e1r{D:Kt}(ok:KoS D) : ∀ (m:Nat) (xs:List Int) (g:Int),PgK D g->(∀ x∈xs,Thg D x)->PgK D (wrS D g (xs.take m)).2/\(wrS D g (xs.take m)).1.length<=6*m
 | 0,xs,g,pg,_=>⟨pg,Nat.le_refl _⟩
 | m+1,xs,g,pg,h=>by
  obtain⟨a,b⟩:=e1r ok m xs g pg h
  cases e:xs[m]? with
  | none =>
   rw[List.take_of_length_le (by have:=List.getElem?_eq_none_iff.mp e; omega)]
   rw[List.take_of_length_le (List.getElem?_eq_none_iff.mp e)]at a b
   exact⟨a,by omega⟩
  | some n =>
   rw[a5w e,e4g]
   obtain⟨p,_,l⟩:=e9k ok a (h n (List.mem_of_getElem? e))
   exact⟨p,by rw[List.length_append]; omega⟩
def h3u(K:PySem.W.Frag)(t:Adr):Sp:=fun vs H Q _=>∃ (s o a:Addr) (D:Kt) (xs:List Int) (g:Int),vs=[.ref s,.ref a,.int g]/\Ss t H s o/\TN t H o D/\PgK D g/\SqL K H a (xs.map V.int)/\xs.length<=2000/\(∀ x∈xs,Thg D x)/\∀ p q H',H q=none->a1l H H'->H' q=some (.lst ((wrS D g xs).1.map V.int))->H' p=some (.tup [.ref q,.int (wrS D g xs).2])->Q (.ref p) H'
theorem c8v (T:Txt w K mg t):Has P w K mg base "write_from" 6 t.c1o t.c0y ["tongue", "text", "page"] (h3u K t):=by
 have b0b:=fun (T:Txt w K mg t)=>h1b (P:=P) (base:=base) T
 refine⟨T.d9z,T.c9c.kp,T.e0q,T.c9c.okQ a8s (fun vs H Q E h=>by obtain⟨s,o,a,D,xs,g,rfl,_⟩:=h; rfl) fun cdv A outer s H vs Q E hr h=>?_⟩
 obtain⟨s,o,a,D,xs,g0,rfl,ss,tn,pg0,ha,hl,hs,k⟩:=h
 have hu:=hr.units
 have ok:=tn.koS
 refine⟨_,(a0b (a0r (i:=3) a8s.nd rfl (by first | exact Or.inl rfl | exact Or.inr rfl) (a0y a0a))
  (a0b (a4x PassesOwn.never rfl (b4t (K:=K) rfl rfl T.n_enumerate (a0c (a0h 1) a0a)) (a5g (K:=K) rfl rfl (a1m (a0x (i:=4) a8s.nd rfl (by first | exact Or.inl rfl | exact Or.inr rfl)) (a1m (a0x (i:=5) a8s.nd rfl (by first | exact Or.inl rfl | exact Or.inr rfl)) a5f))) (a0b (g1j (K:=K) (Es:=fun _=>E0) rfl ⟨rfl,rfl⟩ T.c0u (fun e=>PassesOwnAt.never) f1e (fun pn W Eb L=>(a0e (a0r (i:=6) a8s.nd rfl (by first | exact Or.inl rfl | exact Or.inr rfl) (a4e (a4f (b0b T) hr (a0h 0) (a0c (a0h 5) (a0c (a0h 2) a0a))) (a4e (a2r (c0i T) hr (a0h 0) (a0c (a0h 5) (a0c (a0h 2) a0a))) (a4e (a2r (b3p T) hr (a0h 0) (a0c (a0h 5) (a0c (a0h 2) a0a))) (a4e (a2r (b3o T) hr (a0h 0) (a0c (a0h 5) (a0c (a0h 2) a0a))) (a4e (a2r (b2x T) hr (a0h 0) (a0c (a0h 5) (a0c (a0h 2) a0a))) (a2r (b2v T) hr (a0h 0) (a0c (a0h 5) (a0c (a0h 2) a0a))))))))))) (fun eh LH=>(a0e a5e)))
  (a0b (a2n (a5t (K:=K) rfl PySem.F.plainAttrs_list PySem.F.slot_list_extend PySem.F.type_list_extend (c7i (K:=K) rfl) (a0h 3) (a0c (a1b (a1y (K:=K) rfl) (a0h 6) a0g (fun _ _=>rfl)) a0a)))
  (a0e (a0r (i:=2) a8s.nd rfl (by first | exact Or.inl rfl | exact Or.inr rfl) (a1b (a1y (K:=K) rfl) (a0h 6) a0g (fun _ _=>rfl)))))))
  (a0e (a0i (a1u (a0c (a0h 3) (a0c (a0h 2) a0a))))))),?_⟩
 refine⟨sz rfl,fun p1 H1 g1=>?_⟩
 refine⟨a,_,rfl,g1.sm.seq ha,c2b (K:=K) (a:=a) (xs:=xs.map V.int) (fun i σ H'=>a1l H H'/\H' p1=some (.lst ((wrS D g0 (xs.take i)).1.map V.int))/\∃ v4 v5 v6,σ=[some (.ref s),some (.ref a),some (.int (wrS D g0 (xs.take i)).2),some (.ref p1),v4,v5,v6]) ⟨g1.sm,g1.at_,_,_,_,rfl⟩ (fun i σ H' _ z=>z.1.seq ha) ?_ ?_⟩
 ·rintro i x p σ H2 H3 hx ⟨s2,h2,v4,v5,v6,rfl⟩ g3
  obtain⟨n,hn,rfl⟩:=a6p hx
  have hsn:=hs n (List.mem_of_getElem? hn)
  have hi:i < xs.length:=(List.getElem?_eq_some_iff.mp hn).1
  refine⟨p,_,rfl,g3.tup,rfl,_,_,rfl,_,_,rfl,rfl,?_⟩
  have s3:=s2.trans g3.sm
  obtain⟨dx,hss⟩:=ss.mono s3
  obtain⟨pgi,li⟩:=e1r ok i xs g0 pg0 hs
  obtain⟨_,_,sl⟩:=e9k ok pgi hsn
  have e:wrS D g0 (xs.take (i+1))=((wrS D g0 (xs.take i)).1++(spS D (wrS D g0 (xs.take i)).2 n).1,(spS D (wrS D g0 (xs.take i)).2 n).2):=by rw[a5w hn,e4g]
  dsimp only [b5k]
  refine b0u (fun σ' H4=>∃ pf q,a1l H3 H4/\H4 q=some (.lst ((spS D (wrS D g0 (xs.take i)).2 n).1.map V.int))/\H4 pf=some (.tup [.ref q,.int (spS D (wrS D g0 (xs.take i)).2 n).2])/\σ'=[some (.ref s),some (.ref a),some (.int (wrS D g0 (xs.take i)).2),some (.ref p1),some (.int (i:Int)),some (.int n),some (.ref pf)]) (fun nx hn=>?_) ?_
  ·exact⟨fun _ _ _ _=>False,.inl ⟨s,dx,_,rfl,hss,rfl,s,o,D,_,n,rfl,⟨dx,hss⟩,tn.mono s3,pgi,hsn,fun pf q H4 s4 hq hf=>hn _ _ ⟨pf,q,s4,hq,hf,rfl⟩⟩,fun _ _ _ _ _ _ z=>z.elim⟩
  ·rintro σ' H4 ⟨pf,q,s4,hq,hf,rfl⟩
   have h4:=s4 _ _ (g3.sm _ _ h2)
   refine⟨.inl ⟨rfl,_,.of h4⟩,?_⟩
   refine⟨_,.ref q,.inr (.of hf),a1f (j:=0) rfl,?_⟩
   refine⟨_,_,h4,hq,szl (by rw[List.length_map,List.length_map]; omega),?_⟩
   have fne:pf≠p1:=fun z=>by rw[z,h4]at hf; cases hf
   refine⟨_,.int _,.inr (.of (by rw[a1c fne]; exact hf)),a1f (j:=1) rfl,?_⟩
   refine⟨(s3.trans s4).put g1.nw,?_,_,_,_,by rw[e]; rfl⟩
   rw[a0v,e,List.map_append]
 ·rintro σ H2 ⟨s2,h2,v4,v5,v6,rfl⟩
  rw[List.length_map,List.take_length]at h2
  rw[List.length_map,List.take_length]
  exact⟨sz rfl,fun p3 H3 g3=>k p3 p1 H3 g1.nw (s2.trans g3.sm) (g3.sm _ _ h2) g3.at_⟩
def g0t(K:PySem.W.Frag)(t:Adr):Sp:=fun vs H Q _=>∃ (s o a:Addr) (D:Kt) (xs:List Int),vs=[.ref s,.ref a]/\Ss t H s o/\TN t H o D/\SqL K H a (xs.map V.int)/\xs.length<=2000/\(∀ x∈xs,Thg D x)/\∀ p H',a1l H H'->H' p=some (.lst ((wrS D 0 xs).1.map V.int))->Q (.ref p) H'
theorem e8u(D:Kt):PgK D 0:=by
 cases D with
 | sh f ns ms=>exact .inl rfl
 | _=>exact rfl
theorem g2w (T:Txt w K mg t):Has P w K mg base "write" 7 t.e4e t.e3f ["tongue", "text"] (g0t K t):=by
 refine⟨T.g3d,T.f4y.kp,T.g3u,T.f4y.okQ f5z (fun vs H Q E h=>by obtain⟨s,o,a,D,xs,rfl,_⟩:=h; rfl) fun cdv A outer s H vs Q E hr h=>?_⟩
 obtain⟨s,o,a,D,xs,rfl,ss,tn,ha,hl,hs,k⟩:=h
 refine⟨_,(a0e (a0i (a1b (a1y (K:=K) rfl) (a2a (c8v T) hr (a0c (a0h 0) (a0c (a0h 1) (a0c a0g a0a)))) a0g (fun _ _=>rfl)))),?_⟩
 refine⟨s,o,a,D,xs,0,rfl,ss,tn,e8u D,ha,hl,hs,fun p q H1 nq s1 hq hp=>?_⟩
 exact⟨_,.ref q,.inr (.of hp),a1f (j:=0) rfl,k q H1 s1 hq⟩
def h3s(K:PySem.W.Frag)(t:Adr):Sp:=fun vs H Q _=>∃ (o a:Addr) (D:Kt) (xs:List Int),vs=[.ref o,.ref a]/\TN t H o D/\SqL K H a (xs.map V.int)/\xs.length<=2000/\(∀ x∈xs,Thg D x)/\∀ p H',a1l H H'->H' p=some (.lst ((wrS D 0 xs).1.map V.int))->Q (.ref p) H'
theorem d6b{H:Hp}{x dx C:Addr}{o:HO}(hx:H x=none)(hdx:H dx=none):a1l H (upd (upd (upd H dx (.own x)) x (.ins C dx [])) x o):=fun b ob q=>by rw[a1c (a0l q hx)]; exact a5x hx hdx b ob q
theorem d9s (T:Txt w K mg t):Has P w K mg base "write_seen" 8 t.c1n t.c0x ["tongue", "text"] (h3s K t):=by
 refine⟨T.d9y,T.c9b.kp,T.e0p,T.c9b.okQ d5z (fun vs H Q E h=>by obtain⟨o,a,D,xs,rfl,_⟩:=h; rfl) fun cdv A outer s H vs Q E hr h=>?_⟩
 obtain⟨o,a,D,xs,rfl,tn,ha,hl,hs,k⟩:=h
 refine⟨_,(a0e (a0i (a2a (g2w T) hr (a0c (b6i (c0g T) hr (a0c (a0h 0) a0a)) (a0c (a0h 1) a0a))))),?_⟩
 refine fun x dx hx hdx hne=>?_
 have s1:=d6b (C:=t.a1t) (o:=.ins t.a1t dx [("tongue",.ref o)]) hx hdx
 refine⟨x,dx,o,rfl,a0v,rfl,?_⟩
 exact⟨x,o,a,D,xs,rfl,⟨dx,a0v⟩,tn.mono s1,s1.seq ha,hl,hs,fun p H' s' hp=>k p H' (s1.trans s') hp⟩
def Wr(t:Adr)(H:Hp)(x s:Addr)(g:Int):Prop:=∃ dx,H x=some (.ins t.a2o dx [("tongue",.ref s),("at_page",.int g)])
def g0w(t:Adr):Sp:=fun vs H Q _=>∃ (x dx s:Addr),vs=[.ref x,.ref s]/\H x=some (.ins t.a2o dx [])/\∀ H',Kp x H H'->H' x=some (.ins t.a2o dx [("tongue",.ref s),("at_page",.int 0)])->Q .non H'
theorem f1l (T:Txt w K mg t):h2b P w K mg base 1 t.b9y t.b8x ["self", "tongue"] [] (g0w t):=by
 refine⟨T.c6p.kp,⟨_,T.d7u,.nil⟩,T.c6p.okQ d3u (fun vs H Q E h=>by obtain⟨x,dx,o,rfl,_⟩:=h; rfl) fun cdv A outer s H vs Q E hr h=>?_⟩
 obtain⟨x,dx,o,rfl,hx,k⟩:=h
 refine⟨_,(a0b (a1w (K:=K) rfl (a0h 0) (a0h 1))
  (a0e (a1w (K:=K) rfl (a0h 0) a0g))),?_⟩
 refine⟨x,_,dx,_,rfl,hx,T.a7c,T.b3i,Nat.lt_of_lt_of_le Nat.zero_lt_one (by decide),?_⟩
 refine⟨x,_,dx,_,rfl,a0v,T.a7c,T.a8g,Nat.lt_of_lt_of_le (Nat.lt_succ_self 1) (by decide),?_⟩
 exact k _ (Kp.upd.trans Kp.upd) (by rw[a0v]; rfl)
def f5v(t:Adr):Sp:=fun vs H Q _=>∃ (x dx o:Addr),vs=[.ref x,.ref o]/\H x=some (.ins t.a2o dx [])/\∀ s H',Kp x H H'->Wr t H' x s 0->Ss t H' s o->H s=none->Q .non H'
theorem d0w (T:Txt w K mg t):d8f P w K mg base "SeenWriter" t.a2o 3 t.b1u t.b1r ["self", "tongue"] [] (f5v t):=⟨T.d6t,T.d6i,⟨[],T.c7w,.nil⟩,by
 refine T.c8m.okQ c5g (fun vs H Q E h=>by obtain⟨x,dx,o,rfl,_⟩:=h; rfl) fun cdv A outer s H vs Q E hr h=>?_
 obtain⟨x,dx,o,rfl,hx,k⟩:=h
 refine⟨_,(a0e (a2n (f0d (K:=K) rfl T.f4b T.f2a (f1l T) hr (a0c (a0h 0) (a0c (b6i (c0g T) hr (a0c (a0h 1) a0a)) a0a))))),?_⟩
 refine fun s ds hs hds hne=>?_
 have s1:=d6b (C:=t.a1t) (o:=.ins t.a1t ds [("tongue",.ref o)]) hs hds
 refine⟨s,ds,o,rfl,a0v,rfl,?_⟩
 have nxs:s≠x:=(a0l hx hs).symm
 refine⟨x,dx,s,rfl,s1 _ _ hx,fun H2 k2 hx2=>?_⟩
 exact k s H2 ((Kp.of s1).trans k2) ⟨dx,hx2⟩ ⟨ds,k2 _ _ nxs a0v⟩ hs⟩
def h4s(K:PySem.W.Frag)(t:Adr):Sp:=fun vs H Q _=>∃ (x s o a:Addr) (D:Kt) (xs:List Int) (g:Int),vs=[.ref x,.ref a]/\Wr t H x s g/\Ss t H s o/\TN t H o D/\PgK D g/\SqL K H a (xs.map V.int)/\xs.length<=2000/\(∀ x∈xs,Thg D x) /\
 ∀ q H',Kp x H H'->H q=none->Wr t H' x s (wrS D g xs).2->H' q=some (.lst ((wrS D g xs).1.map V.int))->Q (.ref q) H'
theorem a9g (T:Txt w K mg t):c4v P w K mg base t.a2o "feed" 7 t.b9z t.b8y ["self", "text"] (h4s K t):=by
 refine⟨T.a7c,T.mt_SeenWriter_feed,T.d7v,T.d8g.okQ c2s (fun vs H Q E h=>by obtain⟨x,s,o,a,D,xs,g,rfl,_⟩:=h; rfl) fun cdv A outer s H vs Q E hr h=>?_⟩
 obtain⟨x,s,o,a,D,xs,g,rfl,⟨dx,hx⟩,ss,tn,pg,ha,hl,hs,k⟩:=h
 have hu:=hr.units
 refine⟨_,(a0b (a0r (i:=2) c2s.nd rfl (by first | exact Or.inl rfl | exact Or.inr rfl) (a2a (c8v T) hr (a0c (a0z (K:=K) rfl (a0h 0)) (a0c (a0h 1) (a0c (a0z (K:=K) rfl (a0h 0)) a0a)))))
  (a0b (a1w (K:=K) rfl (a0h 0) (a1b (a1y (K:=K) rfl) (a0h 2) a0g (fun _ _=>rfl)))
  (a0e (a0i (a1b (a1y (K:=K) rfl) (a0h 2) a0g (fun _ _=>rfl)))))),?_⟩
 refine⟨x,_,dx,_,_,rfl,hx,T.a7c,T.b3i,rfl,?_⟩
 refine⟨x,_,dx,_,_,rfl,hx,T.a7c,T.a8g,rfl,?_⟩
 refine⟨s,o,a,D,xs,g,rfl,ss,tn,pg,ha,hl,hs,fun p q H1 nq s1 hq hp=>?_⟩
 refine⟨_,.int _,.inr (.of hp),a1f (j:=1) rfl,?_⟩
 have hx1:=s1 _ _ hx
 refine⟨x,_,dx,_,rfl,hx1,T.a7c,T.a8g,Nat.lt_of_lt_of_le (Nat.lt_succ_self 2) (by decide),?_⟩
 have npx:p≠x:=a1o hp hx1 (by intro z; cases z)
 have nqx:q≠x:=(a0l hx nq).symm
 refine⟨_,.ref q,.inr (.of (by rw[a1c npx]; exact hp)),a1f (j:=0) rfl,?_⟩
 exact k q _ ((Kp.of s1).trans Kp.upd) nq ⟨dx,by rw[a0v]; rfl⟩ (by rw[a1c nqx]; exact hq)
def g0z(K:PySem.W.Frag):Sp:=fun vs H Q _=>∃ (a:Addr) (ns:List Int) (k:Nat),vs=[.ref a,.int (k:Int)]/\SqL K H a (ns.map V.int)/\∀ c H',a1l H H'->Q (.int c) H'
theorem c0p (T:Txt w K mg t):Has P w K mg base "_law_drawn" 1 t.d3a t.d1l ["_law_script", "_law_at"] (g0z K):=by
 refine⟨T.f2i,T.e1a.kp,T.f4k,T.e1a.okQ e6p (fun vs H Q E h=>by obtain⟨a,ns,i,rfl,_⟩:=h; rfl) fun cdv A outer s H vs Q E hr h=>?_⟩
 obtain⟨a,ns,i,rfl,h1,k⟩:=h
 refine⟨_,(a0e (a0i (a2g (g0g (K:=K) rfl rfl) T.n_sum PyProof.Rows.boot_sum (a0c (a1z (b8c (K:=K) rfl) (a0h 0) (a1x (a0h 1)) (a1x (a0q (a1r (K:=K) rfl) (a0h 1) a0g))) a0a)))),?_⟩
 refine⟨_,rfl,_,rfl,_,h1,fun p1 H1 g1=>?_⟩
 rw[a5p]at g1
 exact⟨_,g1.lst,k _ _ g1.sm⟩
def g9s:Sp:=fun vs H Q _=>∃ (n k:Int),vs=[.int n,.int k]/\0<=k/\k<=1000000/\∀ m,0<=m->m < 2147483629->Q (.int m) H
theorem d1a (T:Txt w K mg t):Has P w K mg base "_law_mixed" 1 t.d2y t.d1j ["_law_number", "_law_k"] g9s:=by
 refine⟨T.f2g,T.e0y.kp,T.f4i,T.e0y.okQ d4u (fun vs H Q E h=>by obtain⟨n,k,rfl,_⟩:=h; rfl) fun cdv A outer s H vs Q E hr h=>?_⟩
 obtain⟨n,k,rfl,k0,k1,kq⟩:=h
 have two64:(2:Int) ^ 64=18446744073709551616:=by decide
 refine⟨_,(a0b (a0r (i:=0) d4u.nd rfl (by first | exact Or.inl rfl | exact Or.inr rfl) (a1p (a0q (a1r (K:=K) rfl) (a0q (a1r (K:=K) rfl) (a0h 0) (a0q c3y (a0q c3y a0g (a0h 1)) (a0h 1))) a0g)))
  (a0e (a0i (a1p (a0q (a1r (K:=K) rfl) (a0q (a1r (K:=K) rfl) (a0q c3y (a0h 0) (a0h 0)) (a0q c3y a0g (a0h 0))) (a0h 1)))))),?_⟩
 refine⟨Or.inl ⟨by decide,by decide⟩,?_⟩
 refine⟨Or.inr ⟨by omega,by omega⟩,?_⟩
 refine⟨Or.inl ⟨by omega,by omega⟩,?_⟩
 refine⟨Or.inl ⟨by decide,by decide⟩,?_⟩
 exact kq _ (by omega) (by omega)
def e7o(n:Int):Int:=if (if n%1111808>=55296 then n%1111808+2048 else n%1111808)>=61184 then (if n%1111808>=55296 then n%1111808+2048 else n%1111808)+256 else (if n%1111808>=55296 then n%1111808+2048 else n%1111808)
theorem e5g(n:Int):Sg (e7o n):=by
 unfold e7o Sg
 (repeat' split) <;> omega
theorem e2x{a b:Int}(h:e7o a=e7o b):a%1111808=b%1111808:=by
 unfold e7o at h
 revert h
 (repeat' split) <;> omega
theorem h5w{k d:Int}(h0 : -251 < d)(h1:d < 251)(hk:14997*d=1111808*k):d=0:=by
 omega
theorem h5v{k d:Int}(h0 : -251 < d)(h1:d < 251)(hk:24995*d=1111808*k):d=0:=by
 omega
theorem h5e(B x y:Int):4999*(B+3*(0+x)) - 4999*(B+3*(0+y))=14997*(x - y):=by
 omega
theorem h5d(B x y:Int):4999*(B+5*(0+x)) - 4999*(B+5*(0+y))=24995*(x - y):=by
 omega
theorem e2s{x y:Int}(h:x%1111808=y%1111808) : ∃ k:Int,x - y=1111808*k:=⟨x / 1111808 - y / 1111808,by omega⟩
theorem h5i{B:Int}{i j n:Nat}(hi:i < n)(hj:j < n)(hn:n<=250)(h:4999*(B+3*(0+(i:Int)))%1111808=4999*(B+3*(0+(j:Int)))%1111808):i=j:=by
 obtain⟨k,hk⟩:=e2s h
 rw[h5e]at hk
 have:=h5w (by clear h hk; omega) (by clear h hk; omega) hk
 clear h hk
 omega
theorem h5h{B:Int}{i j n:Nat}(hi:i < n)(hj:j < n)(hn:n<=250)(h:4999*(B+5*(0+(i:Int)))%1111808=4999*(B+5*(0+(j:Int)))%1111808):i=j:=by
 obtain⟨k,hk⟩:=e2s h
 rw[h5d]at hk
 have:=h5v (by clear h hk; omega) (by clear h hk; omega) hk
 clear h hk
 omega
theorem h5x{k d:Int}(h0 : -251 < d)(h1:d < 251)(hk:4999*d=1111808*k):d=0:=by
 omega
theorem h5f(B x y:Int):4999*(B+(0+x)) - 4999*(B+(0+y))=4999*(x - y):=by
 omega
theorem h5j{B:Int}{i j n:Nat}(hi:i < n)(hj:j < n)(hn:n<=250)(h:4999*(B+(0+(i:Int)))%1111808=4999*(B+(0+(j:Int)))%1111808):i=j:=by
 obtain⟨k,hk⟩:=e2s h
 rw[h5f]at hk
 have:=h5x (by clear h hk; omega) (by clear h hk; omega) hk
 clear h hk
 omega
theorem c2a (T:Txt w K mg t):Has P w K mg base "_law_gapped" 1 t.c8d t.c7o ["_law_number"] (fun vs H Q _=>∃ n,vs=[.int n]/\Q (.int (e7o n)) H):=by
 refine⟨T.e7r,T.d5m.kp,T.e8f,T.d5m.okQ b8n (fun vs H Q E h=>by obtain⟨n,rfl,_⟩:=h; rfl) fun cdv A outer s H vs Q E hr h=>?_⟩
 obtain⟨n,rfl,k⟩:=h
 refine⟨_,(a0b (a0r (i:=1) b8n.nd rfl (by first | exact Or.inl rfl | exact Or.inr rfl) (a1p (a0h 0)))
  (a0b (a0w (a0o h3i (a0h 1) a0g (a1e _)) (a0e (a0r (i:=1) b8n.nd rfl (by first | exact Or.inl rfl | exact Or.inr rfl) (a0q (a1r (K:=K) rfl) (a0h 1) a0g))) a0n)
  (a0b (a0w (a0o h3i (a0h 1) a0g (a1e _)) (a0e (a0r (i:=1) b8n.nd rfl (by first | exact Or.inl rfl | exact Or.inr rfl) (a0q (a1r (K:=K) rfl) (a0h 1) a0g))) a0n)
  (a0e (a0i (a0h 1)))))),?_⟩
 unfold e7o at k
 refine a1v (fun z=>?_) (fun z=>?_)
 ·have z:n%1111808>=55296:=of_decide_eq_true z
  rw[if_pos z]at k
  refine a1v (fun y=>?_) (fun y=>?_)
  ·rw[if_pos (of_decide_eq_true y)]at k; exact k
  ·rw[if_neg (fun x=>y (decide_eq_true x))]at k; exact k
 ·have z : ¬ n%1111808>=55296:=fun y=>z (decide_eq_true y)
  rw[if_neg z]at k
  refine a1v (fun y=>?_) (fun y=>?_)
  ·rw[if_pos (of_decide_eq_true y)]at k; exact k
  ·rw[if_neg (fun x=>y (decide_eq_true x))]at k; exact k
def g4z:Sp:=fun vs H Q _=>∃ c,vs=[.int c]/\∀ n H',a1l H H'->Sg n->Q (.int n) H'
theorem g1c : ∀ n∈([0,10,127,128,2047,2048,55295,57344,61183,61440,65279,65535,65536,1048575,1114111]:List Int),Sg n:=by unfold Sg; decide
theorem e2v (T:Txt w K mg t):Has P w K mg base "_law_as_sign" 2 t.c4r t.c4a ["_law_number"] g4z:=by
 refine⟨T.e2z,T.d3m.kp,T.e3z,T.d3m.okQ c8t (fun vs H Q E h=>by obtain⟨c,rfl,_⟩:=h; rfl) fun cdv A outer s H vs Q E hr h=>?_⟩
 obtain⟨c,rfl,k⟩:=h
 have hu:=hr.units
 refine⟨_,(a0b (a0r (i:=1) c8t.nd rfl (by first | exact Or.inl rfl | exact Or.inr rfl) (a0y (b8b rfl)))
  (a0b (a0w (a0o (a4q (K:=K) rfl hu) (a1p (a0h 0)) a0g (a1e _)) (a0e (a0i (a1b (a1y (K:=K) rfl) (a0h 1) (a1p (a2m (a0h 0))) (fun _ _=>rfl)))) a0n)
  (a0b (a0w (a0o (a4q (K:=K) rfl hu) (a1p (a0h 0)) a0g (a1e _)) (a0e (a0i (a1p (a2m (a0h 0))))) a0n)
  (a0e (a0i (a2a (c2a T) hr (a0c (a2m (a0h 0)) a0a))))))),?_⟩
 refine⟨sz rfl,fun p1 H1 g1=>?_⟩
 refine a1v (fun _=>?_) (fun _=>?_)
 ·obtain⟨v,hv,e1,_⟩:=e6f (xs:=(([0,10,127,128,2047,2048,55295,57344,61183,61440,65279,65535,65536,1048575,1114111]:List Int).map V.int)) (i:=c / 4%15) (by omega) (by simp; omega)
  obtain⟨n,hn,rfl⟩:=List.mem_map.mp hv
  exact⟨_,_,.inl g1.lst,e1,k _ _ g1.sm (g1c n hn)⟩
 refine a1v (fun _=>?_) (fun _=>?_)
 ·exact k _ _ g1.sm (by unfold Sg; omega)
 ·exact⟨_,rfl,k _ _ g1.sm (e5g _)⟩
theorem e9w{f:Nat->Int}{n:Nat}(hn:n<=250)(hs : ∀ k,k < n->Sg (f k))(inj : ∀ i j,i < n->j < n->f i=f j->i=j):Okp ((List.range n).map f):=by
 refine⟨fun m hm=>?_,?_,by rw[List.length_map,List.length_range]; exact hn⟩
 ·obtain⟨k,hk,rfl⟩:=List.mem_map.mp hm
  exact hs k (List.mem_range.mp hk)
 ·refine List.pairwise_map.mpr ?_
  exact List.nodup_range.imp_of_mem fun {i j} hi hj ne e=>ne (inj i j (List.mem_range.mp hi) (List.mem_range.mp hj) e)
theorem Okp.rev{ns:List Int}(h:Okp ns):Okp ns.reverse:=⟨fun n hn=>h.1 n (List.mem_reverse.mp hn),List.pairwise_reverse.mpr (h.2.1.imp fun h=>Ne.symm h),by rw[List.length_reverse]; exact h.2.2⟩
def h4n:Sp:=fun vs H Q _=>∃ (c:Int),vs=[.int c]/\∀ (p q r:Addr) (ns ms:List Int) H',a1l H H'->H' p=some (.tup [.ref q,.ref r])->H' q=some (.lst (ns.map V.int))->H' r=some (.lst (ms.map V.int))->Okp ns->Okp ms->Q (.ref p) H'
theorem f1r (T:Txt w K mg t):Has P w K mg base "_law_lists" 2 t.d2z t.d1k ["_law_number"] h4n:=by
 refine⟨T.f2h,T.e0z.kp,T.f4j,T.e0z.okQ b4k (fun vs H Q E h=>by obtain⟨c,rfl,_⟩:=h; rfl) fun cdv A outer s H vs Q E hr h=>?_⟩
 obtain⟨c,rfl,k⟩:=h
 have hu:=hr.units
 have two64:(2:Int) ^ 64=18446744073709551616:=by decide
 refine⟨_,(a0b (a0r (i:=1) b4k.nd rfl (by first | exact Or.inl rfl | exact Or.inr rfl) (a0y (a0c (a1p (a2m (a0h 0))) (a0c (a1p (a2m (a0h 0))) a0a))))
  (a0b (a0w (a0o (a4q (K:=K) rfl hu) (a1p (a0h 0)) a0g (a1e _)) (a0e (a0r (i:=1) b4k.nd rfl (by first | exact Or.inl rfl | exact Or.inr rfl) (a0y (a0c (a0q (a1r (K:=K) rfl) a0g (a1p (a2m (a0h 0)))) (a0c (a1p (a2m (a0h 0))) a0a))))) a0n)
  (a0b (a0r (i:=2) b4k.nd rfl (by first | exact Or.inl rfl | exact Or.inr rfl) (a1p (a2m (a0h 0))))
  (a0b (c5k (i:=3) b4k.nd rfl (by first | exact Or.inl rfl | exact Or.inr rfl) rfl (a2b.of (fns:=(a0f b2s).names) (N:=["_law_number", "_law_sizes", "_law_base", "_law_first", "_law_second"]) (Nc:=["_law_k", "_law_base"]) (nv:=1) (caps:=[2]) rfl rfl (by decide +kernel)) (b1p rfl T.n_range (a0c (a1b (a1y (K:=K) rfl) (a0h 1) a0g (fun _ _=>rfl)) a0a)) (fun _ _ _ _=>(a0x (i:=0) (show List.Nodup (["_law_k", "_law_base"]:List Str) by decide +kernel) rfl (Or.inl rfl) (Or.inr rfl))) (fun _ _ _ _=>a4p) (fun _ _ _ _=>(a2a (c2a T) hr (a0c (a0q c3y a0g (a0q (a1r (K:=K) rfl) (a0h 1) (a0q c3y a0g (a0h 0)))) a0a))))
  (a0b (c5k (i:=4) b4k.nd rfl (by first | exact Or.inl rfl | exact Or.inr rfl) rfl (a2b.of (fns:=(a0f b2s).names) (N:=["_law_number", "_law_sizes", "_law_base", "_law_first", "_law_second"]) (Nc:=["_law_k", "_law_base"]) (nv:=1) (caps:=[2]) rfl rfl (by decide +kernel)) (b1p rfl T.n_range (a0c (a1b (a1y (K:=K) rfl) (a0h 1) a0g (fun _ _=>rfl)) a0a)) (fun _ _ _ _=>(a0x (i:=0) (show List.Nodup (["_law_k", "_law_base"]:List Str) by decide +kernel) rfl (Or.inl rfl) (Or.inr rfl))) (fun _ _ _ _=>a4p) (fun _ _ _ _=>(a2a (c2a T) hr (a0c (a0q c3y a0g (a0q (a1r (K:=K) rfl) (a0h 1) (a0q c3y a0g (a0h 0)))) a0a))))
  (a0b (a0w (a0o f5f (a1p (a0h 0)) a0g (a1e _)) (a0e (a2n (d9g (K:=K) rfl PySem.F.plainAttrs_list PySem.F.slot_list_reverse PySem.F.type_list_reverse e7c (a0h 4)))) a0n)
  (a0e (a0i (a1u (a0c (a0h 3) (a0c (a0h 4) a0a))))))))))),?_⟩
 refine⟨sz rfl,fun p1 H1 g1=>?_⟩
 dsimp only [b5k]
 refine b0u (fun σ' H'=>a1l H H'/\∃ (ps:Addr) (x y:Int),H' ps=some (.lst [.int x,.int y])/\0<=x/\x<=250/\0<=y/\y<=250/\σ'=[some (.int c),some (.ref ps),none,none,none]) (fun nx hn=>?_) ?_
 ·refine a1v (fun _=>?_) (fun _=>?_)
  ·refine⟨sz rfl,fun p2 H2 g2=>?_⟩
   exact hn _ _ ⟨g1.sm.trans g2.sm,p2,_,_,g2.at_,by omega,by omega,by omega,by omega,rfl⟩
  ·exact hn _ _ ⟨g1.sm,p1,_,_,g1.at_,by omega,by omega,by omega,by omega,rfl⟩
 rintro σ' H2 ⟨s2,ps,x,y,hps,x0,x1,y0,y1,rfl⟩
 obtain⟨b,eb⟩ : ∃ b,b=c / 1000%1111:=⟨_,rfl⟩
 refine⟨_,.int x,.inl (.of hps),a1f (j:=0) rfl,?_⟩
 refine⟨x,rfl,by omega,by omega,?_⟩
 refine c9t (lo:=0) (n:=x.toNat) (((List.range x.toNat).map fun k:Nat=>e7o (4999*(c / 1000%1111+3*(0+(k:Int))))).map V.int) (by rw[List.length_map,List.length_map,List.length_range]) (szl (by omega)) (fun j v H5 N hj hv s5 hN=>?_) fun q0 H3 g3=>?_
 ·rw[List.getElem?_map,List.getElem?_map,List.getElem?_range hj]at hv
  cases hv
  refine⟨Or.inl ⟨by decide,by decide⟩,?_⟩
  refine⟨Or.inl ⟨by decide,by decide⟩,?_⟩
  exact⟨_,rfl,hN _ (a1l.refl _)⟩
 have ok0:Okp ((List.range x.toNat).map fun k:Nat=>e7o (4999*(c / 1000%1111+3*(0+(k:Int))))):=e9w (by omega) (fun k _=>e5g _) fun i j hi hj e=>h5i hi hj (by omega) (e2x e)
 refine⟨_,.int y,.inl (.of (g3.sm _ _ hps)),a1f (j:=1) rfl,?_⟩
 refine⟨y,rfl,by omega,by omega,?_⟩
 refine c9t (lo:=0) (n:=y.toNat) (((List.range y.toNat).map fun k:Nat=>e7o (4999*(c / 1000%1111+5*(0+(k:Int))))).map V.int) (by rw[List.length_map,List.length_map,List.length_range]) (szl (by omega)) (fun j v H5 N hj hv s5 hN=>?_) fun q1 H4 g4=>?_
 ·rw[List.getElem?_map,List.getElem?_map,List.getElem?_range hj]at hv
  cases hv
  refine⟨Or.inl ⟨by decide,by decide⟩,?_⟩
  refine⟨Or.inl ⟨by decide,by decide⟩,?_⟩
  exact⟨_,rfl,hN _ (a1l.refl _)⟩
 have ok1:Okp ((List.range y.toNat).map fun k:Nat=>e7o (4999*(c / 1000%1111+5*(0+(k:Int))))):=e9w (by omega) (fun k _=>e5g _) fun i j hi hj e=>h5h hi hj (by omega) (e2x e)
 have s24:=g3.sm.trans g4.sm
 have n10:q1≠q0:=(a0l g3.at_ g4.nw).symm
 have f1:H q1=none:=s2.free (g3.sm.free g4.nw)
 dsimp only [b5k]
 refine b0u (fun σ' H'=>a1l H H'/\H' q0=some (.lst (((List.range x.toNat).map fun k:Nat=>e7o (4999*(c / 1000%1111+3*(0+(k:Int))))).map V.int))/\(∃ ms,H' q1=some (.lst (ms.map V.int))/\Okp ms)/\σ'=[some (.int c),some (.ref ps),some (.int (c / 1000%1111)),some (.ref q0),some (.ref q1)]) (fun nx hn=>?_) ?_
 ·refine a1v (fun _=>?_) (fun _=>?_)
  ·refine⟨.inl ⟨rfl,_,.of g4.at_⟩,?_⟩
   refine⟨q1,_,rfl,rfl,g4.at_,?_⟩
   exact hn _ _ ⟨(s2.trans s24).put f1,by rw[a1c n10.symm]; exact g4.sm _ _ g3.at_,⟨_,by rw[a0v,List.map_reverse],ok1.rev⟩,rfl⟩
  ·exact hn _ _ ⟨s2.trans s24,g4.sm _ _ g3.at_,⟨_,g4.at_,ok1⟩,rfl⟩
 ·rintro σ' H5 ⟨s5,h0,⟨ms,hm,okm⟩,rfl⟩
  exact⟨sz rfl,fun p6 H6 g6=>k p6 q0 q1 _ _ H6 (s5.trans g6.sm) g6.at_ (g6.sm _ _ h0) (g6.sm _ _ hm) ok0 okm⟩
theorem g0j{h h' a b:List Int}(l:h.length=h'.length)(n:h≠h'):d2p (h++a) (h'++b)=false:=by
 unfold d2p
 rw[decide_eq_false]
 intro z
 apply n
 have:=congrArg (List.take h.length) z
 rw[List.take_take,Nat.min_eq_left (by rw[List.length_append]; omega),List.take_append_of_le_length (by omega),List.take_append_of_le_length (by omega),List.take_length,l,List.take_length]at this
 exact this.symm
def hdT(n:Int)(k:Nat):List Int:=if n / 11%3 > 0 then [(n / 13+7*((0+(k:Int)) / 3))%256,(n / 4000+5*((0+(k:Int))%3))%256] else [(n / 13+7*(0+(k:Int)))%256]
theorem f9v(n:Int)(i j:Nat):(hdT n i).length=(hdT n j).length:=by
 unfold hdT; split <;> rfl
theorem g7y(n:Int)(i:Nat):1<=(hdT n i).length/\(hdT n i).length<=2:=by
 unfold hdT; split <;> simp
theorem g7x{n:Int}{i j:Nat}(hi:i < 13)(hj:j < 13)(h:i≠j):hdT n i≠hdT n j:=by
 unfold hdT
 split
 ·intro z
  simp at z
  omega
 ·intro z
  simp at z
  omega
theorem h0z(n:Int)(i:Nat) : ∀ b∈hdT n i,0<=b/\b<=255:=by
 intro b hb
 unfold hdT at hb
 split at hb
 ·simp at hb; omega
 ·simp at hb; omega
def sgT(n:Int)(k:Nat):Int:=e7o (4999*(n / 13%999+(0+(k:Int))))
theorem g5l{n:Int}{i j:Nat}(hi:i < 13)(hj:j < 13)(h:i≠j):sgT n i≠sgT n j:=fun z=>by
 exact h (h5j hi hj (by decide) (e2x z))
def Drw(n:Int)(es:List (Int × List Int)):Prop:=∀ (j:Nat) e,es[j]? = some e->e.1=sgT n j/\∃ tl,e.2=hdT n j++tl/\tl.length<=4/\∀ b∈tl,0<=b/\b<=255
theorem g8j{n:Int}{es:List (Int × List Int)}(h:Drw n es)(l:es.length<=13):Es es:=by
 refine⟨fun e he=>?_,List.pairwise_iff_getElem.mpr fun i j hi hj hij=>?_,by omega⟩
 ·obtain⟨j,hj,rfl⟩:=List.mem_iff_getElem.mp he
  obtain⟨e1,tl,e2,l4,hb⟩:=h j _ (List.getElem?_eq_getElem hj)
  have:=g7y n j
  refine⟨by rw[e1]; exact e5g _,by rw[e2,List.length_append]; omega,by rw[e2,List.length_append]; omega,fun b hb'=>?_⟩
  rw[e2]at hb'
  rcases List.mem_append.mp hb' with z | z
  ·exact h0z n j b z
  ·exact hb b z
 ·obtain⟨a1,t1,a2,_⟩:=h i _ (List.getElem?_eq_getElem hi)
  obtain⟨b1,t2,b2,_⟩:=h j _ (List.getElem?_eq_getElem hj)
  unfold e8a
  rw[a1,a2,b1,b2,g0j (f9v n i j) (g7x (by omega) (by omega) (by omega)),g0j (f9v n j i) (g7x (by omega) (by omega) (by omega)),decide_eq_false (g5l (by omega) (by omega) (by omega))]
  rfl
def RwH(H:Hp)(qs:List Addr)(es:List (Int × List Int)):Prop:=c9e (fun q e=>H q=some (.lst (e.2.map V.int))) qs es
theorem RwH.mono{H H':Hp}{qs:List Addr}{es:List (Int × List Int)}(h:RwH H qs es)(s:a1l H H'):RwH H' qs es:=h.imp fun q e z=>s _ _ z
def g9n:Sp:=fun vs H Q _=>∃ (c:Int),vs=[.int c]/\0<=c/\∀ (p a b:Addr) (qs:List Addr) (es:List (Int × List Int)) H',a1l H H'->H' p=some (.tup [.ref a,.ref b])->H' a=some (.lst ((es.map fun e=>e.1).map V.int))->H' b=some (.lst (qs.map V.ref))->RwH H' qs es->Es es->Q (.ref p) H'
theorem f1o (T:Txt w K mg t):Has P w K mg base "_law_table" 2 t.d2v t.d1g ["_law_number"] g9n:=by
 refine⟨T.f2d,T.e0v.kp,T.f4f,T.e0v.okQ b0k (fun vs H Q E h=>by obtain⟨c,rfl,_⟩:=h; rfl) fun cdv A outer s H vs Q E hr h=>?_⟩
 obtain⟨c,rfl,c0,k⟩:=h
 have hu:=hr.units
 have two64:(2:Int) ^ 64=18446744073709551616:=by decide
 refine⟨_,(a0b (a0r (i:=1) b0k.nd rfl (by first | exact Or.inl rfl | exact Or.inr rfl) (a0y a0a))
  (a0b (a0r (i:=2) b0k.nd rfl (by first | exact Or.inl rfl | exact Or.inr rfl) (a0y a0a))
  (a0b (a4x PassesOwn.never rfl (b1p rfl T.n_range (a0c (a1p (a0h 0)) a0a)) (a0x (i:=3) b0k.nd rfl (by first | exact Or.inl rfl | exact Or.inr rfl)) (a0b (a0r (i:=4) b0k.nd rfl (by first | exact Or.inl rfl | exact Or.inr rfl) (a2a (d1a T) hr (a0c (a0h 0) (a0c (a0q (a1r (K:=K) rfl) (a0h 3) a0g) a0a))))
  (a0b (a0r (i:=5) b0k.nd rfl (by first | exact Or.inl rfl | exact Or.inr rfl) (a0y (a0c (a1p (a0q (a1r (K:=K) rfl) (a2m (a0h 0)) (a0q c3y a0g (a0h 3)))) a0a)))
  (a0b (a0w (a0o f5f (a1p (a2m (a0h 0))) a0g (a1e _)) (a0e (a0r (i:=5) b0k.nd rfl (by first | exact Or.inl rfl | exact Or.inr rfl) (a0y (a0c (a1p (a0q (a1r (K:=K) rfl) (a2m (a0h 0)) (a0q c3y a0g (a2m (a0h 3))))) (a0c (a1p (a0q (a1r (K:=K) rfl) (a2m (a0h 0)) (a0q c3y a0g (a1p (a0h 3))))) a0a))))) a0n)
  (a0b (a0r (i:=5) b0k.nd rfl (by first | exact Or.inl rfl | exact Or.inr rfl) (a0q (a1r (K:=K) rfl) (a0h 5) (a6b rfl (a2b.of (fns:=(a0f b5a).names) (N:=["_law_number", "_law_signs", "_law_rows", "_law_k", "_law_far", "_law_row_here"]) (Nc:=["_law_j", "_law_far"]) (nv:=1) (caps:=[4]) rfl rfl (by decide +kernel)) (b1p rfl T.n_range (a0c (a1p (a0h 4)) a0a)) (fun _ _ _ _=>(a0x (i:=0) (show List.Nodup (["_law_j", "_law_far"]:List Str) by decide +kernel) rfl (Or.inl rfl) (Or.inr rfl))) (fun _ _ _ _=>a4p) (fun _ _ _ _=>(a1p (a0q (a1r (K:=K) rfl) (a2m (a0h 1)) (a0q c3y a0g (a0h 0))))))))
  (a0b (a2n (a5t (K:=K) rfl PySem.F.plainAttrs_list PySem.F.slot_list_append PySem.F.type_list_append a9v (a0h 1) (a0c (a2a (c2a T) hr (a0c (a0q c3y a0g (a0q (a1r (K:=K) rfl) (a1p (a2m (a0h 0))) (a0h 3))) a0a)) a0a)))
  (a0e (a2n (a5t (K:=K) rfl PySem.F.plainAttrs_list PySem.F.slot_list_append PySem.F.type_list_append a9v (a0h 2) (a0c (a0h 5) a0a))))))))))
  (a0e (a0i (a1u (a0c (a0h 1) (a0c (a0h 2) a0a)))))))),?_⟩
 refine⟨sz rfl,fun pa H1 g1=>?_⟩
 refine⟨sz rfl,fun pb H2 g2=>?_⟩
 have nab:pb≠pa:=(a0l g1.at_ g2.nw).symm
 have fa:H pa=none:=g1.nw
 have fb:H pb=none:=g1.sm.free g2.nw
 refine⟨c%13,rfl,by omega,by omega,?_⟩
 refine c5r (lo:=0) (n:=(c%13).toNat) (fun i σ H'=>a1l H H'/\(∃ qs es,es.length=i/\Drw c es/\H' pa=some (.lst ((es.map fun e=>e.1).map V.int))/\H' pb=some (.lst (qs.map V.ref))/\RwH H' qs es/\∀ q∈qs,q≠pa/\q≠pb)/\∃ v3 v4 v5,σ=[some (.int c),some (.ref pa),some (.ref pb),v3,v4,v5])
  ⟨g1.sm.trans g2.sm,⟨[],[],rfl,(fun j e h=>by simp at h),g2.sm _ _ g1.at_,g2.at_,c9e.nil,(fun q h=>nomatch h)⟩,_,_,_,rfl⟩ ?_ ?_
 ·rintro i σ H3 hi ⟨s3,⟨qs,es,le,dr,ha,hb,rw3,nq⟩,v3,v4,v5,rfl⟩
  have hi13:i < 13:=by omega
  refine⟨_,_,rfl,by omega,by omega,fun far f0 f1=>?_⟩
  refine⟨Or.inl ⟨by decide,by decide⟩,?_⟩
  refine⟨sz rfl,fun p4 H4 g4=>?_⟩
  dsimp only [b5k]
  refine b0u (fun σ' H'=>a1l H3 H'/\∃ p5,H' p5=some (.lst ((hdT c i).map V.int))/\σ'=[some (.int c),some (.ref pa),some (.ref pb),some (.int (0+(i:Int))),some (.int far),some (.ref p5)]) (fun nx hn=>?_) ?_
  ·refine a1v (fun z=>?_) (fun z=>?_)
   ·have z:c / 11%3 > 0:=of_decide_eq_true z
    refine⟨Or.inl ⟨by decide,by decide⟩,?_⟩
    refine⟨Or.inl ⟨by decide,by decide⟩,?_⟩
    refine⟨sz rfl,fun p5 H5 g5=>?_⟩
    exact hn _ _ ⟨g4.sm.trans g5.sm,p5,by unfold hdT; rw[if_pos z]; exact g5.at_,rfl⟩
   ·have z : ¬ c / 11%3 > 0:=fun y=>z (decide_eq_true y)
    exact hn _ _ ⟨g4.sm,p4,by unfold hdT; rw[if_neg z]; exact g4.at_,rfl⟩
  rintro σ' H5 ⟨s5,p5,h5,rfl⟩
  refine⟨far%5,rfl,by omega,by omega,?_⟩
  refine c9t (lo:=0) (n:=(far%5).toNat) (((List.range (far%5).toNat).map fun j:Nat=>(far / 16+3*(0+(j:Int)))%256).map V.int) (by rw[List.length_map,List.length_map,List.length_range]) (szl (by omega)) (fun j v H6 N hj hv s6 hN=>?_) fun p6 H6 g6=>?_
  ·rw[List.getElem?_map,List.getElem?_map,List.getElem?_range hj]at hv
   cases hv
   refine⟨Or.inl ⟨by decide,by decide⟩,?_⟩
   exact hN _ (a1l.refl _)
  have hl:=g7y c i
  refine⟨_,_,.of (g6.sm _ _ h5),g6.lst,szl (by rw[List.length_map,List.length_map,List.length_map,List.length_range]; omega),fun p7 H7 g7=>?_⟩
  rw[<- List.map_append]at g7
  have s37:=s5.trans (g6.sm.trans g7.sm)
  have ha7:=s37 _ _ ha
  have hb7:=s37 _ _ hb
  have np7a:p7≠pa:=(a0l (g6.sm _ _ (s5 _ _ ha)) g7.nw).symm
  have np7b:p7≠pb:=(a0l (g6.sm _ _ (s5 _ _ hb)) g7.nw).symm
  refine⟨.inl ⟨rfl,_,.of ha7⟩,?_⟩
  refine⟨Or.inl ⟨by decide,by decide⟩,?_⟩
  refine⟨_,rfl,?_⟩
  refine⟨_,ha7,e1m (by rw[List.length_map,List.length_map]; omega),?_⟩
  have hb8:upd H7 pa (.lst ((es.map fun e=>e.1).map V.int++[.int (sgT c i)])) pb=some (.lst (qs.map V.ref)):=by rw[a1c nab]; exact hb7
  refine⟨.inl ⟨rfl,_,.of hb8⟩,?_⟩
  have lq:qs.length=i:=by rw[<- le]; exact rw3.1
  refine⟨_,hb8,e1m (by rw[List.length_map]; omega),?_⟩
  refine⟨((s3.trans s37).put fa).put fb,⟨qs++[p7],es++[(sgT c i,hdT c i++(List.range (far%5).toNat).map fun j:Nat=>(far / 16+3*(0+(j:Int)))%256)],by rw[List.length_append,le]; rfl,fun j e he=>?_,?_,?_,c9e.app ⟨rw3.1,fun j q e hq he=>?_⟩ (c9e.cons ?_ c9e.nil),fun q hq=>?_⟩,_,_,_,rfl⟩
  ·by_cases cj:j < es.length
   ·rw[List.getElem?_append_left cj]at he
    exact dr j e he
   ·have ej:j=es.length:=by
     have:=(List.getElem?_eq_some_iff.mp he).1
     rw[List.length_append]at this
     simp at this
     omega
    rw[ej,List.getElem?_append_right (Nat.le_refl _),Nat.sub_self]at he
    cases he
    refine⟨by rw[ej,le],_,by rw[ej,le],by rw[List.length_map,List.length_range]; omega,fun b hb=>?_⟩
    obtain⟨x,_,rfl⟩:=List.mem_map.mp hb
    omega
  ·rw[a1c nab.symm,a0v,List.map_append,List.map_append]; rfl
  ·rw[a0v,List.map_append]; rfl
  ·obtain⟨n1,n2⟩:=nq q (List.mem_of_getElem? hq)
   rw[a1c n2,a1c n1]
   exact s37 _ _ (rw3.2 j q e hq he)
  ·rw[a1c np7b,a1c np7a]
   exact g7.at_
  ·rcases List.mem_append.mp hq with z | z
   ·exact nq q z
   ·rw[List.mem_singleton.mp z]; exact⟨np7a,np7b⟩
 ·rintro σ H3 ⟨s3,⟨qs,es,le,dr,ha,hb,rw3,nq⟩,v3,v4,v5,rfl⟩
  exact⟨sz rfl,fun p4 H4 g4=>k p4 pa pb qs es H4 (s3.trans g4.sm) g4.at_ (g4.sm _ _ ha) (g4.sm _ _ hb) (rw3.mono g4.sm) (g8j dr (by omega))⟩
theorem b0w:PyData.strOk "lead" = true:=by decide +kernel
theorem a8f:PyData.strOk "high" = true:=by decide +kernel
theorem b5e:PyData.strOk "low" = true:=by decide +kernel
theorem a5i:PyData.strOk "shift" = true:=by decide +kernel
theorem a7k:PyData.strOk "table" = true:=by decide +kernel
theorem c7h:PyData.strOk "bare" = true:=by decide +kernel
theorem or2{p q:Prop}[Decidable p][Decidable q]{A B:Prop}(h1:p\/q->A)(h2 : ¬ p->¬ q->B):if decide p=true then (if true=true then A else B) else (if decide q=true then A else B):=by
 by_cases c:p
 ·rw[if_pos (decide_eq_true c),if_pos rfl]; exact h1 (.inl c)
 ·rw[if_neg (fun z=>c (of_decide_eq_true z))]
  by_cases c':q
  ·rw[if_pos (decide_eq_true c')]; exact h1 (.inr c')
  ·rw[if_neg (fun z=>c' (of_decide_eq_true z))]; exact h2 c c'
inductive Md where
 | ld
 | pr (h:Bool)
 | sh (ns ms:List Int)
 | tb (es:List (Int × List Int))
 | br
def wrd:Md->Str
 | .ld => "lead"
 | .pr h=>d0i h
 | .sh _ _ => "shift"
 | .tb _ => "table"
 | .br => "bare"
def g9c(H:Hp)(a b:Addr):Md->Prop
 | .sh ns ms=>H a=some (.lst (ns.map V.int))/\H b=some (.lst (ms.map V.int))/\Okp ns/\Okp ms
 | .tb es=>H a=some (.lst ((es.map fun e=>e.1).map V.int))/\(∃ qs,H b=some (.lst (qs.map V.ref))/\RwH H qs es)/\Es es
 | _=>H a=some (.lst [])/\H b=some (.lst [])
theorem g9c.mono{H H':Hp}{a b:Addr}{M:Md}(h:g9c H a b M)(s:a1l H H'):g9c H' a b M:=by
 cases M with
 | sh ns ms=>exact⟨s _ _ h.1,s _ _ h.2.1,h.2.2⟩
 | tb es =>
  obtain⟨h1,⟨qs,h2,h3⟩,h4⟩:=h
  exact⟨s _ _ h1,⟨qs,s _ _ h2,h3.mono s⟩,h4⟩
 | ld=>exact⟨s _ _ h.1,s _ _ h.2⟩
 | pr b=>exact⟨s _ _ h.1,s _ _ h.2⟩
 | br=>exact⟨s _ _ h.1,s _ _ h.2⟩
def Mod(H:Hp)(p:Addr)(M:Md):Prop:=∃ a b,H p=some (.tup [.str (wrd M),.ref a,.ref b])/\g9c H a b M
theorem Mod.mono{H H':Hp}{p:Addr}{M:Md}(h:Mod H p M)(s:a1l H H'):Mod H' p M:=by
 obtain⟨a,b,h1,h2⟩:=h
 exact⟨a,b,s _ _ h1,h2.mono s⟩
def h4i:Sp:=fun vs H Q _=>∃ c:Int,vs=[.int c]/\∀ p M H',a1l H H'->Mod H' p M->Q (.ref p) H'
theorem f1q (T:Txt w K mg t):Has P w K mg base "_law_model" 3 t.d2x t.d1i ["_law_cell"] h4i:=by
 refine⟨T.f2f,T.e0x.kp,T.f4h,T.e0x.okQ b4j (fun vs H Q E h=>by obtain⟨c,rfl,_⟩:=h; rfl) fun cdv A outer s H vs Q E hr h=>?_⟩
 obtain⟨c,rfl,k⟩:=h
 have hu:=hr.units
 refine⟨_,(a0b (a0r (i:=1) b4j.nd rfl (by first | exact Or.inl rfl | exact Or.inr rfl) (a2a (d1a T) hr (a0c (a2m (a0h 0)) (a0c a0g a0a))))
  (a0b (a0w (a2w (a7d (a0o (a4q (K:=K) rfl hu) (a1p (a0h 0)) a0g (a1e _)) (a4w (a0o (a4q (K:=K) rfl hu) (a1p (a0h 0)) a0g (a1e _))))) (a0b (b8q (a2a (f1r T) hr (a0c (a0h 1) a0a)) (a5g (K:=K) rfl rfl (a1m (a0x (i:=2) b4j.nd rfl (by first | exact Or.inl rfl | exact Or.inr rfl)) (a1m (a0x (i:=3) b4j.nd rfl (by first | exact Or.inl rfl | exact Or.inr rfl)) a5f))))
  (a0e (a0i (a1u (a0c a2d (a0c (a0h 2) (a0c (a0h 3) a0a))))))) a0n)
  (a0b (a0w (a2w (a7d (a0o (a4q (K:=K) rfl hu) (a1p (a0h 0)) a0g (a1e _)) (a4w (a0o (a4q (K:=K) rfl hu) (a1p (a0h 0)) a0g (a1e _))))) (a0b (b8q (a2a (f1o T) hr (a0c (a0h 1) a0a)) (a5g (K:=K) rfl rfl (a1m (a0x (i:=4) b4j.nd rfl (by first | exact Or.inl rfl | exact Or.inr rfl)) (a1m (a0x (i:=5) b4j.nd rfl (by first | exact Or.inl rfl | exact Or.inr rfl)) a5f))))
  (a0e (a0i (a1u (a0c a2d (a0c (a0h 4) (a0c (a0h 5) a0a))))))) a0n)
  (a0b (a0w (a2w (a9x (a0o (a4q (K:=K) rfl hu) (a1p (a0h 0)) a0g (a1e _)) (a8d (a0o (a4q (K:=K) rfl hu) (a1p (a0h 1)) a0g (a1e _))))) (a0e (a0i (a1u (a0c a2d (a0c (a0y a0a) (a0c (a0y a0a) a0a)))))) a0n)
  (a0e (a0i (a1u (a0c (a1b (a1y (K:=K) rfl) (a0y (b8b rfl)) (a1p (a1p (a0h 0))) (fun _ _=>rfl)) (a0c (a0y a0a) (a0c (a0y a0a) a0a)))))))))),?_⟩
 refine⟨_,_,rfl,by decide,by decide,fun n n0 n1=>?_⟩
 refine or2 (p:=c%8=3) (q:=c%8=4) (fun _=>?_) (fun _ _=>?_)
 ·refine⟨n,rfl,fun p q r ns ms H1 s1 hp hq hr_ okn okm=>?_⟩
  refine⟨p,_,rfl,.of hp,rfl,_,_,rfl,_,_,rfl,rfl,?_⟩
  exact⟨sz rfl,fun p2 H2 g2=>k p2 (.sh ns ms) H2 (s1.trans g2.sm) ⟨q,r,g2.at_,g2.sm _ _ hq,g2.sm _ _ hr_,okn,okm⟩⟩
 refine or2 (p:=c%8=5) (q:=c%8=6) (fun _=>?_) (fun _ _=>?_)
 ·refine⟨n,rfl,n0,fun p q r qs es H1 s1 hp hq hr_ rw1 ok=>?_⟩
  refine⟨p,_,rfl,.of hp,rfl,_,_,rfl,_,_,rfl,rfl,?_⟩
  exact⟨sz rfl,fun p2 H2 g2=>k p2 (.tb es) H2 (s1.trans g2.sm) ⟨q,r,g2.at_,g2.sm _ _ hq,⟨qs,g2.sm _ _ hr_,rw1.mono g2.sm⟩,ok⟩⟩
 have last : ∀ H0,a1l H H0->∀ M:Md,(M=.ld\/(∃ h,M=.pr h)\/M=.br)->∀ pa H1 pb H2 p3 H3,Gro H0 pa (.lst []) H1->Gro H1 pb (.lst []) H2->Gro H2 p3 (.tup [.str (wrd M),.ref pa,.ref pb]) H3->Q (.ref p3) H3:=by
  intro H0 s0 M hM pa H1 pb H2 p3 H3 g1 g2 g3
  refine k p3 M H3 (s0.trans (g1.sm.trans (g2.sm.trans g3.sm))) ⟨pa,pb,g3.at_,?_⟩
  rcases hM with rfl | ⟨h,rfl⟩ | rfl <;> exact⟨g3.sm _ _ (g2.sm _ _ g1.at_),g3.sm _ _ g2.at_⟩
 have c2u : ∀ i:Int,0<=i->i < 3->∃ M:Md,(M=.ld\/(∃ h,M=.pr h)\/M=.br)/\atI [V.str "lead",.str "high",.str "low"] i=some (.str (wrd M)):=by
  intro i i0 i3
  rcases (show i=0\/i=1\/i=2 by omega) with rfl | rfl | rfl
  ·exact⟨.ld,.inl rfl,rfl⟩
  ·exact⟨.pr true,.inr (.inl ⟨_,rfl⟩),rfl⟩
  ·exact⟨.pr false,.inr (.inl ⟨_,rfl⟩),rfl⟩
 have fin : ∀ {R:VK},(∀ p H',(∃ M:Md,(M=.ld\/(∃ h,M=.pr h)\/M=.br)/\∃ pa H1 pb H2 H0,a1l H H0/\Gro H0 pa (.lst []) H1/\Gro H1 pb (.lst []) H2/\Gro H2 p (.tup [.str (wrd M),.ref pa,.ref pb]) H')->Q (.ref p) H'):=fun {R} p H' h=>by
  obtain⟨M,hM,pa,H1,pb,H2,H0,s0,g1,g2,g3⟩:=h
  exact last H0 s0 M hM pa H1 pb H2 p H' g1 g2 g3
 have tail : ∀ (hx:True),h0q (e6o (tOp (gIx K) (g7c (e2c [V.str "lead",V.str "high",V.str "low"])) (mMd 3 (mMd 8 (mV 0)))) (e6o (g7c g0q) (e6o (g7c g0q) g0q))) [some (.int c),some (.int n),none,none,none,none] H Q:=by
  intro _
  refine⟨sz rfl,fun p0 H0 g0=>?_⟩
  obtain⟨M,hM,eM⟩:=c2u (c%8%3) (by omega) (by omega)
  refine⟨_,_,.inl g0.lst,eM,?_⟩
  refine⟨sz rfl,fun pa H1 g1=>?_⟩
  refine⟨sz rfl,fun pb H2 g2=>?_⟩
  exact⟨sz rfl,fun p3 H3 g3=>last H0 g0.sm M hM pa H1 pb H2 p3 H3 g1 g2 g3⟩
 refine a1v (fun _=>?_) (fun _=>?_)
 ·refine a1v (fun _=>?_) (fun _=>?_)
  ·refine⟨sz rfl,fun pa H1 g1=>?_⟩
   refine⟨sz rfl,fun pb H2 g2=>?_⟩
   exact⟨sz rfl,fun p3 H3 g3=>last H (a1l.refl _) .br (.inr (.inr rfl)) pa H1 pb H2 p3 H3 g1 g2 g3⟩
  ·exact tail trivial
 ·exact tail trivial
def Mt:Md->Kt->Prop
 | .ld,D=>D=.ld
 | .pr h,D=>D=.pr h
 | .sh ns ms,D=>∃ f,D=.sh f ns ms
 | .tb es,D=>∃ f,D=.tb f es
 | .br,D=>D=.br
def h3w(t:Adr):Sp:=fun vs H Q _=>∃ (p:Addr) (M:Md),vs=[.ref p]/\Mod H p M/\∀ o D H',a1l H H'->Mt M D->TN t H' o D->Q (.ref o) H'
theorem e7j (T:Txt w K mg t):Has P w K mg base "_law_tongue" 8 t.c8b t.c7m ["_law_model_here"] (h3w t):=by
 refine⟨T.e7p,T.d5k.kp,T.e8d,T.d5k.okQ b8m (fun vs H Q E h=>by obtain⟨p,M,rfl,_⟩:=h; rfl) fun cdv A outer s H vs Q E hr h=>?_⟩
 obtain⟨p,M,rfl,⟨a,b,hp,ct⟩,k⟩:=h
 have hu:=hr.units
 refine⟨_,(a0b (b8q (a0h 0) (a5g (K:=K) rfl rfl (a1m (a0x (i:=1) b8m.nd rfl (by first | exact Or.inl rfl | exact Or.inr rfl)) (a1m (a0x (i:=2) b8m.nd rfl (by first | exact Or.inl rfl | exact Or.inr rfl)) (a1m (a0x (i:=3) b8m.nd rfl (by first | exact Or.inl rfl | exact Or.inr rfl)) a5f)))))
  (a0b (a0w (a0o (a4q (K:=K) rfl hu) (a0h 1) a2d (a1e _)) (a0e (a0i (f6g T.d4g T.d6v))) a0n)
  (a0b (a0w (a2w (a7d (a0o (a4q (K:=K) rfl hu) (a0h 1) a2d (a1e _)) (a4w (a0o (a4q (K:=K) rfl hu) (a0h 1) a2d (a1e _))))) (a0e (a0i (b6i (d0x T) hr (a0c (a0h 1) a0a)))) a0n)
  (a0b (a0w (a0o (a4q (K:=K) rfl hu) (a0h 1) a2d (a1e _)) (a0e (a0i (b6i (c9j T) hr (a0c (a9o (b1t (K:=K) rfl) T.n_list PyProof.Rows.boot_list (a0c (a0h 2) a0a)) (a0c (a9o (b1t (K:=K) rfl) T.n_list PyProof.Rows.boot_list (a0c (a0h 3) a0a)) a0a))))) a0n)
  (a0b (a0w (a0o (a4q (K:=K) rfl hu) (a0h 1) a2d (a1e _)) (a0e (a0i (b6i (c9i T) hr (a0c (a6b rfl (a2b.of (fns:=(a0f b1i).names) (N:=["_law_model_here", "_law_word", "_law_first", "_law_second"]) (Nc:=["_law_sign", "_law_row_here"]) (nv:=2) (caps:=[]) rfl rfl (by decide +kernel)) (e9z (K:=K) rfl rfl T.n_zip (a0c (a0h 2) (a0c (a0h 3) a0a))) (fun _ _ _ _=>(a5g (K:=K) rfl (n:=2) rfl (a1m (a0x (i:=0) (show List.Nodup (["_law_sign", "_law_row_here"]:List Str) by decide +kernel) rfl (Or.inl rfl) (Or.inr rfl)) (a1m (a0x (i:=1) (show List.Nodup (["_law_sign", "_law_row_here"]:List Str) by decide +kernel) rfl (Or.inl rfl) (Or.inr rfl)) a5f)))) (fun _ _ _ _=>a4p) (fun _ _ _ _=>(a1u (a0c (a0h 0) (a0c (a9o (b1t (K:=K) rfl) T.n_list PyProof.Rows.boot_list (a0c (a0h 1) a0a)) a0a))))) a0a)))) a0n)
  (a0e (a0i (f6g T.e7d T.f2b)))))))),?_⟩
 refine⟨p,_,rfl,.of hp,rfl,_,_,rfl,_,_,rfl,_,_,rfl,rfl,?_⟩
 cases M with
 | ld =>
  refine⟨_,_,a1j.str _,a1j.str _,a0j b0w,a0j b0w,?_⟩
  refine a1v (fun _=>?_) (fun z=>absurd (show PyData.eqv (.str "lead") (.str "lead")=true by decide +kernel) z)
  refine fun x dx hx hdx hne=>?_
  exact k x .ld _ (a5x hx hdx) rfl ⟨dx,a0v⟩
 | pr h =>
  cases h with
  | true =>
   refine⟨_,_,a1j.str _,a1j.str _,a0j a8f,a0j b0w,?_⟩
   refine a1v (fun z=>absurd (show PyData.eqv (.str "high") (.str "lead")=true from z) (by decide +kernel)) (fun _=>?_)
   refine⟨_,_,a1j.str _,a1j.str _,a0j a8f,a0j a8f,?_⟩
   refine a1v (fun _=>?_) (fun z=>absurd (show PyData.eqv (.str "high") (.str "high")=true by decide +kernel) z)
   refine f7o ?_
   refine fun x dx hx hdx hne=>?_
   refine⟨x,dx,true,rfl,a0v,rfl,?_⟩
   refine k x (.pr true) _ (fun c u e=>?_) rfl ⟨dx,a0v⟩
   rw[a1c (a0l e hx)]
   exact a5x hx hdx c u e
  | false =>
   refine⟨_,_,a1j.str _,a1j.str _,a0j b5e,a0j b0w,?_⟩
   refine a1v (fun z=>absurd (show PyData.eqv (.str "low") (.str "lead")=true from z) (by decide +kernel)) (fun _=>?_)
   refine⟨_,_,a1j.str _,a1j.str _,a0j b5e,a0j a8f,?_⟩
   refine a1v (fun z=>absurd (show PyData.eqv (.str "low") (.str "high")=true from z) (by decide +kernel)) (fun _=>?_)
   refine⟨_,_,a1j.str _,a1j.str _,a0j b5e,a0j b5e,?_⟩
   refine a1v (fun _=>?_) (fun z=>absurd (show PyData.eqv (.str "low") (.str "low")=true by decide +kernel) z)
   refine fun x dx hx hdx hne=>?_
   refine⟨x,dx,false,rfl,a0v,rfl,?_⟩
   refine k x (.pr false) _ (fun c u e=>?_) rfl ⟨dx,a0v⟩
   rw[a1c (a0l e hx)]
   exact a5x hx hdx c u e
 | sh ns ms =>
  obtain⟨ha,hb,okn,okm⟩:=ct
  refine⟨_,_,a1j.str _,a1j.str _,a0j a5i,a0j b0w,?_⟩
  refine a1v (fun z=>absurd (show PyData.eqv (.str "shift") (.str "lead")=true from z) (by decide +kernel)) (fun _=>?_)
  refine⟨_,_,a1j.str _,a1j.str _,a0j a5i,a0j a8f,?_⟩
  refine a1v (fun z=>absurd (show PyData.eqv (.str "shift") (.str "high")=true from z) (by decide +kernel)) (fun _=>?_)
  refine⟨_,_,a1j.str _,a1j.str _,a0j a5i,a0j b5e,?_⟩
  refine a1v (fun z=>absurd (show PyData.eqv (.str "shift") (.str "low")=true from z) (by decide +kernel)) (fun _=>?_)
  refine⟨_,_,a1j.str _,a1j.str _,a0j a5i,a0j a5i,?_⟩
  refine a1v (fun _=>?_) (fun z=>absurd (show PyData.eqv (.str "shift") (.str "shift")=true by decide +kernel) z)
  refine⟨_,.inl (.of ha),fun q H1 g1=>?_⟩
  refine⟨_,.inl (.of (g1.sm _ _ hb)),fun r H2 g2=>?_⟩
  refine fun x dx hx hdx hne=>?_
  have s:=a5x (C:=t.a1a) hx hdx
  have q2:=g2.sm _ _ g1.at_
  refine⟨x,dx,q,r,ns,ms,rfl,a0v,.of (s _ _ q2),.of (s _ _ g2.at_),okn,okm,a0l q2 hx,a0l g2.at_ hx,fun fp H8 k8 tg8 fr=>⟨rfl,?_⟩⟩
  refine k x (.sh fp ns ms) H8 (fun c u e=>k8 _ _ (a0l (g2.sm _ _ (g1.sm _ _ e)) hx) (s _ _ (g2.sm _ _ (g1.sm _ _ e)))) ⟨fp,rfl⟩ tg8
 | tb es =>
  obtain⟨ha,⟨qs,hb,rw1⟩,ok⟩:=ct
  refine⟨_,_,a1j.str _,a1j.str _,a0j a7k,a0j b0w,?_⟩
  refine a1v (fun z=>absurd (show PyData.eqv (.str "table") (.str "lead")=true from z) (by decide +kernel)) (fun _=>?_)
  refine⟨_,_,a1j.str _,a1j.str _,a0j a7k,a0j a8f,?_⟩
  refine a1v (fun z=>absurd (show PyData.eqv (.str "table") (.str "high")=true from z) (by decide +kernel)) (fun _=>?_)
  refine⟨_,_,a1j.str _,a1j.str _,a0j a7k,a0j b5e,?_⟩
  refine a1v (fun z=>absurd (show PyData.eqv (.str "table") (.str "low")=true from z) (by decide +kernel)) (fun _=>?_)
  refine⟨_,_,a1j.str _,a1j.str _,a0j a7k,a0j a5i,?_⟩
  refine a1v (fun z=>absurd (show PyData.eqv (.str "table") (.str "shift")=true from z) (by decide +kernel)) (fun _=>?_)
  refine⟨_,_,a1j.str _,a1j.str _,a0j a7k,a0j a7k,?_⟩
  refine a1v (fun _=>?_) (fun z=>absurd (show PyData.eqv (.str "table") (.str "table")=true by decide +kernel) z)
  have l64:=ok.l
  have lq:=rw1.1
  refine⟨a,b,_,_,rfl,.of ha,.of hb,?_⟩
  refine f8r (K:=K) (a:=a) (b:=b) (xs:=(es.map fun e=>e.1).map V.int) (zs:=qs.map V.ref) (cs:=[]) (by simp[lq]) (fun i ys H'=>a1l H H'/\∃ ps:List Addr,ys=ps.map V.ref/\ps.length=i/\EnH H' ps (es.take i)) ⟨a1l.refl _,[],rfl,rfl,c9e.nil⟩ (fun i ys H' hi z=>⟨z.1.seq (.of ha),z.1.seq (.of hb),by obtain⟨_,ps,rfl,hl,_⟩:=z; rw[List.length_map]; omega⟩) (szl (by rw[List.length_map,List.length_map]; omega)) (fun i x z ys H2 H3 N hx hz pv s3 hN=>?_) fun ys H2 pf H3 pv g3=>?_
  ·obtain⟨n,hn,rfl⟩:=a6p hx
   obtain⟨q,hq,rfl⟩:=d6d hz
   obtain⟨s2,ps,rfl,hl,en⟩:=pv
   obtain⟨e,he,hrow⟩:=rw1.right hq
   rw[List.getElem?_map,he]at hn
   cases hn
   simp only [c9y,if_true]
   have s02:=s2.trans s3
   refine⟨_,.inl (.of (s02 _ _ hrow)),fun q2 H4 g4=>?_⟩
   refine⟨sz rfl,fun p5 H5 g5=>?_⟩
   refine hN _ _ ⟨s02.trans (g4.sm.trans g5.sm),ps++[p5],by rw[List.map_append]; rfl,by rw[List.length_append,hl]; rfl,?_⟩
   rw[a5w he]
   refine c9e.app (en.mono (s3.trans (g4.sm.trans g5.sm))) (c9e.cons ⟨⟨q2,g5.at_,g5.sm _ _ g4.at_⟩,?_⟩ c9e.nil)
   have:=ok.sg e (List.mem_of_getElem? he)
   exact⟨this.2.1,this.2.2.1⟩
  obtain⟨s2,ps,rfl,hl,en⟩:=pv
  rw[List.length_map,List.length_map,List.take_length]at en
  refine fun x dx hx hdx hne=>?_
  have s:=a5x (C:=t.a1d) hx hdx
  refine⟨x,dx,pf,ps,es,rfl,a0v,s _ _ g3.at_,en.mono (g3.sm.trans s),ok,fun f H8 k8 tt8=>⟨rfl,?_⟩⟩
  exact k x (.tb f es) H8 (fun c u e=>k8 _ _ (a0l (g3.sm _ _ (s2 _ _ e)) hx) (s _ _ (g3.sm _ _ (s2 _ _ e)))) ⟨f,rfl⟩ ⟨tt8,ok⟩
 | br =>
  refine⟨_,_,a1j.str _,a1j.str _,a0j c7h,a0j b0w,?_⟩
  refine a1v (fun z=>absurd (show PyData.eqv (.str "bare") (.str "lead")=true from z) (by decide +kernel)) (fun _=>?_)
  refine⟨_,_,a1j.str _,a1j.str _,a0j c7h,a0j a8f,?_⟩
  refine a1v (fun z=>absurd (show PyData.eqv (.str "bare") (.str "high")=true from z) (by decide +kernel)) (fun _=>?_)
  refine⟨_,_,a1j.str _,a1j.str _,a0j c7h,a0j b5e,?_⟩
  refine a1v (fun z=>absurd (show PyData.eqv (.str "bare") (.str "low")=true from z) (by decide +kernel)) (fun _=>?_)
  refine⟨_,_,a1j.str _,a1j.str _,a0j c7h,a0j a5i,?_⟩
  refine a1v (fun z=>absurd (show PyData.eqv (.str "bare") (.str "shift")=true from z) (by decide +kernel)) (fun _=>?_)
  refine⟨_,_,a1j.str _,a1j.str _,a0j c7h,a0j a7k,?_⟩
  refine a1v (fun z=>absurd (show PyData.eqv (.str "bare") (.str "table")=true from z) (by decide +kernel)) (fun _=>?_)
  refine fun x dx hx hdx hne=>?_
  exact k x .br _ (a5x hx hdx) rfl ⟨dx,a0v⟩
def h4o:Sp:=fun vs H Q _=>∃ n,vs=[.int n]/\∀ p H',Gro H p (.lst ((row n).map V.int)) H'->Q (.ref p) H'
theorem d9r (T:Txt w K mg t):Has P w K mg base "_law_lead_row" 1 t.c1m t.c0w ["_law_sign"] h4o:=by
 refine⟨T.d9x,T.c9a.kp,T.e0o,T.c9a.okQ d5y (fun vs H Q E h=>by obtain⟨n,rfl,_⟩:=h; rfl) fun cdv A outer s H vs Q E hr h=>?_⟩
 obtain⟨n,rfl,k⟩:=h
 refine⟨_,(a0b (a0w (a0o d8n (a0h 0) a0g (a1e _)) (a0e (a0i (a0y (a0c (a0h 0) a0a)))) a0n)
  (a0b (a0w (a0o d8n (a0h 0) a0g (a1e _)) (a0e (a0i (a0y (a0c (a0q (a1r (K:=K) rfl) a0g (a2m (a0h 0))) (a0c (a0q (a1r (K:=K) rfl) a0g (a1p (a0h 0))) a0a))))) a0n)
  (a0b (a0w (a0o d8n (a0h 0) a0g (a1e _)) (a0e (a0i (a0y (a0c (a0q (a1r (K:=K) rfl) a0g (a2m (a0h 0))) (a0c (a0q (a1r (K:=K) rfl) a0g (a1p (a2m (a0h 0)))) (a0c (a0q (a1r (K:=K) rfl) a0g (a1p (a0h 0))) a0a)))))) a0n)
  (a0e (a0i (a0y (a0c (a0q (a1r (K:=K) rfl) a0g (a2m (a0h 0))) (a0c (a0q (a1r (K:=K) rfl) a0g (a1p (a2m (a0h 0)))) (a0c (a0q (a1r (K:=K) rfl) a0g (a1p (a2m (a0h 0)))) (a0c (a0q (a1r (K:=K) rfl) a0g (a1p (a0h 0))) a0a)))))))))),?_⟩
 unfold row at k
 refine a1v (fun c1=>?_) (fun c1=>?_)
 ·rw[if_pos (of_decide_eq_true c1)]at k
  exact⟨sz rfl,k⟩
 rw[if_neg (fun z=>c1 (decide_eq_true z))]at k
 refine a1v (fun c2=>?_) (fun c2=>?_)
 ·rw[if_pos (of_decide_eq_true c2)]at k
  exact⟨sz rfl,k⟩
 rw[if_neg (fun z=>c2 (decide_eq_true z))]at k
 refine a1v (fun c3=>?_) (fun c3=>?_)
 ·rw[if_pos (of_decide_eq_true c3)]at k
  exact⟨sz rfl,k⟩
 rw[if_neg (fun z=>c3 (decide_eq_true z))]at k
 exact⟨sz rfl,k⟩
def h4e:Sp:=fun vs H Q _=>∃ (n:Int) (h:Bool),vs=[.int n,.str (d0i h)]/\∀ p H',a1l H H'->H p=none->H' p=some (.lst ((e2p h n).map V.int))->Q (.ref p) H'
theorem d9q (T:Txt w K mg t):Has P w K mg base "_law_pair_row" 1 t.c1l t.c0v ["_law_sign", "_law_word"] h4e:=by
 refine⟨T.d9w,T.c8z.kp,T.e0n,T.c8z.okQ a6j (fun vs H Q E h=>by obtain⟨n,h,rfl,_⟩:=h; rfl) fun cdv A outer s H vs Q E hr h=>?_⟩
 obtain⟨n,h,rfl,k⟩:=h
 have hu:=hr.units
 refine⟨_,(a0b (a0r (i:=2) a6j.nd rfl (by first | exact Or.inl rfl | exact Or.inr rfl) (a0y (a0c (a0h 0) a0a)))
  (a0b (a0w (a0o f5f (a0h 0) a0g (a1e _)) (a0e (a0r (i:=2) a6j.nd rfl (by first | exact Or.inl rfl | exact Or.inr rfl) (a0y (a0c (a0q (a1r (K:=K) rfl) a0g (a2m (a0q b2z (a0h 0) a0g))) (a0c (a0q (a1r (K:=K) rfl) a0g (a1p (a0h 0))) a0a))))) a0n)
  (a0b (a0r (i:=3) a6j.nd rfl (by first | exact Or.inl rfl | exact Or.inr rfl) (a0y a0a))
  (a0b (a4x PassesOwn.never rfl (a2q (K:=K) rfl (a0h 2)) (a0x (i:=4) a6j.nd rfl (by first | exact Or.inl rfl | exact Or.inr rfl)) (a0e (a0w (a0o (a4q (K:=K) rfl hu) (a0h 1) a2d (a1e _)) (a0e (a0r (i:=3) a6j.nd rfl (by first | exact Or.inl rfl | exact Or.inr rfl) (a0q (a1r (K:=K) rfl) (a0h 3) (a0y (a0c (a2m (a0h 4)) (a0c (a1p (a0h 4)) a0a)))))) (a0e (a0r (i:=3) a6j.nd rfl (by first | exact Or.inl rfl | exact Or.inr rfl) (a0q (a1r (K:=K) rfl) (a0h 3) (a0y (a0c (a1p (a0h 4)) (a0c (a2m (a0h 4)) a0a)))))))))
  (a0e (a0i (a0h 3))))))),?_⟩
 refine⟨sz rfl,fun p1 H1 g1=>?_⟩
 dsimp only [b5k]
 refine b0u (fun σ' H'=>a1l H H'/\∃ pu,H' pu=some (.lst ((a3d n).map V.int))/\σ'=[some (.int n),some (.str (d0i h)),some (.ref pu),none,none]) (fun nx hn=>?_) ?_
 ·refine a1v (fun c=>?_) (fun c=>?_)
  ·have c:n > 65535:=of_decide_eq_true c
   refine⟨sz rfl,fun p2 H2 g2=>?_⟩
   refine hn _ _ ⟨g1.sm.trans g2.sm,p2,?_,rfl⟩
   have e:a3d n=[55296+(n - 65536) / 1024,56320+n%1024]:=by
    unfold a3d
    rw[if_neg (by omega)]
    congr 2
    omega
   rw[e]
   exact g2.at_
  ·have c : ¬ n > 65535:=fun z=>c (decide_eq_true z)
   refine hn _ _ ⟨g1.sm,p1,?_,rfl⟩
   have e:a3d n=[n]:=by unfold a3d; rw[if_pos (by omega)]
   rw[e]
   exact g1.at_
 rintro σ' H2 ⟨s2,pu,hu2,rfl⟩
 have lu:=c9x n
 refine⟨sz rfl,fun p3 H3 g3=>?_⟩
 refine⟨pu,rfl,⟨_,.of (g3.sm _ _ hu2)⟩,b8t (K:=K) (a:=pu) (xs:=(a3d n).map V.int) (fun i σ H'=>a1l H3 H'/\∃ (pr:Addr) (v4:Option V),H pr=none/\H' pr=some (.lst ((((a3d n).take i).flatMap (ub h)).map V.int))/\σ=[some (.int n),some (.str (d0i h)),some (.ref pu),some (.ref pr),v4]) ⟨a1l.refl _,p3,_,s2.free g3.nw,g3.at_,rfl⟩ (fun i σ H' _ z=>z.1.seq (.of (g3.sm _ _ hu2))) ?_ ?_⟩
 ·rintro i x σ H4 hx ⟨s4,pr,v4,_,h4,rfl⟩
  obtain⟨m,hm,rfl⟩:=a6p hx
  have s04:=s2.trans (g3.sm.trans s4)
  have hi:i < (a3d n).length:=(List.getElem?_eq_some_iff.mp hm).1
  have fl:=c5s h ((a3d n).take i)
  have lt:((a3d n).take i).length<=2:=by rw[List.length_take]; omega
  have e:((a3d n).take (i+1)).flatMap (ub h)=((a3d n).take i).flatMap (ub h)++ub h m:=by rw[a5w hm,List.flatMap_append]; simp
  cases h with
  | true =>
   refine⟨_,_,a1j.str _,a1j.str _,a0j a8f,a0j a8f,?_⟩
   refine a1v (fun _=>?_) (fun z=>absurd (show PyData.eqv (.str "high") (.str "high")=true by decide +kernel) z)
   refine⟨sz rfl,fun p5 H5 g5=>?_⟩
   refine⟨_,_,.of (g5.sm _ _ h4),g5.lst,szl (by rw[List.length_map]; show _+2<=_; omega),fun p6 H6 g6=>?_⟩
   refine⟨s4.trans (g5.sm.trans g6.sm),p6,_,(s04.trans g5.sm).free g6.nw,?_,rfl⟩
   rw[e,List.map_append]
   exact g6.at_
  | false =>
   refine⟨_,_,a1j.str _,a1j.str _,a0j b5e,a0j a8f,?_⟩
   refine a1v (fun z=>absurd (show PyData.eqv (.str "low") (.str "high")=true from z) (by decide +kernel)) (fun _=>?_)
   refine⟨sz rfl,fun p5 H5 g5=>?_⟩
   refine⟨_,_,.of (g5.sm _ _ h4),g5.lst,szl (by rw[List.length_map]; show _+2<=_; omega),fun p6 H6 g6=>?_⟩
   refine⟨s4.trans (g5.sm.trans g6.sm),p6,_,(s04.trans g5.sm).free g6.nw,?_,rfl⟩
   rw[e,List.map_append]
   exact g6.at_
 ·rintro σ H4 ⟨s4,pr,v4,n4,h4,rfl⟩
  rw[List.length_map,List.take_length]at h4
  exact k pr H4 (s2.trans (g3.sm.trans s4)) n4 h4
theorem c5p(n:Int)(ns:List Int):inV (.int n) (ns.map V.int)=decide (n∈ns):=g2s n ns
theorem b5l(ns:List Int):(ns.map V.int).all c5t=true:=by
 rw[List.all_eq_true]
 intro x hx
 obtain⟨n,_,rfl⟩:=List.mem_map.mp hx
 rfl
def h3y(t:Adr):Sp:=fun vs H Q _=>∃ (p:Addr) (M:Md) (D:Kt) (n g:Int),vs=[.ref p,.int n,.int g]/\Mod H p M/\Mt M D/\InT D n/\PgK D g/\∀ pr q H',a1l H H'->H q=none->H' q=some (.lst ((e2d D g n).1.map V.int))->H' pr=some (.tup [.ref q,.int (e2d D g n).2])->Q (.ref pr) H'
theorem f1p (T:Txt w K mg t):Has P w K mg base "_law_spell" 2 t.d2w t.d1h ["_law_model_here", "_law_sign", "_law_page"] (h3y t):=by
 refine⟨T.f2e,T.e0w.kp,T.f4g,T.e0w.okQ c1v (fun vs H Q E h=>by obtain⟨p,M,D,n,g,rfl,_⟩:=h; rfl) fun cdv A outer s H vs Q E hr h=>?_⟩
 obtain⟨p,M,D,n,g,rfl,⟨a,b,hp,ct⟩,mt,hin,pg,k⟩:=h
 have hu:=hr.units
 refine⟨_,(a0b (b8q (a0h 0) (a5g (K:=K) rfl rfl (a1m (a0x (i:=3) c1v.nd rfl (by first | exact Or.inl rfl | exact Or.inr rfl)) (a1m (a0x (i:=4) c1v.nd rfl (by first | exact Or.inl rfl | exact Or.inr rfl)) (a1m (a0x (i:=5) c1v.nd rfl (by first | exact Or.inl rfl | exact Or.inr rfl)) a5f)))))
  (a0b (a0w (a0o (a4q (K:=K) rfl hu) (a0h 3) a2d (a1e _)) (a0e (a0i (a1u (a0c (a2a (d9r T) hr (a0c (a0h 1) a0a)) (a0c a0g a0a))))) a0n)
  (a0b (a0w (a2w (a7d (a0o (a4q (K:=K) rfl hu) (a0h 3) a2d (a1e _)) (a4w (a0o (a4q (K:=K) rfl hu) (a0h 3) a2d (a1e _))))) (a0e (a0i (a1u (a0c (a2a (d9q T) hr (a0c (a0h 1) (a0c (a0h 3) a0a))) (a0c a0g a0a))))) a0n)
  (a0b (a0w (a2w (a9x (a0o (a4q (K:=K) rfl hu) (a0h 3) a2d (a1e _)) (a8d (a0o (f8g (K:=K) rfl) (a0h 1) (a0h 4) (by with_unfolding_all rfl))))) (a0e (a0i (a1u (a0c (a9o (b1t (K:=K) rfl) T.n_list PyProof.Rows.boot_list (a0c (a1b (a1y (K:=K) rfl) (a0h 5) (a5t (K:=K) rfl PySem.F.plainAttrs_list PySem.F.slot_list_index PySem.F.type_list_index (d0o (K:=K) rfl) (a0h 4) (a0c (a0h 1) a0a)) (fun _ _=>rfl)) a0a)) (a0c a0g a0a))))) a0n)
  (a0b (a0w (a2w (a9x (a0o (a4q (K:=K) rfl hu) (a0h 3) a2d (a1e _)) (a8d (a0o (f8g (K:=K) rfl) (a0h 1) (a1b (a1y (K:=K) rfl) (a0h 0) (a0q (a1r (K:=K) rfl) a0g (a0h 2)) (fun _ _=>rfl)) (by with_unfolding_all rfl))))) (a0e (a0i (a1u (a0c (a0y (a0c (a5t (K:=K) rfl PySem.F.plainAttrs_list PySem.F.slot_list_index PySem.F.type_list_index (d0o (K:=K) rfl) (a1b (a1y (K:=K) rfl) (a0h 0) (a0q (a1r (K:=K) rfl) a0g (a0h 2)) (fun _ _=>rfl)) (a0c (a0h 1) a0a)) a0a)) (a0c (a0h 2) a0a))))) a0n)
  (a0b (a0w (a2w (a9x (a0o (a4q (K:=K) rfl hu) (a0h 3) a2d (a1e _)) (a8d (a0o (f8g (K:=K) rfl) (a0h 1) (a1b (a1y (K:=K) rfl) (a0h 0) (a0q b2z a0g (a0h 2)) (fun _ _=>rfl)) (by with_unfolding_all rfl))))) (a0e (a0i (a1u (a0c (a0y (a0c (a0q b2z a0g (a0h 2)) (a0c (a5t (K:=K) rfl PySem.F.plainAttrs_list PySem.F.slot_list_index PySem.F.type_list_index (d0o (K:=K) rfl) (a1b (a1y (K:=K) rfl) (a0h 0) (a0q b2z a0g (a0h 2)) (fun _ _=>rfl)) (a0c (a0h 1) a0a)) a0a))) (a0c (a0q b2z a0g (a0h 2)) a0a))))) a0n)
  (a0e (a0i a2e)))))))),?_⟩
 refine⟨p,_,rfl,.of hp,rfl,_,_,rfl,_,_,rfl,_,_,rfl,rfl,?_⟩
 cases M with
 | ld =>
  obtain rfl:D=.ld:=mt
  obtain rfl:g=0:=pg
  refine⟨_,_,a1j.str _,a1j.str _,a0j b0w,a0j b0w,?_⟩
  refine a1v (fun _=>?_) (fun z=>absurd (show PyData.eqv (.str "lead") (.str "lead")=true by decide +kernel) z)
  refine⟨n,rfl,fun q H1 g1=>?_⟩
  exact⟨sz rfl,fun p2 H2 g2=>k p2 q H2 (g1.sm.trans g2.sm) g1.nw (g2.sm _ _ g1.at_) g2.at_⟩
 | pr h =>
  obtain rfl:D=.pr h:=mt
  obtain rfl:g=0:=pg
  cases h with
  | true =>
   refine⟨_,_,a1j.str _,a1j.str _,a0j a8f,a0j b0w,?_⟩
   refine a1v (fun z=>absurd (show PyData.eqv (.str "high") (.str "lead")=true from z) (by decide +kernel)) (fun _=>?_)
   refine⟨_,_,a1j.str _,a1j.str _,a0j a8f,a0j a8f,?_⟩
   refine a1v (fun _=>?_) (fun z=>absurd (show PyData.eqv (.str "high") (.str "high")=true by decide +kernel) z)
   refine f7o ?_
   refine⟨n,true,rfl,fun q H1 s1 nq hq=>?_⟩
   exact⟨sz rfl,fun p2 H2 g2=>k p2 q H2 (s1.trans g2.sm) nq (g2.sm _ _ hq) g2.at_⟩
  | false =>
   refine⟨_,_,a1j.str _,a1j.str _,a0j b5e,a0j b0w,?_⟩
   refine a1v (fun z=>absurd (show PyData.eqv (.str "low") (.str "lead")=true from z) (by decide +kernel)) (fun _=>?_)
   refine⟨_,_,a1j.str _,a1j.str _,a0j b5e,a0j a8f,?_⟩
   refine a1v (fun z=>absurd (show PyData.eqv (.str "low") (.str "high")=true from z) (by decide +kernel)) (fun _=>?_)
   refine⟨_,_,a1j.str _,a1j.str _,a0j b5e,a0j b5e,?_⟩
   refine a1v (fun _=>?_) (fun z=>absurd (show PyData.eqv (.str "low") (.str "low")=true by decide +kernel) z)
   refine⟨n,false,rfl,fun q H1 s1 nq hq=>?_⟩
   exact⟨sz rfl,fun p2 H2 g2=>k p2 q H2 (s1.trans g2.sm) nq (g2.sm _ _ hq) g2.at_⟩
 | br =>
  obtain rfl:D=.br:=mt
  exact hin.elim
 | tb es =>
  obtain⟨f,rfl⟩:=mt
  obtain rfl:g=0:=pg
  obtain⟨ha,⟨qs,hb,rw1⟩,ok⟩:=ct
  refine⟨_,_,a1j.str _,a1j.str _,a0j a7k,a0j b0w,?_⟩
  refine a1v (fun z=>absurd (show PyData.eqv (.str "table") (.str "lead")=true from z) (by decide +kernel)) (fun _=>?_)
  refine⟨_,_,a1j.str _,a1j.str _,a0j a7k,a0j a8f,?_⟩
  refine a1v (fun z=>absurd (show PyData.eqv (.str "table") (.str "high")=true from z) (by decide +kernel)) (fun _=>?_)
  refine⟨_,_,a1j.str _,a1j.str _,a0j a7k,a0j b5e,?_⟩
  refine a1v (fun z=>absurd (show PyData.eqv (.str "table") (.str "low")=true from z) (by decide +kernel)) (fun _=>?_)
  refine⟨_,_,a1j.str _,a1j.str _,a0j a7k,a0j a7k,?_⟩
  refine a1v (fun _=>?_) (fun z=>absurd (show PyData.eqv (.str "table") (.str "table")=true by decide +kernel) z)
  obtain⟨e0,he0,en0,ef0⟩:=c7l hin
  have hm:n∈es.map fun e=>e.1:=List.mem_map.mpr ⟨e0,he0,en0⟩
  refine⟨_,.inl (.of ha),rfl,b5l _,?_⟩
  refine a1v (fun _=>?_) (fun z=>?_)
  ·obtain⟨j,hj,_⟩:=b8r hm
   obtain⟨e1,e2⟩:=c0o hj
   rw[List.getElem?_map]at e1
   obtain⟨ej,hej,enj⟩:=Option.map_eq_some_iff.mp e1
   obtain⟨q,hq,hrow⟩:=rw1.left hej
   have ee:ej=e0:=by
    rcases ok.two (List.mem_of_getElem? hej) he0 with z | z
    ·exact z
    ·unfold e8a at z
     rw[decide_eq_true (enj.trans en0.symm)]at z
     cases z
   refine⟨.inl ⟨rfl,_,.of ha⟩,?_⟩
   refine⟨_,_,_,j,rfl,rfl,ha,rfl,b5l _,⟨.int n,by rw[List.getElem?_map,List.getElem?_map,hej,<- enj]; rfl,by simp[eqV]⟩,fun j' z hj' hz=>?_,?_⟩
   ·obtain⟨m,hm,rfl⟩:=a6p hz
    have : ¬ m=n:=fun y=>e2 j' hj' (by rw[<- y]; exact hm)
    simp[eqV,this]
   refine⟨_,.ref q,.inl (.of hb),a1f (by rw[List.getElem?_map,hq]; rfl),?_⟩
   refine⟨_,.inl (.of hrow),fun q2 H1 g1=>?_⟩
   have es':e2d (.tb f es) 0 n=(e0.2,0):=by
    show (Option.map _ _).getD _=_
    rw[ef0]; rfl
   rw[ee]at g1
   exact⟨sz rfl,fun p2 H2 g2=>k p2 q2 H2 (g1.sm.trans g2.sm) g1.nw (by rw[es']; exact g2.sm _ _ g1.at_) (by rw[es']; exact g2.at_)⟩
  ·have z : ¬ inV (.int n) ((es.map fun e=>e.1).map V.int)=true:=z
   rw[c5p]at z
   exact absurd (decide_eq_true hm) z
 | sh ns ms =>
  obtain⟨f,rfl⟩:=mt
  obtain⟨ha,hb,okn,okm⟩:=ct
  have two:Two g:=pg
  refine⟨_,_,a1j.str _,a1j.str _,a0j a5i,a0j b0w,?_⟩
  refine a1v (fun z=>absurd (show PyData.eqv (.str "shift") (.str "lead")=true from z) (by decide +kernel)) (fun _=>?_)
  refine⟨_,_,a1j.str _,a1j.str _,a0j a5i,a0j a8f,?_⟩
  refine a1v (fun z=>absurd (show PyData.eqv (.str "shift") (.str "high")=true from z) (by decide +kernel)) (fun _=>?_)
  refine⟨_,_,a1j.str _,a1j.str _,a0j a5i,a0j b5e,?_⟩
  refine a1v (fun z=>absurd (show PyData.eqv (.str "shift") (.str "low")=true from z) (by decide +kernel)) (fun _=>?_)
  refine⟨_,_,a1j.str _,a1j.str _,a0j a5i,a0j a7k,?_⟩
  refine a1v (fun z=>absurd (show PyData.eqv (.str "shift") (.str "table")=true from z) (by decide +kernel)) (fun _=>?_)
  refine⟨_,_,a1j.str _,a1j.str _,a0j a5i,a0j a5i,?_⟩
  refine a1v (fun _=>?_) (fun z=>absurd (show PyData.eqv (.str "shift") (.str "shift")=true by decide +kernel) z)
  have hP:H (sel g a b)=some (.lst ((sel g ns ms).map V.int)):=by
   rcases two with rfl | rfl
   ·exact ha
   ·exact hb
  have hO:H (sel g b a)=some (.lst ((sel g ms ns).map V.int)):=by
   rcases two with rfl | rfl
   ·exact hb
   ·exact ha
  have eP:atI [V.str (wrd (.sh ns ms)),.ref a,.ref b] (1+g)=some (.ref (sel g a b)):=by rcases two with rfl | rfl <;> rfl
  have eO:atI [V.str (wrd (.sh ns ms)),.ref a,.ref b] (2 - g)=some (.ref (sel g b a)):=by rcases two with rfl | rfl <;> rfl
  have mem:n∈sel g ns ms\/n∈sel g ms ns:=by
   rcases two with rfl | rfl
   ·exact hin
   ·exact hin.symm
  refine⟨_,_,.inr (.of hp),eP,?_⟩
  refine⟨_,.inl (.of hP),rfl,b5l _,?_⟩
  refine a1v (fun z=>?_) (fun z=>?_)
  ·have z:inV (.int n) ((sel g ns ms).map V.int)=true:=z
   rw[c5p]at z
   obtain⟨j,hj,_⟩:=b8r (of_decide_eq_true z)
   obtain⟨e1,e2⟩:=c0o hj
   refine⟨_,_,.inr (.of hp),eP,?_⟩
   refine⟨.inl ⟨rfl,_,.of hP⟩,?_⟩
   refine⟨_,_,_,j,rfl,rfl,hP,rfl,b5l _,⟨.int n,by rw[List.getElem?_map,e1]; rfl,by simp[eqV]⟩,fun j' z hj' hz=>?_,?_⟩
   ·obtain⟨m,hm,rfl⟩:=a6p hz
    have : ¬ m=n:=fun y=>e2 j' hj' (by rw[<- y]; exact hm)
    simp[eqV,this]
   have es':e2d (.sh f ns ms) g n=([(j:Int)],g):=by
    show (b8l (sel g ns ms) (sel g ms ns) g (.int n)).getD _=_
    unfold b8l; dsimp only; rw[hj]; rfl
   refine⟨sz rfl,fun q H1 g1=>?_⟩
   exact⟨sz rfl,fun p2 H2 g2=>k p2 q H2 (g1.sm.trans g2.sm) g1.nw (by rw[es']; exact g2.sm _ _ g1.at_) (by rw[es']; exact g2.at_)⟩
  ·have z : ¬ inV (.int n) ((sel g ns ms).map V.int)=true:=z
   rw[c5p]at z
   have z:n∉sel g ns ms:=fun y=>z (decide_eq_true y)
   have hmO:=mem.resolve_left z
   refine⟨_,_,a1j.str _,a1j.str _,a0j a5i,a0j a5i,?_⟩
   refine a1v (fun _=>?_) (fun z=>absurd (show PyData.eqv (.str "shift") (.str "shift")=true by decide +kernel) z)
   refine⟨_,_,.inr (.of hp),eO,?_⟩
   refine⟨_,.inl (.of hO),rfl,b5l _,?_⟩
   refine a1v (fun _=>?_) (fun y=>?_)
   ·obtain⟨j,hj,_⟩:=b8r hmO
    obtain⟨e1,e2⟩:=c0o hj
    refine⟨_,_,.inr (.of hp),eO,?_⟩
    refine⟨.inl ⟨rfl,_,.of hO⟩,?_⟩
    refine⟨_,_,_,j,rfl,rfl,hO,rfl,b5l _,⟨.int n,by rw[List.getElem?_map,e1]; rfl,by simp[eqV]⟩,fun j' z hj' hz=>?_,?_⟩
    ·obtain⟨m,hm,rfl⟩:=a6p hz
     have : ¬ m=n:=fun y=>e2 j' hj' (by rw[<- y]; exact hm)
     simp[eqV,this]
    have es':e2d (.sh f ns ms) g n=([254+(1 - g),(j:Int)],1 - g):=by
     show (b8l (sel g ns ms) (sel g ms ns) g (.int n)).getD _=_
     unfold b8l; dsimp only; rw[a9y.mpr z]; dsimp only; rw[hj]; rfl
    have e255:(255:Int) - g=254+(1 - g):=by omega
    refine⟨sz rfl,fun q H1 g1=>?_⟩
    dsimp only at g1
    rw[e255]at g1
    exact⟨sz rfl,fun p2 H2 g2=>k p2 q H2 (g1.sm.trans g2.sm) g1.nw (by rw[es']; exact g2.sm _ _ g1.at_) (by rw[es']; exact g2.at_)⟩
   ·have y : ¬ inV (.int n) ((sel g ms ns).map V.int)=true:=y
    rw[c5p]at y
    exact absurd (decide_eq_true hmO) y
theorem g6p(M:Md):PyData.strOk (wrd M)=true:=by
 cases M with
 | ld=>exact b0w
 | pr h=>cases h with
  | true=>exact a8f
  | false=>exact b5e
 | sh ns ms=>exact a5i
 | tb es=>exact a7k
 | br=>exact c7h
theorem f0x {M:Md} (h : ∀ ns ms,M ≠ .sh ns ms):PyData.eqv (.str (wrd M)) (.str "shift")=false:=by
 cases M with
 | ld=>exact show PyData.eqv (.str "lead") (.str "shift")=false by decide +kernel
 | pr b=>cases b with
  | true=>exact show PyData.eqv (.str "high") (.str "shift")=false by decide +kernel
  | false=>exact show PyData.eqv (.str "low") (.str "shift")=false by decide +kernel
 | sh ns ms=>exact absurd rfl (h ns ms)
 | tb es=>exact show PyData.eqv (.str "table") (.str "shift")=false by decide +kernel
 | br=>exact show PyData.eqv (.str "bare") (.str "shift")=false by decide +kernel
def Ld3:Md->Bool
 | .ld=>true
 | .pr _=>true
 | _=>false
theorem e5d (M:Md):inV (.str (wrd M)) [.str "lead",.str "high",.str "low"]=Ld3 M:=by
 cases M with
 | ld=>exact show inV (.str "lead") [.str "lead",.str "high",.str "low"]=true by decide +kernel
 | pr h=>cases h with
  | true=>exact show inV (.str "high") [.str "lead",.str "high",.str "low"]=true by decide +kernel
  | false=>exact show inV (.str "low") [.str "lead",.str "high",.str "low"]=true by decide +kernel
 | sh ns ms=>exact show inV (.str "shift") [.str "lead",.str "high",.str "low"]=false by decide +kernel
 | tb es=>exact show inV (.str "table") [.str "lead",.str "high",.str "low"]=false by decide +kernel
 | br=>exact show inV (.str "bare") [.str "lead",.str "high",.str "low"]=false by decide +kernel
theorem g7e{M:Md}(h:Ld3 M=true){D:Kt}(m:Mt M D){n:Int}(s:Sg n):InT D n:=by
 cases M with
 | ld=>obtain rfl:D=.ld:=m; exact s
 | pr b=>obtain rfl:D=.pr b:=m; exact s
 | _=>cases h
def LkT:Md->Int->Prop
 | .sh ns ms,n=>n∉ns/\n∉ms
 | .tb es,n=>∀ e∈es,e.1≠n
 | _,_=>True
theorem f7q(n:Int)(qs:List Addr):inV (.int n) (qs.map V.ref)=false:=by
 unfold inV
 rw[List.any_eq_false]
 intro x hx
 obtain⟨q,_,rfl⟩:=List.mem_map.mp hx
 simp[eqV]
theorem Mod.two{H:Hp}{p:Addr}{M:Md}(h:Mod H p M) : ∃ a b xs ys zs,H p=some (.tup [.str (wrd M),.ref a,.ref b])/\H a=some (.lst (xs.map V.int))/\H b=some (.lst ys)/\(∀ y∈ys,FlL H y)/\(∀ n:Int,inV (.int n) ys=decide (n∈zs))/\xs.length<=250/\zs.length<=250/\(∀ n:Int,n∉xs->n∉zs->LkT M n)/\(Ld3 M=false->∀ D,Mt M D->∀ n∈xs,InT D n)/\(∀ ns ms,M=.sh ns ms->xs=ns/\zs=ms/\ys=ms.map V.int):=by
 obtain⟨a,b,hp,ct⟩:=h
 cases M with
 | ld=>exact⟨a,b,[],[],[],hp,ct.1,ct.2,(fun _ h=>nomatch h),fun _=>rfl,by decide,by decide,fun _ _ _=>trivial,(fun h=>nomatch h),(fun _ _ h=>nomatch h)⟩
 | pr h=>exact⟨a,b,[],[],[],hp,ct.1,ct.2,(fun _ h=>nomatch h),fun _=>rfl,by decide,by decide,fun _ _ _=>trivial,(fun h=>nomatch h),(fun _ _ h=>nomatch h)⟩
 | br=>exact⟨a,b,[],[],[],hp,ct.1,ct.2,(fun _ h=>nomatch h),fun _=>rfl,by decide,by decide,fun _ _ _=>trivial,(fun _ _ _ _ h=>nomatch h),(fun _ _ h=>nomatch h)⟩
 | sh ns ms =>
  obtain⟨ha,hb,okn,okm⟩:=ct
  refine⟨a,b,ns,_,ms,hp,ha,hb,fun y hy=>?_,fun n=>c5p n ms,okn.2.2,okm.2.2,fun n h1 h2=>⟨h1,h2⟩,fun _ D mt n hn=>?_,fun ns' ms' e=>?_⟩
  ·obtain⟨m,_,rfl⟩:=List.mem_map.mp hy; exact .inl rfl
  ·obtain⟨f,rfl⟩:=mt; exact .inl hn
  ·cases e; exact⟨rfl,rfl,rfl⟩
 | tb es =>
  obtain⟨ha,⟨qs,hb,rw1⟩,ok⟩:=ct
  refine⟨a,b,es.map fun e=>e.1,_,[],hp,ha,hb,fun y hy=>?_,fun n=>f7q n qs,by rw[List.length_map]; have:=ok.l; omega,by decide,fun n h1 _ e he z=>h1 (List.mem_map.mpr ⟨e,he,z⟩),fun _ D mt n hn=>?_,(fun _ _ h=>nomatch h)⟩
  ·obtain⟨q,hq,rfl⟩:=List.mem_map.mp hy
   obtain⟨j,hj⟩:=List.mem_iff_getElem?.mp hq
   obtain⟨e,_,he⟩:=rw1.right hj
   exact .inr ⟨q,_,rfl,he⟩
  ·obtain⟨f,rfl⟩:=mt
   obtain⟨e,he,en⟩:=List.mem_map.mp hn
   exact⟨e,he,en⟩
def h3v(K:PySem.W.Frag):Sp:=fun vs H Q _=>∃ (p c:Addr) (M:Md) (cs:List Int),vs=[.ref p,.ref c]/\Mod H p M/\SqL K H c (cs.map V.int)/\cs.length<=100/\∀ q (ts:List Int) H',a1l H H'->H' q=some (.lst (ts.map V.int))->ts.length<=100->(ts=[]\/ts.length=cs.length)->(∀ D,Mt M D->∀ n∈ts,InT D n)->Q (.ref q) H'
theorem f7u (T:Txt w K mg t):Has P w K mg base "_law_text" 3 t.d8b t.d7a ["_law_model_here", "_law_cells"] (h3v K):=by
 refine⟨T.f8a,T.e6g.kp,T.f8u,T.e6g.okQ b7p (fun vs H Q E h=>by obtain⟨p,c,M,cs,rfl,_⟩:=h; rfl) fun cdv A outer s H vs Q E hr h=>?_⟩
 obtain⟨p,c,M,cs,rfl,mod,hc,lc,k⟩:=h
 have hu:=hr.units
 obtain⟨a,b,xs,ys,zs,hp,ha,hb,fl,iy,lx,lz,lk,ld,sh⟩:=mod.two
 refine⟨_,(a0b (b8q (a0h 0) (a5g (K:=K) rfl rfl (a1m (a0x (i:=2) b7p.nd rfl (by first | exact Or.inl rfl | exact Or.inr rfl)) (a1m (a0x (i:=3) b7p.nd rfl (by first | exact Or.inl rfl | exact Or.inr rfl)) (a1m (a0x (i:=4) b7p.nd rfl (by first | exact Or.inl rfl | exact Or.inr rfl)) a5f)))))
  (a0b (a0w (a0o (f8g (K:=K) rfl) (a0h 2) (a1u (b8b rfl)) (by with_unfolding_all rfl)) (a0e (a0i (a6b rfl (a2b.of (fns:=(a0f b3q).names) (N:=["_law_model_here", "_law_cells", "_law_word", "_law_first", "_law_second", "_law_some"]) (Nc:=["_law_cell"]) (nv:=1) (caps:=[]) rfl rfl (by decide +kernel)) (a2q (K:=K) rfl (a0h 1)) (fun _ _ _ _=>(a0x (i:=0) (show List.Nodup (["_law_cell"]:List Str) by decide +kernel) rfl (Or.inl rfl) (Or.inr rfl))) (fun _ _ _ _=>a4p) (fun _ _ _ _=>(a2a (e2v T) hr (a0c (a0h 0) a0a)))))) a0n)
  (a0b (a0r (i:=5) b7p.nd rfl (by first | exact Or.inl rfl | exact Or.inr rfl) (a9o (b1t (K:=K) rfl) T.n_list PyProof.Rows.boot_list (a0c (a0h 3) a0a)))
  (a0b (a0w (a0o (a4q (K:=K) rfl hu) (a0h 2) a2d (a1e _)) (a0e (a0r (i:=5) b7p.nd rfl (by first | exact Or.inl rfl | exact Or.inr rfl) (a0q (a1r (K:=K) rfl) (a0h 3) (a6b rfl (a2b.of (fns:=(a0f b3q).names) (N:=["_law_model_here", "_law_cells", "_law_word", "_law_first", "_law_second", "_law_some"]) (Nc:=["_law_sign", "_law_first"]) (nv:=1) (caps:=[3]) rfl rfl (by decide +kernel)) (a2q (K:=K) rfl (a0h 4)) (fun _ _ _ _=>(a0x (i:=0) (show List.Nodup (["_law_sign", "_law_first"]:List Str) by decide +kernel) rfl (Or.inl rfl) (Or.inr rfl))) (fun _ _ _ _=>(d9f (a0o (e5i (K:=K) rfl) (a0h 0) (a0h 1) (by with_unfolding_all rfl)))) (fun _ _ _ _=>(a0h 0)))))) a0n)
  (a0b (a0w (a0o (a4q (K:=K) rfl hu) (a0h 5) (a0y a0a) (a1e _)) (a0e (a0i (a0y a0a))) a0n)
  (a0e (a0i (a6b rfl (a2b.of (fns:=(a0f b3q).names) (N:=["_law_model_here", "_law_cells", "_law_word", "_law_first", "_law_second", "_law_some"]) (Nc:=["_law_cell", "_law_some"]) (nv:=1) (caps:=[5]) rfl rfl (by decide +kernel)) (a2q (K:=K) rfl (a0h 1)) (fun _ _ _ _=>(a0x (i:=0) (show List.Nodup (["_law_cell", "_law_some"]:List Str) by decide +kernel) rfl (Or.inl rfl) (Or.inr rfl))) (fun _ _ _ _=>a4p) (fun _ _ _ _=>(a1b (a1y (K:=K) rfl) (a0h 1) (a0q f8d (a0h 0) (a2g (a3b (K:=K) rfl) T.n_len PySem.boot_len (a0c (a0h 1) a0a))) (fun _ _=>rfl))))))))))),?_⟩
 refine⟨p,_,rfl,.of hp,rfl,_,_,rfl,_,_,rfl,_,_,rfl,rfl,?_⟩
 refine⟨sz rfl,fun p1 H1 g1=>?_⟩
 refine⟨_,.inr g1.tup,rfl,rfl,?_⟩
 have hc1:=g1.sm.seq hc
 refine a1v (fun z=>?_) (fun z=>?_)
 ·have z:inV (.str (wrd M)) [.str "lead",.str "high",.str "low"]=true:=z
  rw[e5d]at z
  refine⟨c,rfl,⟨_,hc1⟩,c1e (K:=K) (a:=c) (xs:=cs.map V.int) (fun i ys H'=>a1l H1 H'/\∃ ts:List Int,ys=ts.map V.int/\ts.length=i/\∀ n∈ts,Sg n) ⟨a1l.refl _,[],rfl,rfl,(fun n h=>nomatch h)⟩ (fun i ys H' _ z=>⟨z.1.seq hc1,by obtain⟨_,ts,rfl,l,_⟩:=z; rw[List.length_map]; omega⟩) (szl (by rw[List.length_map]; omega)) (fun i x ys H' N hx y hN=>?_) fun ys H' q H'' y g=>?_⟩
  ·obtain⟨s',ts,rfl,l,hs⟩:=y
   obtain⟨m,hm,rfl⟩:=a6p hx
   simp only [c9y,if_true]
   refine⟨m,rfl,fun n H2 s2 hn=>hN _ _ ⟨s'.trans s2,ts++[n],by rw[List.map_append]; rfl,by rw[List.length_append,l]; rfl,fun n' hn'=>?_⟩⟩
   rcases List.mem_append.mp hn' with y | y
   ·exact hs n' y
   ·rw[List.mem_singleton.mp y]; exact hn
  ·obtain⟨s',ts,rfl,l,hs⟩:=y
   rw[List.length_map]at l
   exact k q ts H'' (g1.sm.trans (s'.trans g.sm)) g.at_ (by omega) (.inr l) fun D m n hn=>g7e z m (hs n hn)
 have z : ¬ inV (.str (wrd M)) [.str "lead",.str "high",.str "low"]=true:=z
 rw[e5d,Bool.not_eq_true]at z
 refine⟨_,.inl (.of (g1.sm _ _ ha)),fun p2 H2 g2=>?_⟩
 have s2:=g1.sm.trans g2.sm
 dsimp only [b5k]
 refine b0u (fun σ' H'=>a1l H H'/\∃ (ps:Addr) (ss:List Int),H' ps=some (.lst (ss.map V.int))/\ss.length<=500/\(∀ D,Mt M D->∀ n∈ss,InT D n)/\σ'=[some (.ref p),some (.ref c),some (.str (wrd M)),some (.ref a),some (.ref b),some (.ref ps)]) (fun nx hn=>?_) ?_
 ·refine⟨_,_,a1j.str _,a1j.str _,a0j (g6p M),a0j a5i,?_⟩
  refine a1v (fun y=>?_) (fun y=>?_)
  ·have y:PyData.eqv (.str (wrd M)) (.str "shift")=true:=y
   obtain⟨ns,ms,eM⟩ : ∃ ns ms,M=.sh ns ms:=by
    cases M with
    | sh ns ms=>exact⟨ns,ms,rfl⟩
    | _=>rw[f0x (fun _ _ h=>by cases h)]at y; cases y
   obtain⟨rfl,rfl,rfl⟩:=sh ns ms eM
   have hb2:SqL K H2 b (zs.map V.int):=.of (s2 _ _ hb)
   refine⟨b,rfl,⟨_,hb2⟩,c1e (K:=K) (a:=b) (xs:=zs.map V.int) (fun i ys H'=>a1l H2 H'/\∃ ts:List Int,ys=ts.map V.int/\ts.length<=i/\∀ n∈ts,n∈zs) ⟨a1l.refl _,[],rfl,Nat.le_refl _,(fun n h=>nomatch h)⟩ (fun i ys H' _ z=>⟨z.1.seq hb2,by obtain⟨_,ts,rfl,l,_⟩:=z; rw[List.length_map]; omega⟩) (szl (by rw[List.length_map]; omega)) (fun i x ys H' N hx y hN=>?_) fun ys H' q H'' y g=>?_⟩
   ·obtain⟨s',ts,rfl,l,hs⟩:=y
    obtain⟨m,hm,rfl⟩:=a6p hx
    refine⟨_,.inl (.of (s' _ _ (s2 _ _ ha))),rfl,b5l _,?_⟩
    refine a1v (fun _=>?_) (fun _=>?_)
    ·refine hN _ _ ⟨s',ts++[m],by rw[List.map_append]; rfl,by rw[List.length_append]; show _+1<=_; omega,fun n' hn'=>?_⟩
     rcases List.mem_append.mp hn' with y | y
     ·exact hs n' y
     ·rw[List.mem_singleton.mp y]; exact List.mem_of_getElem? hm
    ·exact hN _ _ ⟨s',ts,rfl,by omega,hs⟩
   ·obtain⟨s',ts,rfl,l,hs⟩:=y
    rw[List.length_map]at l
    have s3:=s2.trans (s'.trans g.sm)
    refine⟨_,_,.of (s3 _ _ ha),g.lst,szl (by rw[List.length_map,List.length_map]; omega),fun p4 H4 g4=>?_⟩
    refine hn _ _ ⟨s3.trans g4.sm,p4,xs++ts,by rw[List.map_append]; exact g4.at_,by rw[List.length_append]; omega,fun D mt n hn=>?_,rfl⟩
    rw[eM]at mt
    obtain⟨f,rfl⟩:=mt
    rcases List.mem_append.mp hn with y | y
    ·exact .inl y
    ·exact .inr (hs n y)
  ·exact hn _ _ ⟨s2,p2,xs,g2.at_,by omega,ld z,rfl⟩
 ·rintro σ' H3 ⟨s3,ps,ss,hps,lss,hss,rfl⟩
  refine⟨sz rfl,fun p4 H4 g4=>?_⟩
  have hps4:=g4.sm _ _ hps
  refine c1b (ns:=ss) (ms:=[]) (.of hps4) g4.lst ?_
  refine a1v (fun y=>?_) (fun y=>?_)
  ·exact⟨sz rfl,fun p5 H5 g5=>k p5 [] H5 (s3.trans (g4.sm.trans g5.sm)) g5.at_ (by decide) (.inl rfl) (fun _ _ _ h=>nomatch h)⟩
  ·have y : ¬ ss=[]:=fun e=>y (decide_eq_true e)
   have pos:0 < ss.length:=by cases ss with | nil=>exact absurd rfl y | cons _ _=>exact Nat.succ_pos _
   have hc4:=(s3.trans g4.sm).seq hc
   refine⟨c,rfl,⟨_,hc4⟩,c1e (K:=K) (a:=c) (xs:=cs.map V.int) (fun i ys H'=>a1l H4 H'/\∃ ts:List Int,ys=ts.map V.int/\ts.length=i/\∀ n∈ts,n∈ss) ⟨a1l.refl _,[],rfl,rfl,(fun n h=>nomatch h)⟩ (fun i ys H' _ z=>⟨z.1.seq hc4,by obtain⟨_,ts,rfl,l,_⟩:=z; rw[List.length_map]; omega⟩) (szl (by rw[List.length_map]; omega)) (fun i x ys H' N hx y hN=>?_) fun ys H' q H'' y g=>?_⟩
   ·obtain⟨s',ts,rfl,l,hs⟩:=y
    obtain⟨m,hm,rfl⟩:=a6p hx
    simp only [c9y,if_true]
    refine⟨_,.inl (.of (s' _ _ hps4)),?_⟩
    rw[List.length_map]
    refine⟨by omega,?_⟩
    obtain⟨v,hv,e1,_⟩:=e6f (xs:=ss.map V.int) (i:=m%(ss.length:Int)) (Int.emod_nonneg _ (by omega)) (by rw[List.length_map]; exact Int.emod_lt_of_pos _ (by omega))
    obtain⟨n,hn,rfl⟩:=List.mem_map.mp hv
    refine⟨_,_,.inl (.of (s' _ _ hps4)),e1,?_⟩
    refine hN _ _ ⟨s',ts++[n],by rw[List.map_append]; rfl,by rw[List.length_append,l]; rfl,fun n' hn'=>?_⟩
    rcases List.mem_append.mp hn' with y | y
    ·exact hs n' y
    ·rw[List.mem_singleton.mp y]; exact hn
   ·obtain⟨s',ts,rfl,l,hs⟩:=y
    rw[List.length_map]at l
    exact k q ts H'' (s3.trans (g4.sm.trans (s'.trans g.sm))) g.at_ (by omega) (.inr l) fun D m n hn=>hss D m n (hs n hn)
def PcA(H:Hp)(p:Addr)(L:List (Addr × List Int)):Prop:=H p=some (.lst (L.map fun x=>V.ref x.1))/\∀ x∈L,x.1≠p/\H x.1=some (.lst (x.2.map V.int))
def flt(L:List (Addr × List Int)):List Int:=(L.map fun x=>x.2).flatten
theorem c9p(L:List (Addr × List Int))(q:Addr)(xs:List Int):flt (L++[(q,xs)])=flt L++xs:=by
 unfold flt
 rw[List.map_append,List.flatten_append]
 simp
theorem PcA.mono{H H':Hp}{p:Addr}{L:List (Addr × List Int)}(h:PcA H p L)(s:a1l H H'):PcA H' p L:=⟨s _ _ h.1,fun x hx=>⟨(h.2 x hx).1,s _ _ (h.2 x hx).2⟩⟩
theorem PcA.more{H H1:Hp}{p q:Addr}{xs:List Int}{L:List (Addr × List Int)}(h:PcA H p L)(g:Gro H q (.lst (xs.map V.int)) H1):PcA (upd H1 p (.lst ((L.map fun x=>V.ref x.1)++[.ref q]))) p (L++[(q,xs)]):=by
 have nq:q≠p:=(a0l h.1 g.nw).symm
 refine⟨by rw[a0v,List.map_append]; rfl,fun x hx'=>?_⟩
 rcases List.mem_append.mp hx' with z | z
 ·obtain⟨n,e⟩:=h.2 x z
  exact⟨n,by rw[a1c n]; exact g.sm _ _ e⟩
 ·rw[List.mem_singleton.mp z]
  exact⟨nq,by rw[a1c nq]; exact g.at_⟩
theorem f2s{H:Hp}{L:List (Addr × List Int)}{q:Addr}{xs:List Int}(h : ∀ x∈L,H x.1=none)(n:H q=none) : ∀ x∈L++[(q,xs)],H x.1=none:=fun x hx=>by
 rcases List.mem_append.mp hx with z | z
 ·exact h x z
 ·rw[List.mem_singleton.mp z]; exact n
def h4g(K:PySem.W.Frag):Sp:=fun vs H Q _=>∃ (a:Addr) (c:Int) (ts:List Int),vs=[.ref a,.int c]/\SqL K H a (ts.map V.int)/\ts.length<=1000/\∀ p (L:List (Addr × List Int)) H',a1l H H'->H p=none->PcA H' p L->(∀ x∈L,H x.1=none)->flt L=ts->L.length<=2000->Q (.ref p) H'
theorem d5b (T:Txt w K mg t):Has P w K mg base "_law_pieces" 2 t.c8c t.c7n ["_law_row_here", "_law_cell"] (h4g K):=by
 refine⟨T.e7q,T.d5l.kp,T.e8e,T.d5l.okQ a9z (fun vs H Q E h=>by obtain⟨a,c,ts,rfl,_⟩:=h; rfl) fun cdv A outer s H vs Q E hr h=>?_⟩
 obtain⟨a,c,ts,rfl,ha,lt,k⟩:=h
 have hu:=hr.units
 refine⟨_,(a0b (a0r (i:=2) a9z.nd rfl (by first | exact Or.inl rfl | exact Or.inr rfl) (a0y a0a))
  (a0b (a0r (i:=3) a9z.nd rfl (by first | exact Or.inl rfl | exact Or.inr rfl) a0g)
  (a0b (a0r (i:=4) a9z.nd rfl (by first | exact Or.inl rfl | exact Or.inr rfl) (a0h 1))
  (a0b (e6y PassesOwn.never (a0o d8n (a0h 3) (a2g (a3b (K:=K) rfl) T.n_len PySem.boot_len (a0c (a0h 0) a0a)) (a1e _)) (a0b (a0r (i:=4) a9z.nd rfl (by first | exact Or.inl rfl | exact Or.inr rfl) (a2a (d1a T) hr (a0c (a0h 4) (a0c (a0h 3) a0a))))
  (a0b (a0r (i:=5) a9z.nd rfl (by first | exact Or.inl rfl | exact Or.inr rfl) (a1b (a1y (K:=K) rfl) (a0y (a0c (a2g (a3b (K:=K) rfl) T.n_len PySem.boot_len (a0c (a0h 0) a0a)) (a0c a0g (a0c (a0q (a1r (K:=K) rfl) a0g (a1p (a2m (a0h 4)))) (a0c (a0q (a1r (K:=K) rfl) a0g (a1p (a2m (a0h 4)))) a0a))))) (a1p (a0h 1)) (fun _ _=>rfl)))
  (a0b (a0w (a0o (a4q (K:=K) rfl hu) (a1p (a0h 4)) a0g (a1e _)) (a0e (a2n (a5t (K:=K) rfl PySem.F.plainAttrs_list PySem.F.slot_list_append PySem.F.type_list_append a9v (a0h 2) (a0c (a0y a0a) a0a)))) a0n)
  (a0b (a2n (a5t (K:=K) rfl PySem.F.plainAttrs_list PySem.F.slot_list_append PySem.F.type_list_append a9v (a0h 2) (a0c (a1z (b8c (K:=K) rfl) (a0h 0) (a1x (a0h 3)) (a1x (a0q (a1r (K:=K) rfl) (a0h 3) (a0h 5)))) a0a)))
  (a0e (a0r (i:=3) a9z.nd rfl (by first | exact Or.inl rfl | exact Or.inr rfl) (a0q (a1r (K:=K) rfl) (a0h 3) (a0h 5)))))))))
  (a0e (a0i (a0h 2))))))),?_⟩
 refine⟨sz rfl,fun p H1 g1=>?_⟩
 refine⟨fun m σ H'=>a1l H H'/\∃ (n at_:Nat) (num:Int) (L:List (Addr × List Int)) (v5:Option V),PcA H' p L/\(∀ x∈L,H x.1=none)/\flt L=ts.take at_/\L.length<=2*n/\n<=at_/\n<=ts.length/\m=ts.length - at_/\σ=[some (.ref a),some (.int c),some (.ref p),some (.int (at_:Int)),some (.int num),v5],⟨_,g1.sm,0,0,c,[],_,⟨g1.at_,(fun _ h=>nomatch h)⟩,(fun _ h=>nomatch h),rfl,Nat.le_refl _,Nat.le_refl _,Nat.zero_le _,rfl,rfl⟩,?_⟩
 rintro m σ H2 ⟨s2,n,at_,num,L,v5,hP,fr,fl,l1,l2,l3,rfl,rfl⟩
 have ha2:=s2.seq ha
 refine⟨_,.inl ha2,?_⟩
 refine a1v (fun z=>?_) (fun z=>?_)
 ·have z:(at_:Int) < ((ts.map V.int).length:Int):=of_decide_eq_true z
  rw[List.length_map]at z
  refine⟨fun σ' H'=>a1l H H'/\∃ (n at':Nat) (num:Int) (L:List (Addr × List Int)) (v5:Option V),at_ < at'/\PcA H' p L/\(∀ x∈L,H x.1=none)/\flt L=ts.take at'/\L.length<=2*n/\n<=at'/\n<=ts.length/\σ'=[some (.ref a),some (.int c),some (.ref p),some (.int (at':Int)),some (.int num),v5],?_,?_⟩
  ·rintro σ' H' ⟨s',n',at',num',L',v5',lt',hP',fr',fl',a1,a2,a3,rfl⟩
   exact⟨ts.length - at',by omega,s',n',at',num',L',v5',hP',fr',fl',a1,a2,a3,rfl,rfl⟩
  refine⟨_,_,rfl,by omega,by omega,fun num' n0 n1=>?_⟩
  refine⟨_,.inl ha2,?_⟩
  refine⟨sz rfl,fun p3 H3 g3=>?_⟩
  obtain⟨k',e,k1,k2⟩ : ∃ k':Nat,atI [V.int ((ts.map V.int).length:Int),.int 1,.int (1+num' / 7%3),.int (1+num' / 7%9)] (c%4)=some (.int (k':Int))/\1<=k'/\k'<=1000:=by
   rcases (show c%4=0\/c%4=1\/c%4=2\/c%4=3 by omega) with e | e | e | e <;> rw[e]
   ·exact⟨ts.length,by rw[List.length_map]; rfl,by omega,by omega⟩
   ·exact⟨1,rfl,by omega,by omega⟩
   ·refine⟨(1+num' / 7%3).toNat,?_,by omega,by omega⟩
    rw[Int.toNat_of_nonneg (by omega)]; rfl
   ·refine⟨(1+num' / 7%9).toNat,?_,by omega,by omega⟩
    rw[Int.toNat_of_nonneg (by omega)]; rfl
  refine⟨_,_,.inl g3.lst,e,?_⟩
  have hP3:=hP.mono g3.sm
  have s3:=s2.trans g3.sm
  dsimp only [b5k]
  refine b0u (fun σ' H'=>a1l H H'/\∃ L':List (Addr × List Int),PcA H' p L'/\(∀ x∈L',H x.1=none)/\flt L'=ts.take at_/\L'.length<=L.length+1/\σ'=[some (.ref a),some (.int c),some (.ref p),some (.int (at_:Int)),some (.int num'),some (.int (k':Int))]) (fun nx hn=>?_) ?_
  ·refine a1v (fun _=>?_) (fun _=>?_)
   ·refine⟨.inl ⟨rfl,_,.of hP3.1⟩,?_⟩
    refine⟨sz rfl,fun p4 H4 g4=>?_⟩
    refine⟨_,g4.sm _ _ hP3.1,e1m (by rw[List.length_map]; omega),?_⟩
    exact hn _ _ ⟨(s3.trans g4.sm).put g1.nw,L++[(p4,[])],hP3.more (xs:=[]) g4,f2s fr (s3.free g4.nw),by rw[c9p,List.append_nil]; exact fl,by rw[List.length_append]; exact Nat.le_refl _,rfl⟩
   ·exact hn _ _ ⟨s3,L,hP3,fr,fl,by omega,rfl⟩
  ·rintro σ' H5 ⟨s5,L',hP5,fr5,fl5,l5,rfl⟩
   refine⟨.inl ⟨rfl,_,.of hP5.1⟩,?_⟩
   refine⟨_,rfl,_,rfl,_,s5.seq ha,fun q H6 g6=>?_⟩
   have e6:d5g (ts.map V.int) (some (at_:Int)) (some ((at_:Int)+(k':Int)))=((ts.drop at_).take k').map V.int:=by
    rw[a5p]
    exact congrArg _ (e5o ts at_ k')
   rw[e6]at g6
   refine⟨_,g6.sm _ _ hP5.1,e1m (by rw[List.length_map]; omega),?_⟩
   refine⟨(s5.trans g6.sm).put g1.nw,n+1,at_+k',num',L'++[(q,(ts.drop at_).take k')],some (.int (k':Int)),by omega,hP5.more g6,f2s fr5 (s5.free g6.nw),by rw[c9p,fl5,List.take_add],by rw[List.length_append]; show _+1<=_; omega,by omega,by omega,?_⟩
   rw[Int.natCast_add]
   rfl
 ·have z : ¬ (at_:Int) < ((ts.map V.int).length:Int):=fun y=>z (decide_eq_true y)
  rw[List.length_map]at z
  exact k p L H2 s2 g1.nw hP fr (by rw[fl,List.take_of_length_le (by omega)]) (by omega)
def g5a(K:PySem.W.Frag):Sp:=fun vs H Q _=>∃ (q:Addr) (r:List Int),vs=[.ref q]/\H q=some (.lst (r.map V.int))/\(∀ x∈r,(61184<=x/\x<=61439)\/Sg x)/\r.length<=2000/\∀ H',a1l H H'->Q (.bl true) H'
theorem f1v (T:Txt w K mg t):Has P w K mg base "is_seen" 4 t.d3f t.d1q ["thing"] (g5a K):=by
 refine⟨T.f2n,T.e1f.kp,T.f4p,T.e1f.okQ e6t (fun vs H Q E h=>by obtain⟨q,r,rfl,_⟩:=h; rfl) fun cdv A outer s H vs Q E hr h=>?_⟩
 obtain⟨q,r,rfl,hq,hb,hl,k⟩:=h
 have hu:=hr.units
 refine⟨_,(a0e (a0i (b5z (a2g (c4h (K:=K) rfl) T.n_isinstance PyProof.Rows.boot_isinstance (a0c (a0h 0) (a0c (e2n rfl T.n_list PyProof.Rows.boot_list) a0a))) (b1x (a2g (g0h (K:=K) rfl rfl) T.n_all PyProof.Rows.boot_all (a0c (a6b rfl (a2b.of (fns:=(a0f b5b).names) (N:=["thing"]) (Nc:=["each"]) (nv:=1) (caps:=[]) rfl rfl (by decide +kernel)) (a2q (K:=K) rfl (a0h 0)) (fun _ _ _ _=>(a0x (i:=0) (show List.Nodup (["each"]:List Str) by decide +kernel) rfl (Or.inl rfl) (Or.inr rfl))) (fun _ _ _ _=>a4p) (fun _ _ _ _=>(d0g (a2a (b2u T) hr (a0c (a0h 0) a0a)) (b1x (a2a (b6l T) hr (a0c (a0h 0) a0a)))))) a0a)))))),?_⟩
 refine⟨_,_,.lst hq,by with_unfolding_all rfl,?_⟩
 refine f7o ?_
 refine⟨q,rfl,⟨_,.of hq⟩,c4e ((r.map fun _=>true).map V.bl) (by simp) (.of hq) (szl (by rw[List.length_map]; omega)) (fun i x y H4 N hx hy s4 hN=>?_) fun p3 H3 g3=>?_⟩
 ·obtain⟨o,ho,rfl⟩:=a6p hx
  rw[List.getElem?_map,List.getElem?_map,ho]at hy
  cases hy
  have:=hb o (List.mem_of_getElem? ho)
  refine⟨_,rfl,.int _,?_⟩
  refine a1v (fun z=>?_) (fun z=>?_)
  ·exact c7b (hN _ (a1l.refl _)) rfl
  ·rcases this with y | y
   ·exact⟨_,rfl,.int _,c7b (hN _ (a1l.refl _)) (by simp[d3r]; omega)⟩
   ·exact absurd ((c5f o).mpr y) z
 refine⟨_,g3.lst,?_⟩
 exact c7b (k H3 g3.sm) (by simp)
def h4b(K:PySem.W.Frag)(t:Adr):Sp:=fun vs H Q _=>∃ (p c:Addr) (M:Md) (cs:List Int),vs=[.ref p,.ref c]/\Mod H p M/\SqL K H c (cs.map V.int)/\cs.length<=61/\(∃ D,Mt M D/\KoS D)/\∀ q (r:List Int) H',a1l H H'->H' q=some (.lst (r.map V.int))->b5u r->r.length<=400->Q (.ref q) H'
theorem g0b : ∀ b∈([0,65,127,128,143,144,159,160,187,188,191,192,193,194,216,219,220,223,224,237,238,239,240,244,245,253,254,255]:List Int),0<=b/\b<=255:=by decide
theorem f8t{xs ys:List Int}(h:b5u xs)(g:b5u ys):b5u (xs++ys):=fun x hx=>(List.mem_append.mp hx).elim (h x) (g x)
theorem f5t{D:Kt}{g n:Int}(ok:KoS D)(pg:PgK D g)(hn:InT D n):b5u (e2d D g n).1:=by
 cases D with
 | ld =>
  obtain⟨h0,h1,h2,h3⟩:=id hn
  intro b hb
  have hb:b∈row n:=hb
  unfold row at hb
  split at hb
  ·simp at hb; omega
  ·split at hb
   ·simp at hb; omega
   ·split at hb <;> simp at hb <;> omega
 | pr h=>exact f0h h hn
 | sh f ns ms =>
  obtain⟨r,g',e,_,hr⟩:=e9h pg hn
  rw[f9f e]
  have two:Two g:=pg
  have l1 : ∀ c:Int,0<=c->∀ xs:List Int,xs.length<=250->xs[c.toNat]? = some n->0<=c/\c<=255:=fun c c0 xs lx e=>by
   have:=(List.getElem?_eq_some_iff.mp e).1
   omega
  have a1:=ok.1.2.2
  have a2:=ok.2.2.2
  have s1:(sel g ns ms).length<=250/\(sel g ms ns).length<=250:=by rcases two with rfl | rfl <;> exact⟨by assumption,by assumption⟩
  rcases hr with ⟨b,rfl,b0,eb,_⟩ | ⟨c,rfl,c0,ec,_⟩
  ·intro x hx
   rw[List.mem_singleton.mp hx]
   exact l1 b b0 _ s1.1 eb
  ·have:=l1 c c0 _ s1.2 ec
   intro x hx
   rcases List.mem_cons.mp hx with rfl | hx
   ·rcases two with rfl | rfl <;> decide
   ·rw[List.mem_singleton.mp hx]; exact this
 | tb f es =>
  obtain⟨e,he,_,ef⟩:=c7l hn
  have es':e2d (.tb f es) g n=(e.2,g):=by
   show (Option.map _ _).getD _=_
   rw[ef]; rfl
  rw[es']
  exact (Es.sg ok e he).2.2.2
 | br=>exact hn.elim
theorem g2v (T:Txt w K mg t):Has P w K mg base "_law_row" 4 t.e4d t.e3e ["_law_model_here", "_law_cells"] (h4b K t):=by
 refine⟨T.g3c,T.f4x.kp,T.g3t,T.f4x.okQ a7i (fun vs H Q E h=>by obtain⟨p,c,M,cs,rfl,_⟩:=h; rfl) fun cdv A outer s H vs Q E hr h=>?_⟩
 obtain⟨p,c,M,cs,rfl,mod,hc,lc,⟨D,mt,ok⟩,k⟩:=h
 have hu:=hr.units
 refine⟨_,(a0b (a0r (i:=2) a7i.nd rfl (by first | exact Or.inl rfl | exact Or.inr rfl) (a0y (b8b rfl)))
  (a0b (a0r (i:=2) a7i.nd rfl (by first | exact Or.inl rfl | exact Or.inr rfl) (a0q (a1r (K:=K) rfl) (a0h 2) (a0y (b8b rfl))))
  (a0b (a0r (i:=3) a7i.nd rfl (by first | exact Or.inl rfl | exact Or.inr rfl) (a2a (f7u T) hr (a0c (a0h 0) (a0c (a0h 1) a0a))))
  (a0b (a0r (i:=4) a7i.nd rfl (by first | exact Or.inl rfl | exact Or.inr rfl) (a0y a0a))
  (a0b (a0r (i:=5) a7i.nd rfl (by first | exact Or.inl rfl | exact Or.inr rfl) a0g)
  (a0b (a4x PassesOwn.never rfl (b4t (K:=K) rfl rfl T.n_enumerate (a0c (a0h 1) a0a)) (a5g (K:=K) rfl rfl (a1m (a0x (i:=6) a7i.nd rfl (by first | exact Or.inl rfl | exact Or.inr rfl)) (a1m (a0x (i:=7) a7i.nd rfl (by first | exact Or.inl rfl | exact Or.inr rfl)) a5f))) (a0b (a0r (i:=8) a7i.nd rfl (by first | exact Or.inl rfl | exact Or.inr rfl) (a1p (a2m (a0h 7))))
  (a0e (a0w (a2w (a9x (a0o (d4k (K:=K) rfl hu) (a0h 3) (a0y a0a) (a1e _)) (a8d (a0o d8n (a0h 8) a0g (a1e _))))) (a0b (b8q (a2a (f1p T) hr (a0c (a0h 0) (a0c (a1b (a1y (K:=K) rfl) (a0h 3) (a0h 6) (fun _ _=>rfl)) (a0c (a0h 5) a0a)))) (a5g (K:=K) rfl rfl (a1m (a0x (i:=9) a7i.nd rfl (by first | exact Or.inl rfl | exact Or.inr rfl)) (a1m (a0x (i:=10) a7i.nd rfl (by first | exact Or.inl rfl | exact Or.inr rfl)) a5f))))
  (a0b (a0w (a0o (a4q (K:=K) rfl hu) (a0h 8) a0g (a1e _)) (a0e (a0r (i:=9) a7i.nd rfl (by first | exact Or.inl rfl | exact Or.inr rfl) (a1z (b8c (K:=K) rfl) (a0h 9) a3o (a1x (a0q f8d (a2m (a0h 7)) (a2g (a3b (K:=K) rfl) T.n_len PySem.boot_len (a0c (a0h 9) a0a))))))) (a0e (a0r (i:=5) a7i.nd rfl (by first | exact Or.inl rfl | exact Or.inr rfl) (a0h 10))))
  (a0e (a0r (i:=4) a7i.nd rfl (by first | exact Or.inl rfl | exact Or.inr rfl) (a0q (a1r (K:=K) rfl) (a0h 4) (a0h 9)))))) (a0e (a0w (a0o (a4q (K:=K) rfl hu) (a0h 8) a0g (a1e _)) (a0e (a2n (a5t (K:=K) rfl PySem.F.plainAttrs_list PySem.F.slot_list_append PySem.F.type_list_append a9v (a0h 4) (a0c (a1p (a2m (a0h 7))) a0a)))) (a0e (a2n (a5t (K:=K) rfl PySem.F.plainAttrs_list PySem.F.slot_list_append PySem.F.type_list_append a9v (a0h 4) (a0c (a1b (a1y (K:=K) rfl) (a0h 2) (a1p (a2m (a0h 7))) (fun _ _=>rfl)) a0a))))))))))
  (a0e (a0i (a0h 4))))))))),?_⟩
 refine⟨sz rfl,fun p1 H1 g1=>?_⟩
 refine⟨sz rfl,fun p2 H2 g2=>?_⟩
 refine⟨_,_,.of (g2.sm _ _ g1.at_),g2.lst,sz rfl,fun pe H3 g3=>?_⟩
 have s3:=g1.sm.trans (g2.sm.trans g3.sm)
 refine⟨p,c,M,cs,rfl,mod.mono s3,s3.seq hc,by omega,fun q ts H4 s4 hq lt le ht=>?_⟩
 refine⟨sz rfl,fun p5 H5 g5=>?_⟩
 have s5:=s3.trans (s4.trans g5.sm)
 have he:=(s4.trans g5.sm) _ _ g3.at_
 have hq5:=g5.sm _ _ hq
 refine⟨c,_,rfl,s5.seq hc,c2b (K:=K) (a:=c) (xs:=cs.map V.int) (fun i σ H'=>a1l H4 H'/\∃ (r:Addr) (xs:List Int) (g:Int) (v6 v7 v8 v9 v10:Option V),H4 r=none/\H' r=some (.lst (xs.map V.int))/\b5u xs/\xs.length<=6*i/\PgK D g/\σ=[some (.ref p),some (.ref c),some (.ref pe),some (.ref q),some (.ref r),some (.int g),v6,v7,v8,v9,v10]) ⟨g5.sm,p5,[],0,_,_,_,_,_,g5.nw,g5.at_,(fun x h=>nomatch h),Nat.le_refl _,e8u D,rfl⟩ (fun i σ H' _ z=>((s3.trans s4).trans z.1).seq hc) ?_ ?_⟩
 ·rintro i x p6 σ H6 H7 hx ⟨s6,r,xs,g,v6,v7,v8,v9,v10,nr,hr6,bx,lx,pg,rfl⟩ g7
  obtain⟨n,hn,rfl⟩:=a6p hx
  have hi:i < cs.length:=(List.getElem?_eq_some_iff.mp hn).1
  refine⟨p6,_,rfl,g7.tup,rfl,_,_,rfl,_,_,rfl,rfl,?_⟩
  have s7:=s6.trans g7.sm
  have s07:=(s3.trans s4).trans s7
  have hr7:=g7.sm _ _ hr6
  have hq7:=s7 _ _ hq
  refine⟨sz rfl,fun p8 H8 g8=>?_⟩
  refine c1b (ns:=ts) (ms:=[]) (.of (g8.sm _ _ hq7)) g8.lst ?_
  refine a1v (fun z=>?_) (fun z=>?_)
  ·refine a1v (fun y=>?_) (fun y=>?_)
   ·have z : ¬ ts=[]:=fun e=>by have z:(!decide (ts=[]))=true:=z; rw[decide_eq_true e]at z; cases z
    have lts:=le.resolve_left z
    have s8:=s7.trans g8.sm
    obtain⟨m,hm⟩ : ∃ m,ts[i]? = some m:=⟨_,List.getElem?_eq_getElem (by omega)⟩
    have hI:=ht D mt m (List.mem_of_getElem? hm)
    refine⟨_,.int m,.inl (.of (s8 _ _ hq)),a1f (j:=i) (by rw[List.getElem?_map,hm]; rfl),?_⟩
    refine⟨p,M,D,m,g,rfl,mod.mono ((s3.trans s4).trans s8),mt,hI,pg,fun pr q1 H9 s9 nq1 hq1 hpr=>?_⟩
    refine⟨pr,_,rfl,.of hpr,rfl,_,_,rfl,_,_,rfl,rfl,?_⟩
    obtain⟨r1,g',eO,ef,pg',sl⟩:=e9g ok.kok pg hI
    have by1:=f5t ok pg hI
    have ps1:=e9f ok.kok pg hI
    rw[ef]at hq1 hpr by1 ps1
    dsimp only at hq1 hpr by1 ps1
    rw[ef]
    dsimp only [b5k]
    refine b0u (fun σ' H'=>∃ (q2:Addr) (x2:List Int) (g2:Int) (v10:Option V),a1l H9 H'/\H' q2=some (.lst (x2.map V.int))/\b5u x2/\x2.length<=6/\PgK D g2/\σ'=[some (.ref p),some (.ref c),some (.ref pe),some (.ref q),some (.ref r),some (.int g2),some (.int (i:Int)),some (.int n),some (.int (n / 8%5)),some (.ref q2),v10]) (fun nx hn=>?_) ?_
    ·refine a1v (fun _=>?_) (fun _=>?_)
     ·refine⟨_,.inl (.of hq1),?_⟩
      rw[List.length_map]
      refine⟨by omega,?_⟩
      refine⟨_,rfl,_,.of hq1,fun q2 H10 g10=>?_⟩
      rw[a5p]at g10
      exact hn _ _ ⟨q2,_,g,_,g10.sm,g10.at_,(fun x hx=>by1 x (e5p hx)),Nat.le_trans (f8q _ _ _) sl,pg,rfl⟩
     ·exact hn _ _ ⟨q1,r1,g',_,a1l.refl _,hq1,by1,sl,pg',rfl⟩
    ·rintro σ' H10 ⟨q2,x2,g2,v10',s10,hq2,by2,l2,pg2,rfl⟩
     have s810:=s9.trans s10
     refine⟨_,_,.of (s810 _ _ (g8.sm _ _ hr7)),.of hq2,szl (by rw[List.length_map,List.length_map]; omega),fun q3 H11 g11=>?_⟩
     have hg:=g11.at_
     rw[<- List.map_append]at hg
     exact⟨(s8.trans s810).trans g11.sm,q3,xs++x2,g2,_,_,_,_,_,(s8.trans s810).free g11.nw,hg,f8t bx by2,by rw[List.length_append]; omega,pg2,rfl⟩
   ·have s8:=s7.trans g8.sm
    have hr8:=g8.sm _ _ hr7
    refine a1v (fun _=>?_) (fun _=>?_)
    ·refine⟨.inl ⟨rfl,_,.of hr8⟩,?_⟩
     refine⟨_,hr8,e1m (by rw[List.length_map]; omega),?_⟩
     exact⟨s8.put nr,r,xs++[n / 40%256],g,_,_,_,_,_,nr,by rw[a0v,List.map_append]; rfl,b1d bx (by omega) (by omega),by rw[List.length_append]; show _+1<=_; omega,pg,rfl⟩
    ·refine⟨.inl ⟨rfl,_,.of hr8⟩,?_⟩
     obtain⟨v,hv,e1,_⟩:=e6f (xs:=(([0,65,127,128,143,144,159,160,187,188,191,192,193,194,216,219,220,223,224,237,238,239,240,244,245,253,254,255]:List Int).map V.int)) (i:=n / 40%28) (by omega) (by simp; omega)
     obtain⟨b,hb,rfl⟩:=List.mem_map.mp hv
     have hb:=g0b b hb
     refine⟨_,_,.inl (.of ((s4.trans s8) _ _ g3.at_)),e1,?_⟩
     refine⟨_,hr8,e1m (by rw[List.length_map]; omega),?_⟩
     exact⟨s8.put nr,r,xs++[b],g,_,_,_,_,_,nr,by rw[a0v,List.map_append]; rfl,b1d bx hb.1 hb.2,by rw[List.length_append]; show _+1<=_; omega,pg,rfl⟩
  ·refine g7o ?_
   have s8:=s7.trans g8.sm
   have hr8:=g8.sm _ _ hr7
   refine a1v (fun _=>?_) (fun _=>?_)
   ·refine⟨.inl ⟨rfl,_,.of hr8⟩,?_⟩
    refine⟨_,hr8,e1m (by rw[List.length_map]; omega),?_⟩
    exact⟨s8.put nr,r,xs++[n / 40%256],g,_,_,_,_,_,nr,by rw[a0v,List.map_append]; rfl,b1d bx (by omega) (by omega),by rw[List.length_append]; show _+1<=_; omega,pg,rfl⟩
   ·refine⟨.inl ⟨rfl,_,.of hr8⟩,?_⟩
    obtain⟨v,hv,e1,_⟩:=e6f (xs:=(([0,65,127,128,143,144,159,160,187,188,191,192,193,194,216,219,220,223,224,237,238,239,240,244,245,253,254,255]:List Int).map V.int)) (i:=n / 40%28) (by omega) (by simp; omega)
    obtain⟨b,hb,rfl⟩:=List.mem_map.mp hv
    have hb:=g0b b hb
    refine⟨_,_,.inl (.of ((s4.trans s8) _ _ g3.at_)),e1,?_⟩
    refine⟨_,hr8,e1m (by rw[List.length_map]; omega),?_⟩
    exact⟨s8.put nr,r,xs++[b],g,_,_,_,_,_,nr,by rw[a0v,List.map_append]; rfl,b1d bx hb.1 hb.2,by rw[List.length_append]; show _+1<=_; omega,pg,rfl⟩
 ·rintro σ H6 ⟨s6,r,xs,g,v6,v7,v8,v9,v10,nr,hr6,bx,lx,pg,rfl⟩
  exact k r xs H6 ((s3.trans s4).trans s6) hr6 bx (by rw[List.length_map]at lx; omega)
structure Rz (t:Adr) (H:Hp) (x dx o b mt y:Addr) (g:Int) (c:Nat) (r:List Int) (L:FL):Prop where
 nbm:b≠mt
 hx:H x=some (RdO t dx o b mt y g c false)
 hb:H b=some (.lst (r.map V.int))
 ft:FtA H mt L
theorem Rz.mono{H H':Hp}{x dx o b mt y:Addr}{g:Int}{c:Nat}{r:List Int}{L:FL}(R:Rz t H x dx o b mt y g c r L)(s:a1l H H'):Rz t H' x dx o b mt y g c r L:=⟨R.nbm,s _ _ R.hx,s _ _ R.hb,R.ft.mono s⟩
theorem Rz.lst{H H':Hp}{x dx o b mt y a:Addr}{g:Int}{c:Nat}{r:List Int}{L:FL}{xs:List V}(R:Rz t H x dx o b mt y g c r L)(n1:a≠b)(n2:a≠mt)(s:a1l (wo H [x,b,mt]) H')(h:H a=some (.lst xs)):H' a=some (.lst xs):=s _ _ (wo3 (a1o h R.hx (by intro z; cases z)) n1 n2 h)
theorem Rz.tup{H H':Hp}{x dx o b mt y a:Addr}{g:Int}{c:Nat}{r:List Int}{L:FL}{xs:List V}(R:Rz t H x dx o b mt y g c r L)(s:a1l (wo H [x,b,mt]) H')(h:H a=some (.tup xs)):H' a=some (.tup xs):=s _ _ (wo3 (a1o h R.hx (by intro z; cases z)) (a1o h R.hb (by intro z; cases z)) (a1o h R.ft.1 (by intro z; cases z)) h)
theorem Rz.ins{H H':Hp}{x dx o b mt y a:Addr}{g:Int}{c:Nat}{r:List Int}{L:FL}{C d:Addr}{fs:List (Str × V)}(R:Rz t H x dx o b mt y g c r L)(n:a≠x)(s:a1l (wo H [x,b,mt]) H')(h:H a=some (.ins C d fs)):H' a=some (.ins C d fs):=s _ _ (wo3 n (a1o h R.hb (by intro z; cases z)) (a1o h R.ft.1 (by intro z; cases z)) h)
theorem Rz.fts{H H':Hp}{x dx o b mt y m:Addr}{g:Int}{c:Nat}{r:List Int}{L L':FL}(R:Rz t H x dx o b mt y g c r L)(n1:m≠b)(n2:m≠mt)(s:a1l (wo H [x,b,mt]) H')(h:FtA H m L'):FtA H' m L':=⟨R.lst n1 n2 s h.1,fun z hz=>R.tup s (h.2 z hz)⟩
theorem Rz.keep{H H':Hp}{x dx o b mt y x2 dx2 o2 b2 mt2 y2:Addr}{g g2:Int}{c c2:Nat}{r r2:List Int}{L L2:FL}(R:Rz t H x dx o b mt y g c r L)(R2:Rz t H x2 dx2 o2 b2 mt2 y2 g2 c2 r2 L2)(nx:x2≠x)(n1:b2≠b)(n2:b2≠mt)(n3:mt2≠b)(n4:mt2≠mt)(s:a1l (wo H [x,b,mt]) H'):Rz t H' x2 dx2 o2 b2 mt2 y2 g2 c2 r2 L2:=⟨R2.nbm,R.ins nx s R2.hx,R.lst n1 n2 s R2.hb,R.fts n3 n4 s R2.ft⟩
theorem b2t{H:Hp}{p a:Addr}{u:HO}(n:H p=none)(h:H a=some u):p≠a:=(a0l h n).symm
noncomputable def evs(D:Kt)(bs:List Int):List Ev:=(run D 0 [] 0 bs).2.2++enE (0+bs.length) (run D 0 [] 0 bs).2.1
structure Bth (t:Adr) (Hb H:Hp) (x1 dx1 b1 mt1 y1 x2 dx2 b2 mt2 y2 o f1 f2:Addr) (D:Kt) (W1 W2:Wy) (bs:List Int) (L1 L2:FL):Prop where
 sm:a1l Hb H
 r1:Rz t H x1 dx1 o b1 mt1 y1 (run D 0 [] 0 bs).1 (0+bs.length) (run D 0 [] 0 bs).2.1 L1
 r2:Rz t H x2 dx2 o b2 mt2 y2 (run D 0 [] 0 bs).1 (0+bs.length) (run D 0 [] 0 bs).2.1 L2
 e1:L1.map (fun x=>x.2)=fts (run D 0 [] 0 bs).2.2
 e2:L2.map (fun x=>x.2)=fts (run D 0 [] 0 bs).2.2
 q1:H f1=some (.lst ((tld W1 (run D 0 [] 0 bs).2.2).map V.int))
 q2:H f2=some (.lst ((tld W2 (run D 0 [] 0 bs).2.2).map V.int))
 fb1:Hb b1=none
 fb2:Hb b2=none
 d1:b1≠b2
 d2:b1≠mt2
 d3:mt1≠b2
 u1:f1≠b1/\f1≠mt1/\f1≠b2/\f1≠mt2
 u2:f2≠b1/\f2≠mt1/\f2≠b2/\f2≠mt2
theorem e5j(L:List (Addr × List Int))(i:Nat) : ∃ z,flt L=flt (L.take i)++z:=⟨flt (L.drop i),by
 unfold flt
 rw[<- List.flatten_append,<- List.map_append,List.take_append_drop]⟩
def g9q(t:Adr):Sp:=fun vs H Q _=>∃ (Hb:Hp) (x1 dx1 b1 mt1 y1 x2 dx2 b2 mt2 y2 o a:Addr) (D:Kt) (W1 W2:Wy) (L:List (Addr × List Int)),vs=[.ref x1,.ref x2,.ref a]/\a1l Hb H/\TN t Hb o D/\WyA t Hb y1 W1/\WyA t Hb y2 W2/\PcA Hb a L/\b5u (flt L)/\(flt L).length<=1000 /\
 Hb x1=none/\Hb b1=none/\Hb mt1=none/\Hb x2=none/\Hb b2=none/\Hb mt2=none/\x2≠x1/\b1≠b2/\b1≠mt2/\mt1≠b2/\mt1≠mt2/\Rz t H x1 dx1 o b1 mt1 y1 0 0 [] []/\Rz t H x2 dx2 o b2 mt2 y2 0 0 [] [] /\
 ∀ (p q1 q2 c1 c2:Addr) (L1 L2:FL) (g:Int) (n:Nat) H',a1l Hb H'->H' p=some (.tup [.ref q1,.ref q2])->H' q1=some (.lst ((tld W1 (evs D (flt L))).map V.int))->H' q2=some (.lst ((tld W2 (evs D (flt L))).map V.int)) ->
  H' x1=some (RdO t dx1 o c1 mt1 y1 g n true)->FtA H' mt1 L1->L1.map (fun x=>x.2)=fts (evs D (flt L))->H' x2=some (RdO t dx2 o c2 mt2 y2 g n true)->FtA H' mt2 L2->L2.map (fun x=>x.2)=fts (evs D (flt L))->Q (.ref p) H'
theorem d6n (T:Txt w K mg t):Has P w K mg base "_law_read_both" 14 t.b9v t.b8u ["_law_reader", "_law_other", "_law_pieces_here"] (g9q t):=by
 refine⟨T.d6w,T.c6m.kp,T.d7r,T.c6m.okQ a6x (fun vs H Q E h=>by obtain⟨Hb,x1,dx1,b1,mt1,y1,x2,dx2,b2,mt2,y2,o,a,D,W1,W2,L,rfl,_⟩:=h; rfl) fun cdv A outer s H vs Q E hr h=>?_⟩
 obtain⟨Hb,x1,dx1,b1,mt1,y1,x2,dx2,b2,mt2,y2,o,a,D,W1,W2,L,rfl,sb,tn,wy1,wy2,pc,hby,lby,fx1,fb1,fm1,fx2,fb2,fm2,nx,d1,d2,d3,d4,R1,R2,k⟩:=h
 have hu:=hr.units
 have ok:=tn.koS
 refine⟨_,(a0b (a0r (i:=3) a6x.nd rfl (by first | exact Or.inl rfl | exact Or.inr rfl) (a0y a0a))
  (a0b (a0r (i:=4) a6x.nd rfl (by first | exact Or.inl rfl | exact Or.inr rfl) (a0y a0a))
  (a0b (a4x PassesOwn.never rfl (a2q (K:=K) rfl (a0h 2)) (a0x (i:=5) a6x.nd rfl (by first | exact Or.inl rfl | exact Or.inr rfl)) (a0b (a0r (i:=3) a6x.nd rfl (by first | exact Or.inl rfl | exact Or.inr rfl) (a0q (a1r (K:=K) rfl) (a0h 3) (a4e (a4f (a9g T) hr (a0h 0) (a0c (a0h 5) a0a)) (a4f (a7n T) hr (a0h 0) (a0c (a0h 5) a0a)))))
  (a0e (a0r (i:=4) a6x.nd rfl (by first | exact Or.inl rfl | exact Or.inr rfl) (a0q (a1r (K:=K) rfl) (a0h 4) (a4e (a4f (a9g T) hr (a0h 1) (a0c (a0h 5) a0a)) (a4f (a7n T) hr (a0h 1) (a0c (a0h 5) a0a))))))))
  (a0e (a0i (a1u (a0c (a0q (a1r (K:=K) rfl) (a0h 3) (a2l (b1q T) hr (a0h 0))) (a0c (a0q (a1r (K:=K) rfl) (a0h 4) (a2l (b1q T) hr (a0h 1))) a0a)))))))),?_⟩
 refine⟨sz rfl,fun f1 H1 g1=>?_⟩
 refine⟨sz rfl,fun f2 H2 g2=>?_⟩
 have s2:=g1.sm.trans g2.sm
 have acc : ∀ i,b5u (flt (L.take i))/\(flt (L.take i)).length<=1000:=fun i=>by
  obtain⟨z,e⟩:=e5j L i
  rw[e]at hby lby
  rw[List.length_append]at lby
  exact⟨fun x hx=>hby x (List.mem_append_left _ hx),by omega⟩
 have lst3 : ∀ (W:Wy) i,((tld W (run D 0 [] 0 (flt (L.take i))).2.2).map V.int).length<=3000:=fun W i=>by
  have:=e2k ok W (r:=[]) 0 (e8u D) (Bgn.nil _ _) (acc i).1
  have:=(acc i).2
  rw[List.length_map]
  have e:([]:List Int).length=0:=rfl
  omega
 have lFL : ∀ (L1:FL) i,L1.map (fun x=>x.2)=fts (run D 0 [] 0 (flt (L.take i))).2.2->L1.length<=2000:=fun L1 i e=>by
  have:=congrArg List.length e
  rw[List.length_map]at this
  have:=c7k (run D 0 [] 0 (flt (L.take i))).2.2
  obtain⟨_,_,_,_,_,h6⟩:=b3s ok (flt (L.take i)) 0 [] 0 (e8u D) (Bgn.nil _ _) (acc i).1
  have:=(acc i).2
  omega
 have lcr : ∀ i,(run D 0 [] 0 (flt (L.take i))).2.1.length<=0+(flt (L.take i)).length:=fun i=>by
  obtain⟨_,_,h3,_,_,_⟩:=b3s ok (flt (L.take i)) 0 [] 0 (e8u D) (Bgn.nil _ _) (acc i).1
  have:=congrArg List.length h3
  rw[List.length_append,List.length_append]at this
  have e:([]:List Int).length=0:=rfl
  omega
 have ha : ∀ H',a1l Hb H'->SqL K H' a (L.map fun x=>V.ref x.1):=fun H' s=>.of (s _ _ pc.1)
 refine⟨a,rfl,⟨_,ha _ (sb.trans s2)⟩,b8t (K:=K) (a:=a) (xs:=L.map fun x=>V.ref x.1) (fun i σ H'=>∃ (b1 b2 f1 f2:Addr) (L1 L2:FL) (v5:Option V),Bth t Hb H' x1 dx1 b1 mt1 y1 x2 dx2 b2 mt2 y2 o f1 f2 D W1 W2 (flt (L.take i)) L1 L2/\σ=[some (.ref x1),some (.ref x2),some (.ref a),some (.ref f1),some (.ref f2),v5])
  ⟨b1,b2,f1,f2,[],[],_,⟨sb.trans s2,R1.mono s2,R2.mono s2,rfl,rfl,g2.sm _ _ g1.at_,g2.at_,fb1,fb2,d1,d2,d3,⟨b2t g1.nw R1.hb,b2t g1.nw R1.ft.1,b2t g1.nw R2.hb,b2t g1.nw R2.ft.1⟩,⟨b2t g2.nw (g1.sm _ _ R1.hb),b2t g2.nw (g1.sm _ _ R1.ft.1),b2t g2.nw (g1.sm _ _ R2.hb),b2t g2.nw (g1.sm _ _ R2.ft.1)⟩⟩,rfl⟩ (fun i σ H' _ z=>by obtain⟨_,_,_,_,_,_,_,B,_⟩:=z; exact ha _ B.sm) ?_ ?_⟩
 ·rintro i v σ H3 hv ⟨b1,b2,f1,f2,L1,L2,v5,B,rfl⟩
  rw[List.getElem?_map]at hv
  cases hL:L[i]? with
  | none=>rw[hL]at hv; cases hv
  | some e =>
  rw[hL]at hv
  cases hv
  obtain⟨_,he⟩:=pc.2 e (List.mem_of_getElem? hL)
  have ef:flt (L.take (i+1))=flt (L.take i)++e.2:=by rw[a5w hL,c9p]
  have a1:=acc (i+1)
  rw[ef,List.length_append]at a1
  have hws:b5u e.2:=fun x hx=>a1.1 x (List.mem_append_right _ hx)
  obtain⟨pg,bg,_,_,_,_⟩:=b3s ok (flt (L.take i)) 0 [] 0 (e8u D) (Bgn.nil _ _) (acc i).1
  have nxt:=e9u D (flt (L.take i)) e.2 0 [] 0
  have lw3 : ∀ W:Wy,((tld W (run D (run D 0 [] 0 (flt (L.take i))).1 (run D 0 [] 0 (flt (L.take i))).2.1 (0+(flt (L.take i)).length) e.2).2.2).map V.int).length<=4000:=fun W=>by
   have:=e2k ok W (0+(flt (L.take i)).length) pg bg hws
   have:=(bg.byts pg).2
   rw[List.length_map]
   omega
  have sw1:a1l Hb (wo H3 [x1,b1,mt1]):=c8r B.sm fx1 B.fb1 fm1
  refine .inr ⟨x1,dx1,_,rfl,B.r1.hx,rfl,wo H3 [x1,b1,mt1],x1,dx1,o,b1,mt1,y1,e.1,D,W1,_,_,_,L1,e.2,rfl,⟨tn.mono sw1,wy1.mono sw1,b8j,b3b (by simp),b3b (by simp),b3b (by simp),B.r1.nbm,B.r1.hx,B.r1.hb,B.r1.ft,pg,bg,lcr i⟩,sw1.seq (.of he),hws,by omega,by have:=lFL L1 i B.e1; omega,fun q4 c1 ps1 H4 s4 nq4 fc1 nbm1 nqb hx4 hb4 ft4 eps1 hq4=>?_⟩
  have hf1:=B.r1.lst B.u1.1 B.u1.2.1 s4 B.q1
  refine⟨_,_,.of hf1,.of hq4,szl (by have:=lst3 W1 i; have:=lw3 W1; omega),fun p5 H5 g5=>?_⟩
  have R24:=B.r1.keep B.r2 nx B.d1.symm B.d3.symm B.d2.symm d4.symm s4
  have hf2:=B.r1.lst B.u2.1 B.u2.2.1 s4 B.q2
  have n41:c1≠b2:=fun z=>by
   have:=wo3 (H:=H3) (a1o B.r2.hb B.r1.hx (by intro z; cases z)) B.d1.symm B.d3.symm B.r2.hb
   rw[<- z,fc1]at this; cases this
  have n42:c1≠mt2:=fun z=>by
   have:=wo3 (H:=H3) (a1o B.r2.ft.1 B.r1.hx (by intro z; cases z)) B.d2.symm d4.symm B.r2.ft.1
   rw[<- z,fc1]at this; cases this
  have n43:c1≠f2:=fun z=>by
   have:=wo3 (H:=H3) (a1o B.q2 B.r1.hx (by intro z; cases z)) B.u2.1 B.u2.2.1 B.q2
   rw[<- z,fc1]at this; cases this
  have R15:Rz t H5 x1 dx1 o c1 mt1 y1 _ _ _ (L1++ps1):=(Rz.mk nbm1 hx4 hb4 ft4).mono g5.sm
  have R25:=R24.mono g5.sm
  have s5:a1l Hb H5:=sw1.trans (s4.trans g5.sm)
  have sw2:a1l Hb (wo H5 [x2,b2,mt2]):=c8r s5 fx2 B.fb2 fm2
  refine .inr ⟨x2,dx2,_,rfl,R25.hx,rfl,wo H5 [x2,b2,mt2],x2,dx2,o,b2,mt2,y2,e.1,D,W2,_,_,_,L2,e.2,rfl,⟨tn.mono sw2,wy2.mono sw2,b8j,b3b (by simp),b3b (by simp),b3b (by simp),R25.nbm,R25.hx,R25.hb,R25.ft,pg,bg,lcr i⟩,sw2.seq (.of he),hws,by omega,by have:=lFL L2 i B.e2; omega,fun q6 c2 ps2 H6 s6 nq6 fc2 nbm2 nqb2 hx6 hb6 ft6 eps2 hq6=>?_⟩
  have hf25:=g5.sm _ _ hf2
  have hf26:=R25.lst B.u2.2.2.1 B.u2.2.2.2 s6 hf25
  refine⟨_,_,.of hf26,.of hq6,szl (by have:=lst3 W2 i; have:=lw3 W2; omega),fun p7 H7 g7=>?_⟩
  have R16:=R25.keep R15 nx.symm n41 n42 B.d3 d4 s6
  have n5b:p5≠b2:=b2t g5.nw R24.hb
  have n5m:p5≠mt2:=b2t g5.nw R24.ft.1
  have hp56:=R25.lst n5b n5m s6 g5.at_
  have o1:c2≠c1:=fun z=>by
   have:=wo3 (H:=H5) (a1o R15.hb R25.hx (by intro z; cases z)) n41 n42 R15.hb
   rw[<- z,fc2]at this; cases this
  have o2:c2≠mt1:=fun z=>by
   have:=wo3 (H:=H5) (a1o R15.ft.1 R25.hx (by intro z; cases z)) B.d3 d4 R15.ft.1
   rw[<- z,fc2]at this; cases this
  have o3:c2≠p5:=fun z=>by
   have:=wo3 (H:=H5) (a1o g5.at_ R25.hx (by intro z; cases z)) n5b n5m g5.at_
   rw[<- z,fc2]at this; cases this
  have el:0+(flt (L.take i)++e.2).length=0+(flt (L.take i)).length+e.2.length:=by rw[List.length_append]; omega
  refine⟨c1,c2,p5,p7,L1++ps1,L2++ps2,_,?_,rfl⟩
  rw[ef]
  refine⟨sw2.trans (s6.trans g7.sm),?_,?_,?_,?_,?_,?_,sw1.free fc1,sw2.free fc2,o1.symm,n42,o2.symm,⟨b2t g5.nw hb4,b2t g5.nw ft4.1,o3.symm,n5m⟩,⟨b2t g7.nw R16.hb,b2t g7.nw R16.ft.1,b2t g7.nw hb6,b2t g7.nw ft6.1⟩⟩
  ·rw[nxt,el]; exact R16.mono g7.sm
  ·rw[nxt,el]; exact (Rz.mk nbm2 hx6 hb6 ft6).mono g7.sm
  ·rw[nxt,List.map_append,B.e1,eps1,b8s]
  ·rw[nxt,List.map_append,B.e2,eps2,b8s]
  ·rw[nxt,b8k,List.map_append]; exact g7.sm _ _ hp56
  ·rw[nxt,b8k,List.map_append]; exact g7.at_
 ·rintro σ H3 ⟨b1,b2,f1,f2,L1,L2,v5,B,rfl⟩
  rw[List.length_map,List.take_length]at B
  have lst3:=fun W=>lst3 W L.length
  have lFL:=fun L1=>lFL L1 L.length
  have lcr:=lcr L.length
  rw[List.take_length]at lst3 lFL lcr
  obtain⟨pg,bg,_,_,_,_⟩:=b3s ok (flt L) 0 [] 0 (e8u D) (Bgn.nil _ _) hby
  have l6:=(bg.byts pg).2
  have len6 : ∀ W:Wy,((tld W (enE (0+(flt L).length) (run D 0 [] 0 (flt L)).2.1)).map V.int).length<=20:=fun W=>by
   rw[List.length_map]
   unfold enE
   split
   ·exact Nat.zero_le _
   ·have:=e4k W [.ft (0+(flt L).length - (run D 0 [] 0 (flt L)).2.1.length) (run D 0 [] 0 (flt L)).2.1.length "short" (run D 0 [] 0 (flt L)).2.1]
    have e:(tld .se [.ft (0+(flt L).length - (run D 0 [] 0 (flt L)).2.1.length) (run D 0 [] 0 (flt L)).2.1.length "short" (run D 0 [] 0 (flt L)).2.1]).length=(run D 0 [] 0 (flt L)).2.1.length:=by simp[tld,tl1,tlB]
    simp at this e ⊢
    omega
  have sw1:a1l Hb (wo H3 [x1,b1,mt1]):=c8r B.sm fx1 B.fb1 fm1
  refine⟨x1,dx1,_,rfl,B.r1.hx,rfl,wo H3 [x1,b1,mt1],x1,dx1,o,b1,mt1,y1,D,W1,_,_,_,L1,rfl,⟨tn.mono sw1,wy1.mono sw1,b8j,b3b (by simp),b3b (by simp),b3b (by simp),B.r1.nbm,B.r1.hx,B.r1.hb,B.r1.ft,pg,bg,lcr⟩,by have:=lFL L1 B.e1; omega,fun q4 c1 ps1 H4 s4 nq4 hx4 ft4 eps1 hq4=>?_⟩
  have hf1:=B.r1.lst B.u1.1 B.u1.2.1 s4 B.q1
  refine⟨_,_,.of hf1,.of hq4,szl (by have:=lst3 W1; have:=len6 W1; omega),fun p5 H5 g5=>?_⟩
  have R24:=B.r1.keep B.r2 nx B.d1.symm B.d3.symm B.d2.symm d4.symm s4
  have hf2:=B.r1.lst B.u2.1 B.u2.2.1 s4 B.q2
  have R25:=R24.mono g5.sm
  have s5:a1l Hb H5:=sw1.trans (s4.trans g5.sm)
  have sw2:a1l Hb (wo H5 [x2,b2,mt2]):=c8r s5 fx2 B.fb2 fm2
  refine⟨x2,dx2,_,rfl,R25.hx,rfl,wo H5 [x2,b2,mt2],x2,dx2,o,b2,mt2,y2,D,W2,_,_,_,L2,rfl,⟨tn.mono sw2,wy2.mono sw2,b8j,b3b (by simp),b3b (by simp),b3b (by simp),R25.nbm,R25.hx,R25.hb,R25.ft,pg,bg,lcr⟩,by have:=lFL L2 B.e2; omega,fun q6 c2 ps2 H6 s6 nq6 hx6 ft6 eps2 hq6=>?_⟩
  have hf26:=R25.lst B.u2.2.2.1 B.u2.2.2.2 s6 (g5.sm _ _ hf2)
  refine⟨_,_,.of hf26,.of hq6,szl (by have:=lst3 W2; have:=len6 W2; omega),fun p7 H7 g7=>?_⟩
  have hp56:=R25.lst (b2t g5.nw R24.hb) (b2t g5.nw R24.ft.1) s6 g5.at_
  have hx16:=R25.ins nx.symm s6 (g5.sm _ _ hx4)
  have ft16:=R25.fts B.d3 d4 s6 (ft4.mono g5.sm)
  refine⟨sz rfl,fun p8 H8 g8=>?_⟩
  have s8:=g7.sm.trans g8.sm
  refine k p8 p5 p7 c1 c2 (L1++ps1) (L2++ps2) _ _ H8 (sw2.trans (s6.trans s8)) g8.at_ ?_ ?_ (s8 _ _ hx16) (ft16.mono s8) ?_ (s8 _ _ hx6) (ft6.mono s8) ?_
  ·unfold evs; rw[b8k,List.map_append]; exact s8 _ _ hp56
  ·unfold evs; rw[b8k,List.map_append]; exact g8.sm _ _ g7.at_
  ·unfold evs; rw[List.map_append,B.e1,eps1,b8s]
  ·unfold evs; rw[List.map_append,B.e2,eps2,b8s]
theorem Kp.same{x:Addr}{H0 H H':Hp}(s:a1l H0 H)(k:Kp x H H')(n:H0 x=none):a1l H0 H':=fun a u e=>k a u (a0l e n) (s a u e)
def h3t(K:PySem.W.Frag)(t:Adr):Sp:=fun vs H Q _=>∃ (o a:Addr) (c:Int) (D:Kt) (xs:List Int),vs=[.ref o,.ref a,.int c]/\TN t H o D/\SqL K H a (xs.map V.int)/\xs.length<=1000/\(∀ x∈xs,Thg D x)/\∀ p H',a1l H H'->H' p=some (.lst ((wrS D 0 xs).1.map V.int))->Q (.ref p) H'
theorem d0z (T:Txt w K mg t):Has P w K mg base "_law_written" 14 t.c4q t.c3z ["_law_tongue_here", "_law_text_here", "_law_cell"] (h3t K t):=by
 refine⟨T.e2y,T.d3l.kp,T.e3y,T.d3l.okQ b2r (fun vs H Q E h=>by obtain⟨o,a,c,D,xs,rfl,_⟩:=h; rfl) fun cdv A outer s H vs Q E hr h=>?_⟩
 obtain⟨o,a,c,D,xs,rfl,tn,ha,lx,hth,k⟩:=h
 have hu:=hr.units
 have ok:=tn.koS
 refine⟨_,(a0b (a0r (i:=3) b2r.nd rfl (by first | exact Or.inl rfl | exact Or.inr rfl) (b6i (d0w T) hr (a0c (a0h 0) a0a)))
  (a0b (a0r (i:=4) b2r.nd rfl (by first | exact Or.inl rfl | exact Or.inr rfl) (a0y a0a))
  (a0b (a4x PassesOwn.never rfl (a2q (K:=K) rfl (a2a (d5b T) hr (a0c (a0h 1) (a0c (a0h 2) a0a)))) (a0x (i:=5) b2r.nd rfl (by first | exact Or.inl rfl | exact Or.inr rfl)) (a0e (a0r (i:=4) b2r.nd rfl (by first | exact Or.inl rfl | exact Or.inr rfl) (a0q (a1r (K:=K) rfl) (a0h 4) (a4e (a4f (a9g T) hr (a0h 3) (a0c (a0h 5) a0a)) (a4f (a7n T) hr (a0h 3) (a0c (a0h 5) a0a)))))))
  (a0e (a0i (a0h 4)))))),?_⟩
 refine fun x dx hx hdx hne=>?_
 refine⟨x,dx,o,rfl,a0v,fun sp H1 k1 wr1 ss1 nsp=>⟨rfl,?_⟩⟩
 have s1:a1l H H1:=Kp.same (a5x hx hdx) k1 hx
 have nsx:sp≠x:=b2t nsp a0v
 refine⟨sz rfl,fun f H2 g2=>?_⟩
 have s2:=s1.trans g2.sm
 obtain⟨dx',hx1⟩:=wr1
 refine⟨a,c,xs,rfl,s2.seq ha,lx,fun pp L H3 s3 npp pc fr fl ll=>?_⟩
 have hx3:=s3 _ _ (g2.sm _ _ hx1)
 have ss3:=(ss1.mono g2.sm).mono s3
 have all : ∀ i,(∀ y∈flt (L.take i),Thg D y)/\(flt (L.take i)).length<=1000:=fun i=>by
  obtain⟨z,e⟩:=e5j L i
  rw[fl]at e
  rw[e]at hth lx
  rw[List.length_append]at lx
  exact⟨fun y hy=>hth y (List.mem_append_left _ hy),by omega⟩
 have len6 : ∀ (ys:List Int) (g:Int),PgK D g->(∀ y∈ys,Thg D y)->PgK D (wrS D g ys).2/\(wrS D g ys).1.length<=6*ys.length:=fun ys g pg h=>by
  have:=e1r ok ys.length ys g pg h
  rw[List.take_length]at this
  exact this
 have pcx : ∀ e∈L,e.1≠x:=fun e he=>a1o (pc.2 e he).2 hx3 (by intro z; cases z)
 have npx:pp≠x:=a1o pc.1 hx3 (by intro z; cases z)
 refine⟨pp,rfl,⟨_,.of pc.1⟩,b8t (K:=K) (a:=pp) (xs:=L.map fun x=>V.ref x.1) (fun i σ H'=>Kp x H3 H'/\∃ (f:Addr) (v5:Option V),Wr t H' x sp (wrS D 0 (flt (L.take i))).2/\H' f=some (.lst ((wrS D 0 (flt (L.take i))).1.map V.int))/\σ=[some (.ref o),some (.ref a),some (.int c),some (.ref x),some (.ref f),v5])
  ⟨Kp.of (a1l.refl _),f,_,⟨dx',hx3⟩,s3 _ _ g2.at_,rfl⟩ (fun i σ H' _ z=>.of (z.1 _ _ npx pc.1)) ?_ ?_⟩
 ·rintro i v σ H4 hv ⟨k4,f,v5,⟨d4,hx4⟩,hf4,rfl⟩
  rw[List.getElem?_map]at hv
  cases hL:L[i]? with
  | none=>rw[hL]at hv; cases hv
  | some e =>
  rw[hL]at hv
  cases hv
  have he:=List.mem_of_getElem? hL
  have ef:flt (L.take (i+1))=flt (L.take i)++e.2:=by rw[a5w hL,c9p]
  have a1:=all (i+1)
  rw[ef,List.length_append]at a1
  have h5 : ∀ y∈e.2,Thg D y:=fun y hy=>a1.1 y (List.mem_append_right _ hy)
  obtain⟨pg4,l4⟩:=len6 _ 0 (e8u D) (all i).1
  obtain⟨_,l5⟩:=len6 e.2 _ pg4 h5
  have hss:Ss t H4 sp o:=let ⟨d,z⟩:=ss3; ⟨d,k4 _ _ nsx z⟩
  have nfx:f≠x:=a1o hf4 hx4 (by intro z; cases z)
  have s4:a1l H H4:=Kp.same (s2.trans s3) k4 hx
  refine .inl ⟨x,d4,_,rfl,hx4,rfl,x,sp,o,e.1,D,e.2,_,rfl,⟨d4,hx4⟩,hss,tn.mono s4,pg4,.of (k4 _ _ (pcx e he) (pc.2 e he).2),by omega,h5,fun q H5 k5 nq wr5 hq=>?_⟩
  refine⟨_,_,.of (k5 _ _ nfx hf4),.of hq,szl (by rw[List.length_map,List.length_map]; omega),fun p6 H6 g6=>?_⟩
  obtain⟨d5,hx5⟩:=wr5
  refine⟨k4.trans (k5.trans (Kp.of g6.sm)),p6,_,?_,?_,rfl⟩
  ·rw[ef,b8i]; exact⟨d5,g6.sm _ _ hx5⟩
  ·rw[ef,b8i,List.map_append]; exact g6.at_
 ·rintro σ H4 ⟨k4,f,v5,wr4,hf4,rfl⟩
  rw[List.length_map,List.take_length,fl]at hf4
  exact k f H4 (Kp.same (s2.trans s3) k4 hx) hf4
theorem g8i{D:Kt}{g:Int}(c:Nat){r:List Int}(h:b5u r):(∀ e∈enE c r,Ok1 D e)/\wrS D g (tld .se (enE c r))=(r,g):=by
 unfold enE
 by_cases z:r=[]
 ·rw[if_pos z,z]; exact⟨(fun _ h=>nomatch h),rfl⟩
 ·rw[if_neg z]
  refine⟨fun e he=>by rw[List.mem_singleton.mp he]; exact⟨h,rfl⟩,?_⟩
  show wrS D g ((r.map fun b=>61184+b)++[])=_
  rw[List.append_nil,c5d D g r h]
theorem g8g{D:Kt}(ok:KoS D){bs:List Int}(h:b5u bs):(∀ e∈evs D bs,Ok1 D e)/\(wrS D 0 (tld .se (evs D bs))).1=bs:=by
 obtain⟨pg,bg,h3,h4,h5,_⟩:=b3s ok bs 0 [] 0 (e8u D) (Bgn.nil _ _) h
 obtain⟨e1,e2⟩:=g8i (D:=D) (g:=(run D 0 [] 0 bs).1) (0+bs.length) (bg.byts pg).1
 refine⟨fun e he=>(List.mem_append.mp he).elim (h5 e) (e1 e),?_⟩
 unfold evs
 rw[b8k,b8i,h4,e2]
 exact h3
theorem e9a{D:Kt}(ok:KoS D) : ∀ es:List Ev,(∀ e∈es,Ok1 D e)->(tld .se es).filter (fun x=>decide (x < 61184) || decide (x > 61439))=tld .lv es
 | [],_=>rfl
 | e :: es,h=>by
  have ih:=e9a ok es fun x hx=>h x (List.mem_cons_of_mem _ hx)
  have o:=h e (List.mem_cons_self ..)
  show List.filter _ (tl1 .se e++tld .se es)=tl1 .lv e++tld .lv es
  rw[List.filter_append,ih]
  congr 1
  cases e with
  | sg n =>
   have:=g2r ok o
   unfold Sg at this
   show List.filter _ [n]=[n]
   rw[List.filter_cons_of_pos (by simp; omega)]
   rfl
  | ft p l k bs =>
   show List.filter _ (bs.map fun b=>61184+b)=[]
   refine List.filter_eq_nil_iff.mpr fun x hx=>?_
   obtain⟨b,hb,rfl⟩:=List.mem_map.mp hx
   have:=o.1 b hb
   simp
   omega
theorem e2b(n:Int) : ∀ es:List Ev,(tld (.pt n) es).length=(tld .lv es).length+(fts es).length
 | []=>rfl
 | .sg m :: es=>by
  have ih:=e2b n es
  show ([m]++tld (.pt n) es).length=([m]++tld .lv es).length+(fts es).length
  rw[List.length_append,List.length_append,ih]
  omega
 | .ft p l k bs :: es=>by
  have ih:=e2b n es
  show ([n]++tld (.pt n) es).length=([]++tld .lv es).length+((fts es).length+1)
  rw[List.length_append,List.length_append,ih]
  show 1+_=0+_+_
  omega
theorem d5w{D:Kt} : ∀ es:List Ev,(∀ e∈es,Ok1 D e)->((fts es).map fun x=>x.2.1).sum+(tld .lv es).length=(tld .se es).length
 | [],_=>rfl
 | .sg m :: es,h=>by
  have ih:=d5w es fun x hx=>h x (List.mem_cons_of_mem _ hx)
  show ((fts es).map fun x=>x.2.1).sum+([m]++tld .lv es).length=([m]++tld .se es).length
  rw[List.length_append,List.length_append]
  omega
 | .ft p l k bs :: es,h=>by
  have ih:=d5w es fun x hx=>h x (List.mem_cons_of_mem _ hx)
  have o:=(h _ (List.mem_cons_self ..)).2
  show (l+((fts es).map fun x=>x.2.1).sum)+([]++tld .lv es).length=((bs.map fun b=>61184+b)++tld .se es).length
  rw[List.length_append,List.length_append,List.length_map,o]
  show l+_+(0+_)=_
  omega
def Kd(k:Str):Prop:=k = "short"\/k = "broken"\/k = "strange"
theorem h0x{k:Str}(h:Kd k):PyData.strOk k=true:=by rcases h with rfl | rfl | rfl <;> decide +kernel
def KdE(es:List Ev):Prop:=∀ f∈fts es,Kd f.2.2
theorem KdE.app{xs ys:List Ev}(h:KdE xs)(g:KdE ys):KdE (xs++ys):=fun f hf=>by
 rw[b8s]at hf
 exact (List.mem_append.mp hf).elim (h f) (g f)
theorem f9t(D:Kt)(g:Int)(c:Nat)(r:List Int):KdE (lkO D g c r).2.2:=by
 unfold lkO
 cases lkA D g r with
 | sg n g'=>exact fun f hf=>nomatch hf
 | mo=>exact fun f hf=>nomatch hf
 | no=>exact fun f hf=>by rw[List.mem_singleton.mp hf]; exact .inr (.inr rfl)
theorem g7l(D:Kt)(g:Int)(c:Nat)(r:List Int):KdE (lkN D g c r).2.2:=by
 unfold lkN
 cases lkA D g r with
 | sg n g'=>exact fun f hf=>nomatch hf
 | mo=>exact fun f hf=>nomatch hf
 | no =>
  intro f hf
  rcases List.mem_cons.mp hf with rfl | hf
  ·exact .inr (.inl rfl)
  ·exact f9t D g c _ f hf
theorem g7k(D:Kt)(g:Int)(r:List Int)(c:Nat)(b:Int):KdE (stp D g r c b).2.2:=by
 unfold stp
 split
 ·split
  ·exact f9t D g c _
  ·exact g7l D g c _
 ·exact fun f hf=>nomatch hf
theorem f9s(D:Kt) : ∀ (bs:List Int) (g:Int) (r:List Int) (c:Nat),KdE (run D g r c bs).2.2
 | [],_,_,_=>fun f hf=>nomatch hf
 | b :: bs,g,r,c=>(g7k D g r (c+1) b).app (f9s D bs _ _ _)
theorem g7m(D:Kt)(bs:List Int):KdE (evs D bs):=(f9s D bs 0 [] 0).app (by
 unfold enE
 split
 ·exact fun f hf=>nomatch hf
 ·exact fun f hf=>by rw[List.mem_singleton.mp hf]; exact .inl rfl)
def dF(L:List (Nat × Nat × Str)):List PyData:=L.map fun x=>PyData.tuple [.int (x.1:Int),.int (x.2.1:Int),.str x.2.2]
theorem g0d : ∀ L:List (Nat × Nat × Str),(∀ x∈L,Kd x.2.2)->PyData.canLayAll0 (dF L)=true
 | [],_=>rfl
 | q :: r,h=>by
  have ih:=g0d r fun x hx=>h x (List.mem_cons_of_mem _ hx)
  have k:=h0x (h q (List.mem_cons_self ..))
  simp only [dF]at ih
  simp[dF,PyData.canLayAll0,PyData.canLay0,ih,k]
theorem e5n : ∀ L:List (Nat × Nat × Str),PyData.depthAll (dF L)<=1
 | []=>by decide
 | q :: r=>by
  have ih:=e5n r
  simp only [dF]at ih
  simp[dF,PyData.depthAll,PyData.depth]
  omega
theorem c5v{L:List (Nat × Nat × Str)}(h : ∀ x∈L,Kd x.2.2):SeqAt.shaped (.list (dF L))=true:=by
 have:=e5n L
 simp[SeqAt.shaped,PyData.canLay0,PyData.depth,g0d L h]
 omega
theorem g0c(L:List (Nat × Nat × Str)):PyData.eqv (.list (dF L)) (.list (dF L))=true:=by
 show PyData.eqvAll _ _=true
 induction L with
 | nil=>rfl
 | cons q r ih =>
  simp only [dF]at ih
  simp[dF,PyData.eqvAll,PyData.eqv,ih]
theorem d1v{H:Hp} : ∀ L:FL,(∀ q∈L,H q.1=some (.tup (ftV q.2)))->b3a K H (dF (L.map fun x=>x.2)) (L.map fun q=>V.ref q.1)
 | [],_=>.nil
 | q :: r,h=>.cons (a1j.tup (.of (h q (.head _))) (.cons (.int _) (.cons (.int _) (.cons (.str _) .nil)))) (d1v r fun x hx=>h x (.tail _ hx))
set_option maxHeartbeats 8000000
theorem e7b{σ:St}{i:Nat}{v:V}{H:Hp}{Q:VK}(h:σ[i]? = some (some v))(q:Q v H):mV i σ H Q:=by
 unfold mV
 rw[h]
 exact q
theorem h0j{σ:St}{i j:Nat}{a b:Addr}{ns:List Int}{H:Hp}{Q:Bool->Hp->Prop}(hx:σ[i]? = some (some (.ref a)))(hy:σ[j]? = some (some (.ref b)))(h1:SqL K H a (ns.map V.int))(h2:SqL K H b (ns.map V.int))(k:Q false H):mB (tOp (gEq K true) (mV i) (mV j)) σ H Q:=by
 unfold mB tOp
 refine e7b hx (e7b hy (c1b h1 h2 ?_))
 rw[decide_eq_true (rfl:ns=ns)]
 exact k
theorem e4l : ∀ L:List Nat,(L.map fun x:Nat=>(x:Int)).sum=((L.sum:Nat):Int)
 | []=>rfl
 | x :: L=>by
  have ih:=e4l L
  rw[List.map_cons,List.sum_cons,List.sum_cons,ih]
  rfl
theorem g6u{H:Hp}{p:Addr}{M:Md}(h:Mod H p M) : ∃ D,Mt M D/\KoS D:=by
 obtain⟨a,b,_,c⟩:=h
 cases M with
 | ld=>exact⟨.ld,rfl,trivial⟩
 | pr b=>exact⟨.pr b,rfl,trivial⟩
 | sh ns ms=>exact⟨.sh ⟨p,p,p,p,p,p,p,p,p,p⟩ ns ms,⟨_,rfl⟩,c.2.2.1,c.2.2.2⟩
 | tb es=>exact⟨.tb ⟨p,p,p,p⟩ es,⟨_,rfl⟩,c.2.2⟩
 | br=>exact⟨.br,rfl,trivial⟩
def e9i(K:PySem.W.Frag):Sp:=fun vs H Q _=>∃ a,vs=[.ref a]/\∃ ns:List Int,SqL K H a (ns.map V.int)/\ns.length<=63/\∀ H',Q (.bl true) H'
theorem h1d (T:Txt w K mg t):Has P w K mg base "law" 15 t.g3x t.f8j ["_law_script"] (e9i K):=by
 refine⟨T.g8d,T.g4b.kp,T.h1v,T.g4b.okQ b4w (fun vs H Q E h=>by obtain⟨a,rfl,_⟩:=h; rfl) fun cdv A outer s H vs Q E hr h=>?_⟩
 obtain⟨a,rfl,sc,h1,hc,kq⟩:=h
 have hu:=hr.units
 refine⟨_,(a0b (a0r (i:=1) b4w.nd rfl (by first | exact Or.inl rfl | exact Or.inr rfl) (a2a (f1q T) hr (a0c (a2a (c0p T) hr (a0c (a0h 0) (a0c a0g a0a))) a0a)))
  (a0b (a0r (i:=2) b4w.nd rfl (by first | exact Or.inl rfl | exact Or.inr rfl) (a2a (g2v T) hr (a0c (a0h 1) (a0c (a1z (b8c (K:=K) rfl) (a0h 0) (a1x a0g) (a1x a0g)) a0a))))
  (a0b (a0w (a0o (a4q (K:=K) rfl hu) (a1p (a2a (c0p T) hr (a0c (a0h 0) (a0c a0g a0a)))) a0g (a1e _)) (a0e (c5k (i:=2) b4w.nd rfl (by first | exact Or.inl rfl | exact Or.inr rfl) rfl (a2b.of (fns:=(a0f d6c).names) (N:=["_law_script", "_law_model_here", "_law_row_here", "_law_tongue_here", "_law_pieces_here", "_law_seer", "_law_putter", "_law_seen", "_law_put", "_law_text_here", "_law_leaver", "_law_signs", "_law_passed"]) (Nc:=["_law_cell"]) (nv:=1) (caps:=[]) rfl rfl (by decide +kernel)) (a2q (K:=K) rfl (a1z (b8c (K:=K) rfl) (a0h 0) (a1x a0g) (a1x a0g))) (fun _ _ _ _=>(a0x (i:=0) (show List.Nodup (["_law_cell"]:List Str) by decide +kernel) rfl (Or.inl rfl) (Or.inr rfl))) (fun _ _ _ _=>a4p) (fun _ _ _ _=>(a1p (a0h 0))))) a0n)
  (a0b (a0w (a0o (a4q (K:=K) rfl hu) (a1p (a2m (a2a (c0p T) hr (a0c (a0h 0) (a0c a0g a0a))))) a0g (a1e _)) (a0e (a0r (i:=2) b4w.nd rfl (by first | exact Or.inl rfl | exact Or.inr rfl) (a1z (b8c (K:=K) rfl) (a0q c3y (a0h 2) a0g) a3o (a1x a0g)))) a0n)
  (a0b (a0r (i:=3) b4w.nd rfl (by first | exact Or.inl rfl | exact Or.inr rfl) (a2a (e7j T) hr (a0c (a0h 1) a0a)))
  (a0b (a0r (i:=4) b4w.nd rfl (by first | exact Or.inl rfl | exact Or.inr rfl) (a2a (d5b T) hr (a0c (a0h 2) (a0c (a2m (a2a (c0p T) hr (a0c (a0h 0) (a0c a0g a0a)))) a0a))))
  (a0b (a0r (i:=5) b4w.nd rfl (by first | exact Or.inl rfl | exact Or.inr rfl) (b6i (c0h T) hr (a0c (a0h 3) (a0c (f6g T.g2m T.g8b) a0a))))
  (a0b (a0r (i:=6) b4w.nd rfl (by first | exact Or.inl rfl | exact Or.inr rfl) (b6i (c9k T) hr (a0c (a0h 3) (a0c (b6i (f7r T) hr (a0c a0g a0a)) (a0c a0g a0a)))))
  (a0b (b8q (a2a (d6n T) hr (a0c (a0h 5) (a0c (a0h 6) (a0c (a0h 4) a0a)))) (a5g (K:=K) rfl rfl (a1m (a0x (i:=7) b4w.nd rfl (by first | exact Or.inl rfl | exact Or.inr rfl)) (a1m (a0x (i:=8) b4w.nd rfl (by first | exact Or.inl rfl | exact Or.inr rfl)) a5f))))
  (a0b (a0w (a2w (a7d (a7j (a5h (a2g (c4h (K:=K) rfl) T.n_isinstance PyProof.Rows.boot_isinstance (a0c (a0h 7) (a0c (e2n rfl T.n_list PyProof.Rows.boot_list) a0a))))) (a4w (a0o d6x (a2a (f1v T) hr (a0c (a0h 7) a0a)) b5d (a1e _))))) (a0e (a0i b5d)) a0n)
  (a0b (a0r (i:=9) b4w.nd rfl (by first | exact Or.inl rfl | exact Or.inr rfl) (a9o (b1t (K:=K) rfl) T.n_list PyProof.Rows.boot_list (a0c (a0h 7) a0a)))
  (a0b (a0w (a2w (a7d (a0o (d4k (K:=K) rfl hu) (a2a (d9s T) hr (a0c (a0h 3) (a0c (a0h 7) a0a))) (a0h 2) (a1e _)) (a4w (a0o (d4k (K:=K) rfl hu) (a0h 7) (a0h 9) (a1e _))))) (a0e (a0i b5d)) a0n)
  (a0b (a0w (a2w (a7d (a0o (d4k (K:=K) rfl hu) (a2a (d0z T) hr (a0c (a0h 3) (a0c (a0h 7) (a0c (a2m (a2a (c0p T) hr (a0c (a0h 0) (a0c a0g a0a)))) a0a)))) (a0h 2) (a1e _)) (a4w (a0o (d4k (K:=K) rfl hu) (a2a (d0z T) hr (a0c (a0h 3) (a0c (a0h 7) (a0c a0g a0a)))) (a0h 2) (a1e _))))) (a0e (a0i b5d)) a0n)
  (a0b (a0r (i:=10) b4w.nd rfl (by first | exact Or.inl rfl | exact Or.inr rfl) (b6i (c0h T) hr (a0c (a0h 3) (a0c (f6g T.f1a T.f7z) a0a))))
  (a0b (c5k (i:=11) b4w.nd rfl (by first | exact Or.inl rfl | exact Or.inr rfl) rfl (a2b.of (fns:=(a0f d6c).names) (N:=["_law_script", "_law_model_here", "_law_row_here", "_law_tongue_here", "_law_pieces_here", "_law_seer", "_law_putter", "_law_seen", "_law_put", "_law_text_here", "_law_leaver", "_law_signs", "_law_passed"]) (Nc:=["_law_thing"]) (nv:=1) (caps:=[]) rfl rfl (by decide +kernel)) (a2q (K:=K) rfl (a0h 7)) (fun _ _ _ _=>(a0x (i:=0) (show List.Nodup (["_law_thing"]:List Str) by decide +kernel) rfl (Or.inl rfl) (Or.inr rfl))) (fun _ _ _ _=>(d9f (a2w (a7d (a0o d8n (a0h 0) a0g (a1e _)) (a4w (a0o f5f (a0h 0) a0g (a1e _))))))) (fun _ _ _ _=>(a0h 0)))
  (a0b (a0w (a2w (a7d (a0o (d4k (K:=K) rfl hu) (a0q (a1r (K:=K) rfl) (a4e (a4f (a9g T) hr (a0h 10) (a0c (a0h 2) a0a)) (a4f (a7n T) hr (a0h 10) (a0c (a0h 2) a0a))) (a2l (b1q T) hr (a0h 10))) (a0h 11) (a1e _)) (a4w (a0o (d4k (K:=K) rfl hu) (a2g (a3b (K:=K) rfl) T.n_len PySem.boot_len (a0c (a0h 8) a0a)) (a0q (a1r (K:=K) rfl) (a2g (a3b (K:=K) rfl) T.n_len PySem.boot_len (a0c (a0h 11) a0a)) (a2g (a3b (K:=K) rfl) T.n_len PySem.boot_len (a0c (a2l (a4h T) hr (a0h 5)) a0a))) (a1e _))))) (a0e (a0i b5d)) a0n)
  (a0b (a0r (i:=12) b4w.nd rfl (by first | exact Or.inl rfl | exact Or.inr rfl) (a2g (g0g (K:=K) rfl rfl) T.n_sum PyProof.Rows.boot_sum (a0c (a6b rfl (a2b.of (fns:=(a0f d6c).names) (N:=["_law_script", "_law_model_here", "_law_row_here", "_law_tongue_here", "_law_pieces_here", "_law_seer", "_law_putter", "_law_seen", "_law_put", "_law_text_here", "_law_leaver", "_law_signs", "_law_passed"]) (Nc:=["_law_fault"]) (nv:=1) (caps:=[]) rfl rfl (by decide +kernel)) (a2q (K:=K) rfl (a2l (a4h T) hr (a0h 5))) (fun _ _ _ _=>(a0x (i:=0) (show List.Nodup (["_law_fault"]:List Str) by decide +kernel) rfl (Or.inl rfl) (Or.inr rfl))) (fun _ _ _ _=>a4p) (fun _ _ _ _=>(a1b (a1y (K:=K) rfl) (a0h 0) a0g (fun _ _=>rfl)))) a0a)))
  (a0e (a0i (b5z (d0f (a4q (K:=K) rfl hu) (a0h 12) (a0q b2z (a2g (a3b (K:=K) rfl) T.n_len PySem.boot_len (a0c (a0h 7) a0a)) (a2g (a3b (K:=K) rfl) T.n_len PySem.boot_len (a0c (a0h 11) a0a))) (a1e _)) (b1x (b4u (a4q (K:=K) rfl hu) (a4q (K:=K) rfl hu) (a2l (a4h T) hr (a0h 10)) (a2l (a4h T) hr (a0h 5)) (a2l (a4h T) hr (a0h 6)))))))))))))))))))))))),?_⟩
 refine⟨a,sc,0,rfl,h1,fun c0 H1 s1=>?_⟩
 refine⟨c0,rfl,fun p M H2 s2 mod2=>?_⟩
 have s02:=s1.trans s2
 refine⟨_,rfl,_,rfl,_,s02.seq h1,fun pc H3 g3=>?_⟩
 have ecut:d5g (sc.map V.int) (some 2) (some 63)=((sc.drop 2).take 61).map V.int:=by rw[a5p]; exact congrArg _ (e5o sc 2 61)
 rw[ecut]at g3
 refine⟨p,pc,M,_,rfl,mod2.mono g3.sm,g3.lst,by rw[List.length_take]; omega,g6u mod2,fun pr r0 H4 s4 hr0 by0 l0=>?_⟩
 have s04:=s02.trans (g3.sm.trans s4)
 have mod4:=mod2.mono (g3.sm.trans s4)
 unfold f5r
 dsimp only
 refine b0u (fun σ' H'=>a1l H4 H'/\∃ (pr:Addr) (r:List Int),H' pr=some (.lst (r.map V.int))/\b5u r/\r.length<=400/\σ'=[some (.ref a),some (.ref p),some (.ref pr),none,none,none,none,none,none,none,none,none,none]) (fun nx hn=>?_) ?_
 ·refine⟨a,sc,1,rfl,s04.seq h1,fun c1 H5 s5=>?_⟩
  refine a1v (fun _=>?_) (fun _=>?_)
  ·refine⟨_,rfl,_,rfl,_,(s04.trans s5).seq h1,fun p6 H6 g6=>?_⟩
   rw[ecut]at g6
   have l61:((sc.drop 2).take 61).length<=61:=by rw[List.length_take]; omega
   refine⟨p6,rfl,⟨_,g6.lst⟩,c4e ((((sc.drop 2).take 61).map fun c=>c%256).map V.int) (by simp) g6.lst (szl (by rw[List.length_map]; omega)) (fun i x y H7 N hx hy s7 hN=>?_) fun p8 H8 g8=>?_⟩
   ·obtain⟨n,hn,rfl⟩:=a6p hx
    rw[List.getElem?_map,List.getElem?_map,hn]at hy
    cases hy
    exact hN _ (a1l.refl _)
   ·refine hn _ _ ⟨s5.trans (g6.sm.trans g8.sm),p8,_,g8.at_,fun b hb=>?_,by rw[List.length_map]; omega,rfl⟩
    obtain⟨c,_,rfl⟩:=List.mem_map.mp hb
    omega
  ·exact hn _ _ ⟨s5,pr,r0,s5 _ _ hr0,by0,l0,rfl⟩
 rintro σ' H5 ⟨s5,pr1,r1,hr1,by1,l1,rfl⟩
 have s05:=s04.trans s5
 refine b0u (fun σ' H'=>a1l H5 H'/\∃ (pr:Addr) (r:List Int),H' pr=some (.lst (r.map V.int))/\b5u r/\r.length<=400/\σ'=[some (.ref a),some (.ref p),some (.ref pr),none,none,none,none,none,none,none,none,none,none]) (fun nx hn=>?_) ?_
 ·refine⟨a,sc,1,rfl,s05.seq h1,fun c1 H6 s6=>?_⟩
  refine a1v (fun _=>?_) (fun _=>?_)
  ·refine⟨_,s6 _ _ hr1,by decide,by decide,?_,fun p7 H7 g7=>?_⟩
   ·exact szl (by rw[List.length_map,show (7:Int).toNat=7 from rfl]; omega)
   have e7:(List.replicate (7:Int).toNat (r1.map V.int)).flatten=((List.replicate 7 r1).flatten).map V.int:=by rw[List.map_flatten,List.map_replicate]; rfl
   rw[e7]at g7
   refine⟨_,rfl,_,g7.lst,fun p8 H8 g8=>?_⟩
   rw[a5p]at g8
   refine hn _ _ ⟨s6.trans (g7.sm.trans g8.sm),p8,_,g8.at_,fun b hb=>?_,?_,rfl⟩
   ·obtain⟨l,hl,hb⟩:=List.mem_flatten.mp (e5p hb)
    rw[List.eq_of_mem_replicate hl]at hb
    exact by1 b hb
   ·rw[show (400:Int)=((400:Nat):Int) from rfl,d1y,List.length_take]
    omega
  ·exact hn _ _ ⟨s6,pr1,r1,s6 _ _ hr1,by1,l1,rfl⟩
 rintro σ' H6 ⟨s6,pr,r,hr6,byr,lr,rfl⟩
 have s06:=s05.trans s6
 refine⟨p,M,rfl,mod4.mono (s5.trans s6),fun o D H7 s7 mt tn=>?_⟩
 have ok:=tn.koS
 refine⟨a,sc,1,rfl,(s06.trans s7).seq h1,fun c1 H8 s8=>?_⟩
 refine⟨pr,c1 / 3,r,rfl,.of (s8 _ _ (s7 _ _ hr6)),by omega,fun pp L H9 s9 npp pcs fr fl ll=>?_⟩
 have s69:=s7.trans (s8.trans s9)
 refine fun y1 dy1 hy1 hdy1 hny1=>?_
 have sy1:=a5x (C:=t.c9m) hy1 hdy1
 have hY1:upd (upd H9 dy1 (.own y1)) y1 (.ins t.c9m dy1 []) y1=some (.ins t.c9m dy1 []):=a0v
 generalize upd (upd H9 dy1 (.own y1)) y1 (.ins t.c9m dy1 [])=H10 at sy1 hY1 ⊢
 refine fun x1 dx1 hx1 hdx1 hnx1=>?_
 have sm1:=a5x (C:=t.a0p) hx1 hdx1
 refine⟨x1,dx1,o,y1,rfl,a0v,fun b1 mt1 H11 nb1 nm1 nbm1 k11 hX1 hB1 hM1=>⟨rfl,?_⟩⟩
 have s11:a1l H10 H11:=Kp.same sm1 k11 hx1
 have fb1:H10 b1=none:=sm1.free nb1
 have fm1:H10 mt1=none:=sm1.free nm1
 refine fun y2 dy2 hy2 hdy2 hny2=>?_
 refine⟨y2,dy2,65533,rfl,a0v,rfl,?_⟩
 have sy2:=d6b (C:=t.b8e) (o:=.ins t.b8e dy2 [("sign",.int 65533)]) hy2 hdy2
 have hY2:upd (upd (upd H11 dy2 (.own y2)) y2 (.ins t.b8e dy2 [])) y2 (.ins t.b8e dy2 [("sign",.int 65533)]) y2=some (.ins t.b8e dy2 [("sign",.int 65533)]):=a0v
 generalize upd (upd (upd H11 dy2 (.own y2)) y2 (.ins t.b8e dy2 [])) y2 (.ins t.b8e dy2 [("sign",.int 65533)])=H12 at sy2 hY2 ⊢
 refine fun x2 dx2 hx2 hdx2 hnx2=>?_
 have sm2:=a5x (C:=t.a0p) hx2 hdx2
 refine⟨x2,dx2,o,y2,rfl,a0v,fun b2 mt2 H13 nb2 nm2 nbm2 k13 hX2 hB2 hM2=>⟨rfl,?_⟩⟩
 have s13:a1l H12 H13:=Kp.same sm2 k13 hx2
 have fb2:H12 b2=none:=sm2.free nb2
 have fm2:H12 mt2=none:=sm2.free nm2
 have s1113:=sy2.trans s13
 have s1013:a1l H10 H13:=s11.trans s1113
 have s1012:=s11.trans sy2
 obtain⟨X,eX⟩ : ∃ X,X=[x1,b1,mt1,x2,b2,mt2]:=⟨_,rfl⟩
 obtain⟨Hb,eHb⟩ : ∃ Hb,Hb=wo H13 X:=⟨_,rfl⟩
 have fr6 : ∀ c∈[x1,b1,mt1,x2,b2,mt2],Hb c=none:=fun c hc=>by rw[eHb]; exact b3b (by rw[eX]; exact hc)
 have n10 : ∀ c∈X,H10 c=none:=fun c hc=>by
  rw[eX]at hc
  simp only [List.mem_cons,List.not_mem_nil,or_false]at hc
  have a1:=s1012.free hx2
  have a2:=s1012.free fb2
  have a3:=s1012.free fm2
  rcases hc with rfl | rfl | rfl | rfl | rfl | rfl <;> assumption
 have sb:a1l H10 Hb:=by rw[eHb]; exact a1l.wo s1013 n10
 have hY2b:Hb y2=some (.ins t.b8e dy2 [("sign",.int 65533)]):=by
  rw[eHb]
  refine e8x (fun hc=>?_) (s13 _ _ hY2)
  rw[eX]at hc
  simp only [List.mem_cons,List.not_mem_nil,or_false]at hc
  have a1:=b2t hy2 hX1
  have a2:=b2t hy2 hB1
  have a3:=b2t hy2 hM1
  have a4:=a0l hY2 hx2
  have a5:=a0l hY2 fb2
  have a6:=a0l hY2 fm2
  rcases hc with z | z | z | z | z | z <;> exact absurd z (by assumption)
 have s9b:a1l H9 Hb:=sy1.trans sb
 have s7b:a1l H7 Hb:=s8.trans (s9.trans s9b)
 refine⟨Hb,x1,dx1,b1,mt1,y1,x2,dx2,b2,mt2,y2,o,pp,D,.se,.pt 65533,L,rfl,by rw[eHb]; exact b8j,tn.mono s7b,⟨dy1,sb _ _ hY1⟩,⟨dy2,hY2b⟩,pcs.mono s9b,by rw[fl]; exact byr,by rw[fl]; omega,fr6 _ (by simp),fr6 _ (by simp),fr6 _ (by simp),fr6 _ (by simp),fr6 _ (by simp),fr6 _ (by simp),b2t hx2 (sy2 _ _ hX1),a0l (sy2 _ _ hB1) fb2,a0l (sy2 _ _ hB1) fm2,a0l (sy2 _ _ hM1) fb2,a0l (sy2 _ _ hM1) fm2,⟨nbm1,s1113 _ _ hX1,s1113 _ _ hB1,s1113 _ _ hM1,fun _ h=>nomatch h⟩,⟨nbm2,hX2,hB2,hM2,fun _ h=>nomatch h⟩,fun pq q1 q2 z1 z2 L1 L2 gg nn H14 s14 hpq hq1 hq2 hx1' ft1 el1 hx2' ft2 el2=>?_⟩
 rw[fl]at hq1 hq2 el1 el2
 obtain⟨okE,wrE⟩:=g8g ok byr
 have hth:=e2a okE
 have lse:(tld .se (evs D r)).length<=400:=by
  have:=(e4h ok _ 0 (e8u D) hth).2
  rw[wrE]at this
  omega
 refine⟨pq,_,rfl,.of hpq,rfl,_,_,rfl,_,_,rfl,rfl,?_⟩
 refine⟨_,_,.lst hq1,by with_unfolding_all rfl,?_⟩
 refine g7o ?_
 refine⟨q1,_,rfl,hq1,fun x hx=>(hth x hx).imp_right (g2r ok),by omega,fun H15 s15=>?_⟩
 refine⟨(fun f h=>nomatch h),?_⟩
 refine g7o ?_
 refine⟨_,.inl (.of (s15 _ _ hq1)),fun p16 H16 g16=>?_⟩
 have s16:a1l H14 H16:=s15.trans g16.sm
 have s716:=s7b.trans (s14.trans s16)
 refine⟨o,q1,D,_,rfl,tn.mono s716,.of (s16 _ _ hq1),by omega,hth,fun p17 H17 s17 h17=>?_⟩
 rw[wrE]at h17
 have s717:=s716.trans s17
 have hr17:=s717 _ _ (s7 _ _ hr6)
 refine e7b (v:=.ref pr) (by rfl) ?_
 refine c1b (ns:=r) (ms:=r) (.of h17) (.of hr17) ?_
 refine a1v (fun z=>absurd z (by simp)) (fun _=>?_)
 refine h0j (ns:=tld .se (evs D r)) (by rfl) (by rfl) (.of (s17 _ _ (s16 _ _ hq1))) (.of (s17 _ _ g16.at_)) ?_
 refine g7o ?_
 refine⟨a,sc,1,rfl,((s06.trans s7).trans s717).seq h1,fun c18 H18 s18=>?_⟩
 have s718:=s717.trans s18
 have s1418:=s16.trans (s17.trans s18)
 refine⟨o,q1,c18 / 12,D,_,rfl,tn.mono s718,.of (s1418 _ _ hq1),by omega,hth,fun p19 H19 s19 h19=>?_⟩
 rw[wrE]at h19
 refine e7b (v:=.ref pr) (by rfl) ?_
 refine c1b (ns:=r) (ms:=r) (.of h19) (.of (s19 _ _ (s18 _ _ hr17))) ?_
 refine a1v (fun z=>absurd z (by simp)) (fun _=>?_)
 have s719:=s718.trans s19
 have s1419:=s1418.trans s19
 refine⟨o,q1,0,D,_,rfl,tn.mono s719,.of (s1419 _ _ hq1),by omega,hth,fun p20 H20 s20 h20=>?_⟩
 rw[wrE]at h20
 have s720:=s719.trans s20
 have s1420:=s1419.trans s20
 have hr20:=s720 _ _ (s7 _ _ hr6)
 refine e7b (v:=.ref pr) (by rfl) ?_
 refine c1b (ns:=r) (ms:=r) (.of h20) (.of hr20) ?_
 refine a1v (fun z=>absurd z (by simp)) (fun _=>?_)
 refine fun y3 dy3 hy3 hdy3 hny3=>?_
 have sy3:=a5x (C:=t.b3c) hy3 hdy3
 have hY3:upd (upd H20 dy3 (.own y3)) y3 (.ins t.b3c dy3 []) y3=some (.ins t.b3c dy3 []):=a0v
 generalize upd (upd H20 dy3 (.own y3)) y3 (.ins t.b3c dy3 [])=H21 at sy3 hY3 ⊢
 refine fun x3 dx3 hx3 hdx3 hnx3=>?_
 have sm3:=a5x (C:=t.a0p) hx3 hdx3
 refine⟨x3,dx3,o,y3,rfl,a0v,fun b3 mt3 H22 nb3 nm3 nbm3 k22 hX3 hB3 hM3=>⟨rfl,?_⟩⟩
 have s22:a1l H21 H22:=Kp.same sm3 k22 hx3
 have fb3:H21 b3=none:=sm3.free nb3
 have fm3:H21 mt3=none:=sm3.free nm3
 have s1421:=s1420.trans sy3
 have s721:=s720.trans sy3
 have hq22:=s22 _ _ (s1421 _ _ hq1)
 refine⟨q1,rfl,⟨_,.of hq22⟩,c1e (K:=K) (a:=q1) (xs:=(tld .se (evs D r)).map V.int) (fun i ys H'=>a1l H22 H'/\ys=(((tld .se (evs D r)).take i).filter (fun x=>decide (x < 61184) || decide (x > 61439))).map V.int) ⟨a1l.refl _,rfl⟩ (fun i ys H' hi z=>⟨.of (z.1 _ _ hq22),by rw[z.2,List.length_map]; exact Nat.le_trans (List.length_filter_le _ _) (by rw[List.length_take]; exact Nat.min_le_left _ _)⟩) (szl (by rw[List.length_map]; omega)) (fun i x ys H' N hx y hN=>?_) fun ys H' sg H23 y g23=>?_⟩
 ·obtain⟨s',rfl⟩:=y
  obtain⟨m,hm,rfl⟩:=a6p hx
  have e1:(((tld .se (evs D r)).take (i+1)).filter (fun x=>decide (x < 61184) || decide (x > 61439)))=(((tld .se (evs D r)).take i).filter (fun x=>decide (x < 61184) || decide (x > 61439)))++(if (decide (m < 61184) || decide (m > 61439))=true then [m] else []):=by
   rw[a5w hm,List.filter_append,List.filter_cons]
   rfl
  refine a1v (fun z=>?_) (fun z=>?_)
  ·have z:m < 61184:=of_decide_eq_true z
   refine f7o ?_
   exact hN _ _ ⟨s',by rw[e1,if_pos (by simp; omega),List.map_append]; rfl⟩
  ·have z : ¬ m < 61184:=fun y=>z (decide_eq_true y)
   refine a1v (fun y=>?_) (fun y=>?_)
   ·have y:61439 < m:=of_decide_eq_true y
    exact hN _ _ ⟨s',by rw[e1,if_pos (by simp; omega),List.map_append]; rfl⟩
   ·have y : ¬ 61439 < m:=fun x=>y (decide_eq_true x)
    exact hN _ _ ⟨s',by rw[e1,if_neg (by simp; omega),List.append_nil]⟩
 obtain⟨s23,rfl⟩:=y
 rw[List.length_map,List.take_length,e9a ok _ okE]at g23
 have s2223:=s23.trans g23.sm
 have s2123:a1l H21 H23:=s22.trans s2223
 have sw:a1l H21 (wo H23 [x3,b3,mt3]):=c8r s2123 hx3 fb3 fm3
 have tn21:=tn.mono s721
 have R3:Rz t H23 x3 dx3 o b3 mt3 y3 0 0 [] []:=⟨nbm3,s2223 _ _ hX3,s2223 _ _ hB3,s2223 _ _ hM3,fun _ h=>nomatch h⟩
 have nsb:sg≠b3:=b2t g23.nw (s23 _ _ hB3)
 have nsm:sg≠mt3:=b2t g23.nw (s23 _ _ hM3)
 obtain⟨pg,bg,acc,_,_,le6⟩:=b3s ok r 0 [] 0 (e8u D) (Bgn.nil _ _) byr
 have l6:=(bg.byts pg).2
 have lcr:(run D 0 [] 0 r).2.1.length<=0+r.length:=by
  have:=congrArg List.length acc
  rw[List.length_append,List.length_append]at this
  have e:([]:List Int).length=0:=rfl
  omega
 refine .inr ⟨x3,dx3,_,rfl,R3.hx,rfl,wo H23 [x3,b3,mt3],x3,dx3,o,b3,mt3,y3,pr,D,.lv,0,0,[],[],r,rfl,⟨tn21.mono sw,⟨dy3,sw _ _ hY3⟩,b8j,b3b (by simp),b3b (by simp),b3b (by simp),nbm3,R3.hx,R3.hb,R3.ft,e8u D,Bgn.nil _ _,Nat.le_refl _⟩,.of (sw _ _ (sy3 _ _ hr20)),byr,by omega,by decide,fun q4 c4 ps4 H24 s24 nq4 fc4 nbm4 nqb4 hx4 hb4 ft4 eps4 hq4=>?_⟩
 have R4:Rz t H24 x3 dx3 o c4 mt3 y3 (run D 0 [] 0 r).1 (0+r.length) (run D 0 [] 0 r).2.1 ([]++ps4):=⟨nbm4,hx4,hb4,ft4⟩
 have sw4:a1l H21 (wo H24 [x3,c4,mt3]):=c8r (sw.trans s24) hx3 (sw.free fc4) fm3
 have lps4:([]++ps4).length<=800:=by
  have:=congrArg List.length eps4
  rw[List.length_map]at this
  have:=c7k (run D 0 [] 0 r).2.2
  rw[List.nil_append]
  omega
 refine⟨x3,dx3,_,rfl,hx4,rfl,wo H24 [x3,c4,mt3],x3,dx3,o,c4,mt3,y3,D,.lv,_,_,_,[]++ps4,rfl,⟨tn21.mono sw4,⟨dy3,sw4 _ _ hY3⟩,b8j,b3b (by simp),b3b (by simp),b3b (by simp),nbm4,hx4,hb4,ft4,pg,bg,lcr⟩,by omega,fun q5 c5 ps5 H25 s25 nq5 hx5 ft5 eps5 hq5=>?_⟩
 have hq45:=R4.lst nqb4 (b2t nq4 R3.ft.1) s25 hq4
 have eE:(tld .lv (run D 0 [] 0 r).2.2).map V.int++(tld .lv (enE (0+r.length) (run D 0 [] 0 r).2.1)).map V.int=(tld .lv (evs D r)).map V.int:=by unfold evs; rw[b8k,List.map_append]
 have llv:(tld .lv (evs D r)).length<=400:=by
  have:=d5w _ okE
  omega
 have llv2:=congrArg List.length eE
 rw[List.length_append,List.length_map (as:=tld .lv (evs D r))]at llv2
 refine⟨_,_,.of hq45,.of hq5,szl (by omega),fun p6 H26 g26=>?_⟩
 rw[eE]at g26
 have nsc:sg≠c4:=fun z=>by
  have:=wo3 (H:=H23) (a1o g23.at_ R3.hx (by intro z; cases z)) nsb nsm g23.at_
  rw[z,fc4]at this; cases this
 have hsg26:=g26.sm _ _ (R4.lst nsc nsm s25 (R3.lst nsb nsm s24 g23.at_))
 have s2126:a1l H21 H26:=sw4.trans (s25.trans g26.sm)
 have s1426:=s1421.trans s2126
 have levs:(evs D r).length<=900:=by
  unfold evs enE
  rw[List.length_append]
  split
  ·show _+0<=_; omega
  ·show _+1<=_; omega
 have eL1:L1.length=(fts (evs D r)).length:=by rw[<- el1,List.length_map]
 refine e7b (v:=.ref sg) (by rfl) ?_
 refine c1b (ns:=tld .lv (evs D r)) (ms:=tld .lv (evs D r)) (.of g26.at_) (.of hsg26) ?_
 refine a1v (fun z=>absurd z (by simp)) (fun _=>?_)
 refine⟨_,.inl (.of (s1426 _ _ hq2)),_,.inl (.of hsg26),?_⟩
 refine⟨x1,dx1,_,rfl,s1426 _ _ hx1',rfl,x1,dx1,o,z1,mt1,y1,gg,nn,true,L1,rfl,s1426 _ _ hx1',ft1.mono s1426,fun p7 H27 g27=>?_⟩
 refine⟨_,.inl g27.lst,?_⟩
 refine a1v (fun z=>absurd z ?_) (fun _=>?_)
 ·have:=e2b 65533 (evs D r)
  simp[List.length_map]
  omega
 have s1427:=s1426.trans g27.sm
 refine⟨x1,dx1,_,rfl,s1427 _ _ hx1',rfl,x1,dx1,o,z1,mt1,y1,gg,nn,true,L1,rfl,s1427 _ _ hx1',ft1.mono s1427,fun p8 H28 g28=>?_⟩
 have ft8:=(ft1.mono s1427).mono g28.sm
 refine⟨p8,rfl,⟨_,g28.lst⟩,c4e ((L1.map fun x=>(x.2.2.1:Int)).map V.int) (by simp) g28.lst (szl (by rw[List.length_map,eL1]; have:=c7k (evs D r); omega)) (fun i x y H9 N hx hy s9 hN=>?_) fun p9 H29 g29=>?_⟩
 ·rw[List.getElem?_map]at hx
  rw[List.getElem?_map,List.getElem?_map]at hy
  cases hL:L1[i]? with
  | none=>rw[hL]at hx; cases hx
  | some e =>
  rw[hL]at hx hy
  cases hx
  cases hy
  exact⟨_,.int _,.inr (.of (s9 _ _ (ft8.2 e (List.mem_of_getElem? hL)))),a1f (j:=1) rfl,hN _ (a1l.refl _)⟩
 refine⟨_,g29.lst,?_⟩
 have s1429:=s1427.trans (g28.sm.trans g29.sm)
 have hsg29:=g29.sm _ _ (g28.sm _ _ (g27.sm _ _ hsg26))
 refine⟨_,.inl (.of (s1429 _ _ hq1)),_,.inl (.of hsg29),?_⟩
 refine a1v (fun _=>?_) (fun z=>absurd (decide_eq_true ?_) z)
 ·have s2529:=g26.sm.trans (g27.sm.trans (g28.sm.trans g29.sm))
  have el3:(([]++ps4)++ps5:FL).map (fun x=>x.2)=fts (evs D r):=by
   rw[List.nil_append,List.map_append,eps4,eps5]
   unfold evs
   rw[b8s]
  have kd:=g7m D r
  refine⟨x3,dx3,_,rfl,s2529 _ _ hx5,rfl,x3,dx3,o,c5,mt3,y3,_,_,true,([]++ps4)++ps5,rfl,s2529 _ _ hx5,ft5.mono s2529,fun p10 H30 g30=>?_⟩
  have s1430:=s1429.trans g30.sm
  refine⟨x1,dx1,_,rfl,s1430 _ _ hx1',rfl,x1,dx1,o,z1,mt1,y1,gg,nn,true,L1,rfl,s1430 _ _ hx1',ft1.mono s1430,fun p11 H31 g31=>?_⟩
  have d1:b3a K H31 (dF (fts (evs D r))) (L1.map fun x=>V.ref x.1):=by rw[<- el1]; exact d1v L1 ((ft1.mono s1430).mono g31.sm).2
  have d3:b3a K H31 (dF (fts (evs D r))) ((([]++ps4)++ps5:FL).map fun x=>V.ref x.1):=by rw[<- el3]; exact d1v _ (((ft5.mono s2529).mono g30.sm).mono g31.sm).2
  refine⟨_,_,a1j.lst (.of (g31.sm _ _ g30.at_)) d3,a1j.lst g31.lst d1,c5v kd,c5v kd,?_⟩
  refine a1v (fun _=>?_) (fun z=>absurd (g0c _) z)
  have s1431:=s1430.trans g31.sm
  refine⟨x2,dx2,_,rfl,s1431 _ _ hx2',rfl,x2,dx2,o,z2,mt2,y2,gg,nn,true,L2,rfl,s1431 _ _ hx2',ft2.mono s1431,fun p12 H32 g32=>?_⟩
  have d2:b3a K H32 (dF (fts (evs D r))) (L2.map fun x=>V.ref x.1):=by rw[<- el2]; exact d1v L2 ((ft2.mono s1431).mono g32.sm).2
  have d1':b3a K H32 (dF (fts (evs D r))) (L1.map fun x=>V.ref x.1):=by rw[<- el1]; exact d1v L1 (((ft1.mono s1430).mono g31.sm).mono g32.sm).2
  refine⟨_,_,a1j.lst (.of (g32.sm _ _ g31.at_)) d1',a1j.lst g32.lst d2,c5v kd,c5v kd,?_⟩
  exact c7b (kq _) (g0c _).symm
 ·have e2:(L1.map fun x=>(x.2.2.1:Int)).sum=((((fts (evs D r)).map fun x=>x.2.1).sum:Nat):Int):=by
   rw[<- el1,<- e4l,List.map_map,List.map_map]
   rfl
  have:=d5w _ okE
  rw[e2,List.length_map,List.length_map]
  omega
end
end My
namespace My
open PySem L2
theorem lm1{Pm:List Value->Prop}(h : ∀ x0,Pm [x0]) : ∀ us:List Value,us.length=1->Pm us
 | [x0],_=>h x0
theorem lm2{Pm:List Value->Prop}(h : ∀ x0 x1,Pm [x0,x1]) : ∀ us:List Value,us.length=2->Pm us
 | [x0,x1],_=>h x0 x1
theorem lm3{Pm:List Value->Prop}(h : ∀ x0 x1 x2,Pm [x0,x1,x2]) : ∀ us:List Value,us.length=3->Pm us
 | [x0,x1,x2],_=>h x0 x1 x2
theorem lm4{Pm:List Value->Prop}(h : ∀ x0 x1 x2 x3,Pm [x0,x1,x2,x3]) : ∀ us:List Value,us.length=4->Pm us
 | [x0,x1,x2,x3],_=>h x0 x1 x2 x3
theorem txt_mk{w:World}{K:W.Frag}{h:Heap}{mg:Str->Option Value}(X:K.In h)(G:h.Ns mainGlobals mg)
 {eeNoSign:Addr}
 {a0:Addr} {od0 an0:Option Addr} {sl0:Array (Option Value)} {oc0 kV0 dc0 pm0 cd0 ct0:Value}
 {a1:Addr} {od1 an1:Option Addr} {sl1:Array (Option Value)} {oc1 kV1 dc1 pm1 cd1 ct1:Value}
 {a2:Addr} {od2 an2:Option Addr} {sl2:Array (Option Value)} {oc2 kV2 dc2 pm2 cd2 ct2:Value}
 {a3:Addr} {od3 an3:Option Addr} {sl3:Array (Option Value)} {oc3 kV3 dc3 pm3 cd3 ct3:Value}
 {a4:Addr} {od4 an4:Option Addr} {sl4:Array (Option Value)} {oc4 kV4 dc4 pm4 cd4 ct4:Value}
 {a5:Addr} {od5 an5:Option Addr} {sl5:Array (Option Value)} {oc5 kV5 dc5 pm5 cd5 ct5:Value}
 {a6:Addr} {od6 an6:Option Addr} {sl6:Array (Option Value)} {oc6 kV6 dc6 pm6 cd6 ct6:Value}
 {a7:Addr} {od7 an7:Option Addr} {sl7:Array (Option Value)} {oc7 kV7 dc7 pm7 cd7 ct7:Value}
 {a8:Addr} {od8 an8:Option Addr} {sl8:Array (Option Value)} {oc8 kV8 dc8 pm8 cd8 ct8:Value}
 {a9:Addr} {od9 an9:Option Addr} {sl9:Array (Option Value)} {oc9 kV9 dc9 pm9 cd9 ct9:Value}
 {a10:Addr} {od10 an10:Option Addr} {sl10:Array (Option Value)} {oc10 kV10 dc10 pm10 cd10 ct10:Value}
 {ccSeenSpeller:Addr}
 {a11:Addr} {od11 an11:Option Addr} {sl11:Array (Option Value)} {oc11 kV11 dc11 pm11 cd11 ct11:Value}
 {a12:Addr} {od12 an12:Option Addr} {sl12:Array (Option Value)} {oc12 kV12 dc12 pm12 cd12 ct12:Value}
 {a13:Addr} {od13 an13:Option Addr} {sl13:Array (Option Value)} {oc13 kV13 dc13 pm13 cd13 ct13:Value}
 {ccSeenWriter:Addr}
 {a14:Addr} {od14 an14:Option Addr} {sl14:Array (Option Value)} {oc14 kV14 dc14 pm14 cd14 ct14:Value}
 {a15:Addr} {od15 an15:Option Addr} {sl15:Array (Option Value)} {oc15 kV15 dc15 pm15 cd15 ct15:Value}
 {a16:Addr} {od16 an16:Option Addr} {sl16:Array (Option Value)} {oc16 kV16 dc16 pm16 cd16 ct16:Value}
 {ccLeave:Addr}
 {a17:Addr} {od17 an17:Option Addr} {sl17:Array (Option Value)} {oc17 kV17 dc17 pm17 cd17 ct17:Value}
 {ccPut:Addr}
 {dV17:Addr} {ddc17:Value} {ddd17:Option Addr} {ddn17:Nat} {dsl17:Array (Option Value)} {ud17_0:Tok}
 {a18:Addr} {od18 an18:Option Addr} {sl18:Array (Option Value)} {oc18 kV18 dc18 pm18 cd18 ct18:Value}
 {a19:Addr} {od19 an19:Option Addr} {sl19:Array (Option Value)} {oc19 kV19 dc19 pm19 cd19 ct19:Value}
 {ccSee:Addr}
 {a20:Addr} {od20 an20:Option Addr} {sl20:Array (Option Value)} {oc20 kV20 dc20 pm20 cd20 ct20:Value}
 {dV20:Addr} {ddc20:Value} {ddd20:Option Addr} {ddn20:Nat} {dsl20:Array (Option Value)} {ud20_0:Tok}
 {a21:Addr} {od21 an21:Option Addr} {sl21:Array (Option Value)} {oc21 kV21 dc21 pm21 cd21 ct21:Value}
 {ccGoingReader:Addr}
 {dV21:Addr} {ddc21:Value} {ddd21:Option Addr} {ddn21:Nat} {dsl21:Array (Option Value)} {ud21_0:Tok}
 {a22:Addr} {od22 an22:Option Addr} {sl22:Array (Option Value)} {oc22 kV22 dc22 pm22 cd22 ct22:Value}
 {a23:Addr} {od23 an23:Option Addr} {sl23:Array (Option Value)} {oc23 kV23 dc23 pm23 cd23 ct23:Value}
 {a24:Addr} {od24 an24:Option Addr} {sl24:Array (Option Value)} {oc24 kV24 dc24 pm24 cd24 ct24:Value}
 {a25:Addr} {od25 an25:Option Addr} {sl25:Array (Option Value)} {oc25 kV25 dc25 pm25 cd25 ct25:Value}
 {a26:Addr} {od26 an26:Option Addr} {sl26:Array (Option Value)} {oc26 kV26 dc26 pm26 cd26 ct26:Value}
 {a27:Addr} {od27 an27:Option Addr} {sl27:Array (Option Value)} {oc27 kV27 dc27 pm27 cd27 ct27:Value}
 {a28:Addr} {od28 an28:Option Addr} {sl28:Array (Option Value)} {oc28 kV28 dc28 pm28 cd28 ct28:Value}
 {a29:Addr} {od29 an29:Option Addr} {sl29:Array (Option Value)} {oc29 kV29 dc29 pm29 cd29 ct29:Value}
 {a30:Addr} {od30 an30:Option Addr} {sl30:Array (Option Value)} {oc30 kV30 dc30 pm30 cd30 ct30:Value}
 {a31:Addr} {od31 an31:Option Addr} {sl31:Array (Option Value)} {oc31 kV31 dc31 pm31 cd31 ct31:Value}
 {a32:Addr} {od32 an32:Option Addr} {sl32:Array (Option Value)} {oc32 kV32 dc32 pm32 cd32 ct32:Value}
 {a33:Addr} {od33 an33:Option Addr} {sl33:Array (Option Value)} {oc33 kV33 dc33 pm33 cd33 ct33:Value}
 {ccTongue:Addr}
 {a34:Addr} {od34 an34:Option Addr} {sl34:Array (Option Value)} {oc34 kV34 dc34 pm34 cd34 ct34:Value}
 {dV34:Addr} {ddc34:Value} {ddd34:Option Addr} {ddn34:Nat} {dsl34:Array (Option Value)} {ud34_0:Tok}
 {a35:Addr} {od35 an35:Option Addr} {sl35:Array (Option Value)} {oc35 kV35 dc35 pm35 cd35 ct35:Value}
 {dV35:Addr} {ddc35:Value} {ddd35:Option Addr} {ddn35:Nat} {dsl35:Array (Option Value)} {ud35_0:Tok}
 {a36:Addr} {od36 an36:Option Addr} {sl36:Array (Option Value)} {oc36 kV36 dc36 pm36 cd36 ct36:Value}
 {dV36:Addr} {ddc36:Value} {ddd36:Option Addr} {ddn36:Nat} {dsl36:Array (Option Value)} {ud36_0:Tok}
 {a37:Addr} {od37 an37:Option Addr} {sl37:Array (Option Value)} {oc37 kV37 dc37 pm37 cd37 ct37:Value}
 {dV37:Addr} {ddc37:Value} {ddd37:Option Addr} {ddn37:Nat} {dsl37:Array (Option Value)} {ud37_0:Tok}
 {a38:Addr} {od38 an38:Option Addr} {sl38:Array (Option Value)} {oc38 kV38 dc38 pm38 cd38 ct38:Value}
 {a39:Addr} {od39 an39:Option Addr} {sl39:Array (Option Value)} {oc39 kV39 dc39 pm39 cd39 ct39:Value}
 {a40:Addr} {od40 an40:Option Addr} {sl40:Array (Option Value)} {oc40 kV40 dc40 pm40 cd40 ct40:Value}
 {a41:Addr} {od41 an41:Option Addr} {sl41:Array (Option Value)} {oc41 kV41 dc41 pm41 cd41 ct41:Value}
 {a42:Addr} {od42 an42:Option Addr} {sl42:Array (Option Value)} {oc42 kV42 dc42 pm42 cd42 ct42:Value}
 {a43:Addr} {od43 an43:Option Addr} {sl43:Array (Option Value)} {oc43 kV43 dc43 pm43 cd43 ct43:Value}
 {a44:Addr} {od44 an44:Option Addr} {sl44:Array (Option Value)} {oc44 kV44 dc44 pm44 cd44 ct44:Value}
 {a45:Addr} {od45 an45:Option Addr} {sl45:Array (Option Value)} {oc45 kV45 dc45 pm45 cd45 ct45:Value}
 {ccLeadTongue:Addr}
 {dV45:Addr} {ddc45:Value} {ddd45:Option Addr} {ddn45:Nat} {dsl45:Array (Option Value)} {ud45_0:Tok}
 {a46:Addr} {od46 an46:Option Addr} {sl46:Array (Option Value)} {oc46 kV46 dc46 pm46 cd46 ct46:Value}
 {dV46:Addr} {ddc46:Value} {ddd46:Option Addr} {ddn46:Nat} {dsl46:Array (Option Value)} {ud46_0:Tok}
 {a47:Addr} {od47 an47:Option Addr} {sl47:Array (Option Value)} {oc47 kV47 dc47 pm47 cd47 ct47:Value}
 {dV47:Addr} {ddc47:Value} {ddd47:Option Addr} {ddn47:Nat} {dsl47:Array (Option Value)} {ud47_0:Tok}
 {a48:Addr} {od48 an48:Option Addr} {sl48:Array (Option Value)} {oc48 kV48 dc48 pm48 cd48 ct48:Value}
 {a49:Addr} {od49 an49:Option Addr} {sl49:Array (Option Value)} {oc49 kV49 dc49 pm49 cd49 ct49:Value}
 {a50:Addr} {od50 an50:Option Addr} {sl50:Array (Option Value)} {oc50 kV50 dc50 pm50 cd50 ct50:Value}
 {ccPairTongue:Addr}
 {dV50:Addr} {ddc50:Value} {ddd50:Option Addr} {ddn50:Nat} {dsl50:Array (Option Value)} {ud50_0:Tok}
 {a51:Addr} {od51 an51:Option Addr} {sl51:Array (Option Value)} {oc51 kV51 dc51 pm51 cd51 ct51:Value}
 {a52:Addr} {od52 an52:Option Addr} {sl52:Array (Option Value)} {oc52 kV52 dc52 pm52 cd52 ct52:Value}
 {a53:Addr} {od53 an53:Option Addr} {sl53:Array (Option Value)} {oc53 kV53 dc53 pm53 cd53 ct53:Value}
 {a54:Addr} {od54 an54:Option Addr} {sl54:Array (Option Value)} {oc54 kV54 dc54 pm54 cd54 ct54:Value}
 {a55:Addr} {od55 an55:Option Addr} {sl55:Array (Option Value)} {oc55 kV55 dc55 pm55 cd55 ct55:Value}
 {dV55:Addr} {ddc55:Value} {ddd55:Option Addr} {ddn55:Nat} {dsl55:Array (Option Value)} {ud55_0:Tok}
 {a56:Addr} {od56 an56:Option Addr} {sl56:Array (Option Value)} {oc56 kV56 dc56 pm56 cd56 ct56:Value}
 {dV56:Addr} {ddc56:Value} {ddd56:Option Addr} {ddn56:Nat} {dsl56:Array (Option Value)} {ud56_0:Tok}
 {a57:Addr} {od57 an57:Option Addr} {sl57:Array (Option Value)} {oc57 kV57 dc57 pm57 cd57 ct57:Value}
 {dV57:Addr} {ddc57:Value} {ddd57:Option Addr} {ddn57:Nat} {dsl57:Array (Option Value)} {ud57_0:Tok}
 {a58:Addr} {od58 an58:Option Addr} {sl58:Array (Option Value)} {oc58 kV58 dc58 pm58 cd58 ct58:Value}
 {a59:Addr} {od59 an59:Option Addr} {sl59:Array (Option Value)} {oc59 kV59 dc59 pm59 cd59 ct59:Value}
 {a60:Addr} {od60 an60:Option Addr} {sl60:Array (Option Value)} {oc60 kV60 dc60 pm60 cd60 ct60:Value}
 {ccShiftTongue:Addr}
 {a61:Addr} {od61 an61:Option Addr} {sl61:Array (Option Value)} {oc61 kV61 dc61 pm61 cd61 ct61:Value}
 {a62:Addr} {od62 an62:Option Addr} {sl62:Array (Option Value)} {oc62 kV62 dc62 pm62 cd62 ct62:Value}
 {dV62:Addr} {ddc62:Value} {ddd62:Option Addr} {ddn62:Nat} {dsl62:Array (Option Value)} {ud62_0:Tok}
 {a63:Addr} {od63 an63:Option Addr} {sl63:Array (Option Value)} {oc63 kV63 dc63 pm63 cd63 ct63:Value}
 {a64:Addr} {od64 an64:Option Addr} {sl64:Array (Option Value)} {oc64 kV64 dc64 pm64 cd64 ct64:Value}
 {dV64:Addr} {ddc64:Value} {ddd64:Option Addr} {ddn64:Nat} {dsl64:Array (Option Value)} {ud64_0:Tok}
 {a65:Addr} {od65 an65:Option Addr} {sl65:Array (Option Value)} {oc65 kV65 dc65 pm65 cd65 ct65:Value}
 {dV65:Addr} {ddc65:Value} {ddd65:Option Addr} {ddn65:Nat} {dsl65:Array (Option Value)} {ud65_0:Tok}
 {a66:Addr} {od66 an66:Option Addr} {sl66:Array (Option Value)} {oc66 kV66 dc66 pm66 cd66 ct66:Value}
 {a67:Addr} {od67 an67:Option Addr} {sl67:Array (Option Value)} {oc67 kV67 dc67 pm67 cd67 ct67:Value}
 {a68:Addr} {od68 an68:Option Addr} {sl68:Array (Option Value)} {oc68 kV68 dc68 pm68 cd68 ct68:Value}
 {a69:Addr} {od69 an69:Option Addr} {sl69:Array (Option Value)} {oc69 kV69 dc69 pm69 cd69 ct69:Value}
 {ccTableTongue:Addr}
 {a70:Addr} {od70 an70:Option Addr} {sl70:Array (Option Value)} {oc70 kV70 dc70 pm70 cd70 ct70:Value}
 {a71:Addr} {od71 an71:Option Addr} {sl71:Array (Option Value)} {oc71 kV71 dc71 pm71 cd71 ct71:Value}
 {dV71:Addr} {ddc71:Value} {ddd71:Option Addr} {ddn71:Nat} {dsl71:Array (Option Value)} {ud71_0:Tok}
 {a72:Addr} {od72 an72:Option Addr} {sl72:Array (Option Value)} {oc72 kV72 dc72 pm72 cd72 ct72:Value}
 {dV72:Addr} {ddc72:Value} {ddd72:Option Addr} {ddn72:Nat} {dsl72:Array (Option Value)} {ud72_0:Tok}
 {a73:Addr} {od73 an73:Option Addr} {sl73:Array (Option Value)} {oc73 kV73 dc73 pm73 cd73 ct73:Value}
 {dV73:Addr} {ddc73:Value} {ddd73:Option Addr} {ddn73:Nat} {dsl73:Array (Option Value)} {ud73_0:Tok}
 {a74:Addr} {od74 an74:Option Addr} {sl74:Array (Option Value)} {oc74 kV74 dc74 pm74 cd74 ct74:Value}
 {a75:Addr} {od75 an75:Option Addr} {sl75:Array (Option Value)} {oc75 kV75 dc75 pm75 cd75 ct75:Value}
 {a76:Addr} {od76 an76:Option Addr} {sl76:Array (Option Value)} {oc76 kV76 dc76 pm76 cd76 ct76:Value}
 {a77:Addr} {od77 an77:Option Addr} {sl77:Array (Option Value)} {oc77 kV77 dc77 pm77 cd77 ct77:Value}
 {a78:Addr} {od78 an78:Option Addr} {sl78:Array (Option Value)} {oc78 kV78 dc78 pm78 cd78 ct78:Value}
 {a79:Addr} {od79 an79:Option Addr} {sl79:Array (Option Value)} {oc79 kV79 dc79 pm79 cd79 ct79:Value}
 {a80:Addr} {od80 an80:Option Addr} {sl80:Array (Option Value)} {oc80 kV80 dc80 pm80 cd80 ct80:Value}
 {a81:Addr} {od81 an81:Option Addr} {sl81:Array (Option Value)} {oc81 kV81 dc81 pm81 cd81 ct81:Value}
 {a82:Addr} {od82 an82:Option Addr} {sl82:Array (Option Value)} {oc82 kV82 dc82 pm82 cd82 ct82:Value}
 {a83:Addr} {od83 an83:Option Addr} {sl83:Array (Option Value)} {oc83 kV83 dc83 pm83 cd83 ct83:Value}
 {a84:Addr} {od84 an84:Option Addr} {sl84:Array (Option Value)} {oc84 kV84 dc84 pm84 cd84 ct84:Value}
 {a85:Addr} {od85 an85:Option Addr} {sl85:Array (Option Value)} {oc85 kV85 dc85 pm85 cd85 ct85:Value}
 {a86:Addr} {od86 an86:Option Addr} {sl86:Array (Option Value)} {oc86 kV86 dc86 pm86 cd86 ct86:Value}
 {a87:Addr} {od87 an87:Option Addr} {sl87:Array (Option Value)} {oc87 kV87 dc87 pm87 cd87 ct87:Value}
 {a88:Addr} {od88 an88:Option Addr} {sl88:Array (Option Value)} {oc88 kV88 dc88 pm88 cd88 ct88:Value}
 {a89:Addr} {od89 an89:Option Addr} {sl89:Array (Option Value)} {oc89 kV89 dc89 pm89 cd89 ct89:Value}
 {a90:Addr} {od90 an90:Option Addr} {sl90:Array (Option Value)} {oc90 kV90 dc90 pm90 cd90 ct90:Value}
 {ccWriter:Addr}
 {ccReader:Addr}
 {u0:Tok}
 {u1:Tok}
 {ta2:Addr} {es2:Array DictEntry} {ep2:Nat} {th2_0:Int} {ta2_0:Addr} {ti2_0:Array Value} {tn2_0:Nat} {ts2_0:Array (Option Value)} {th2_1:Int} {ta2_1:Addr} {ti2_1:Array Value} {tn2_1:Nat} {ts2_1:Array (Option Value)}
 {ta2_0_0:Addr} {ti2_0_0:Array Value} {tn2_0_0:Nat} {ts2_0_0:Array (Option Value)} {ta2_0_1:Addr} {ti2_0_1:Array Value} {tn2_0_1:Nat} {ts2_0_1:Array (Option Value)} {ta2_0_2:Addr} {ti2_0_2:Array Value} {tn2_0_2:Nat} {ts2_0_2:Array (Option Value)} {ta2_0_3:Addr} {ti2_0_3:Array Value} {tn2_0_3:Nat} {ts2_0_3:Array (Option Value)} {ta2_0_4:Addr} {ti2_0_4:Array Value} {tn2_0_4:Nat} {ts2_0_4:Array (Option Value)}
 {ta2_1_0:Addr} {ti2_1_0:Array Value} {tn2_1_0:Nat} {ts2_1_0:Array (Option Value)} {ta2_1_1:Addr} {ti2_1_1:Array Value} {tn2_1_1:Nat} {ts2_1_1:Array (Option Value)} {ta2_1_2:Addr} {ti2_1_2:Array Value} {tn2_1_2:Nat} {ts2_1_2:Array (Option Value)} {ta2_1_3:Addr} {ti2_1_3:Array Value} {tn2_1_3:Nat} {ts2_1_3:Array (Option Value)} {ta2_1_4:Addr} {ti2_1_4:Array Value} {tn2_1_4:Nat} {ts2_1_4:Array (Option Value)}
 {u3:Tok}
 {u4:Tok}
 {u5:Tok}
 {u6:Tok}
 {u7:Tok}
 {u8:Tok}
 {u9:Tok}
 {u10:Tok}
 {u11:Tok}
 {u12:Tok}
 {u13:Tok}
 {ta14:Addr} {ti14:Array Value} {tn14:Nat} {ts14:Array (Option Value)}
 {u15:Tok}
 {u16:Tok}
 {u17:Tok}
 {ta18:Addr} {es18:Array DictEntry} {ep18:Nat} {ta18_0:Addr} {ti18_0:Array Value} {tn18_0:Nat} {ts18_0:Array (Option Value)} {ta18_1:Addr} {ti18_1:Array Value} {tn18_1:Nat} {ts18_1:Array (Option Value)} {ta18_2:Addr} {ti18_2:Array Value} {tn18_2:Nat} {ts18_2:Array (Option Value)} {ta18_3:Addr} {ti18_3:Array Value} {tn18_3:Nat} {ts18_3:Array (Option Value)} {ta18_4:Addr} {ti18_4:Array Value} {tn18_4:Nat} {ts18_4:Array (Option Value)}
 {ta19:Addr} {ti19:Array Value} {tn19:Nat} {ts19:Array (Option Value)}
 (c0u:W.nsIn K mainGlobals "NoSign" = some (some (.ref eeNoSign)))
 (h0a:W.nsIn K mainGlobals "is_number" = some (some (.ref a0)))
 (h0l:K.lookup a0=some ⟨oc0,od0,.func (W.fnOf "is_number" "is_number" (a0t b1n) (a0s b1n) (a0f b1n) .none kV0 dc0 pm0 an0 cd0 ct0),sl0⟩)
 (h0c:W.codeIn K cd0 "is_number" = true)
 (h0k:W.keepIn K (.ref a0)=true)
 (h1a:W.nsIn K mainGlobals "is_byte" = some (some (.ref a1)))
 (h1l:K.lookup a1=some ⟨oc1,od1,.func (W.fnOf "is_byte" "is_byte" (a0t b7z) (a0s b7z) (a0f b7z) .none kV1 dc1 pm1 an1 cd1 ct1),sl1⟩)
 (h1c:W.codeIn K cd1 "is_byte" = true)
 (h1k:W.keepIn K (.ref a1)=true)
 (h2a:W.nsIn K mainGlobals "is_head" = some (some (.ref a2)))
 (h2l:K.lookup a2=some ⟨oc2,od2,.func (W.fnOf "is_head" "is_head" (a0t b7y) (a0s b7y) (a0f b7y) .none kV2 dc2 pm2 an2 cd2 ct2),sl2⟩)
 (h2c:W.codeIn K cd2 "is_head" = true)
 (h2k:W.keepIn K (.ref a2)=true)
 (h3a:W.nsIn K mainGlobals "is_tail" = some (some (.ref a3)))
 (h3l:K.lookup a3=some ⟨oc3,od3,.func (W.fnOf "is_tail" "is_tail" (a0t b7w) (a0s b7w) (a0f b7w) .none kV3 dc3 pm3 an3 cd3 ct3),sl3⟩)
 (h3c:W.codeIn K cd3 "is_tail" = true)
 (h3k:W.keepIn K (.ref a3)=true)
 (h4a:W.nsIn K mainGlobals "is_seen_byte" = some (some (.ref a4)))
 (h4l:K.lookup a4=some ⟨oc4,od4,.func (W.fnOf "is_seen_byte" "is_seen_byte" (a0t a6y) (a0s a6y) (a0f a6y) .none kV4 dc4 pm4 an4 cd4 ct4),sl4⟩)
 (h4c:W.codeIn K cd4 "is_seen_byte" = true)
 (h4k:W.keepIn K (.ref a4)=true)
 (h5a:W.nsIn K mainGlobals "is_sign" = some (some (.ref a5)))
 (h5l:K.lookup a5=some ⟨oc5,od5,.func (W.fnOf "is_sign" "is_sign" (a0t b7x) (a0s b7x) (a0f b7x) .none kV5 dc5 pm5 an5 cd5 ct5),sl5⟩)
 (h5c:W.codeIn K cd5 "is_sign" = true)
 (h5k:W.keepIn K (.ref a5)=true)
 (h6a:W.nsIn K mainGlobals "is_row" = some (some (.ref a6)))
 (h6l:K.lookup a6=some ⟨oc6,od6,.func (W.fnOf "is_row" "is_row" (a0t b8p) (a0s b8p) (a0f b8p) .none kV6 dc6 pm6 an6 cd6 ct6),sl6⟩)
 (h6c:W.codeIn K cd6 "is_row" = true)
 (h6k:W.keepIn K (.ref a6)=true)
 (h7a:W.nsIn K mainGlobals "is_seen" = some (some (.ref a7)))
 (h7l:K.lookup a7=some ⟨oc7,od7,.func (W.fnOf "is_seen" "is_seen" (a0t b5b) (a0s b5b) (a0f b5b) .none kV7 dc7 pm7 an7 cd7 ct7),sl7⟩)
 (h7c:W.codeIn K cd7 "is_seen" = true)
 (h7k:W.keepIn K (.ref a7)=true)
 (h8a:W.nsIn K mainGlobals "write_from" = some (some (.ref a8)))
 (h8l:K.lookup a8=some ⟨oc8,od8,.func (W.fnOf "write_from" "write_from" (a0t b0o) (a0s b0o) (a0f b0o) .none kV8 dc8 pm8 an8 cd8 ct8),sl8⟩)
 (h8c:W.codeIn K cd8 "write_from" = true)
 (h8k:W.keepIn K (.ref a8)=true)
 (h9a:W.nsIn K mainGlobals "write" = some (some (.ref a9)))
 (h9l:K.lookup a9=some ⟨oc9,od9,.func (W.fnOf "write" "write" (a0t c7f) (a0s c7f) (a0f c7f) .none kV9 dc9 pm9 an9 cd9 ct9),sl9⟩)
 (h9c:W.codeIn K cd9 "write" = true)
 (h9k:W.keepIn K (.ref a9)=true)
 (b7j:W.nsIn K mainGlobals "SeenSpeller" = some (some (.ref ccSeenSpeller)))
 (b2g:W.plainGet K ccSeenSpeller Str.empty=true)
 (b2o:W.hasDictIn K ccSeenSpeller=true)
 (b2k:W.plainOver K ccSeenSpeller=true)
 (b2c:W.findIn K (.ref ccSeenSpeller) "__setattr__" = some (some (.builtin "object.__setattr__")))
 (b7b:W.makesIn K ccSeenSpeller=true)
 (b7f:W.keepIn K (.ref ccSeenSpeller)=true)
 (b6x:W.findIn K (.ref ccSeenSpeller) "__class__" = some (some (.builtin "object.__class__")))
 (b6t:W.specialIn K (.builtin "object.__class__") "__get__" = some (some (.builtin "getset_descriptor.__get__")))
 (b6p:W.takesIn K (.builtin "object.__class__")=some true)
 (cw_SeenSpeller:W.mroIn K ccSeenSpeller (.type "object")=some true)
 (a8n:W.findIn K (.ref ccSeenSpeller) "tongue" = some none)
 (h10a:W.findIn K (.ref ccSeenSpeller) "__init__" = some (some (.ref a10)))
 (h10f:W.isFn K (.ref a10)=true)
 (h10l:K.lookup a10=some ⟨oc10,od10,.func (W.fnOf "__init__" "SeenSpeller.__init__" (a0t a3v) (a0s a3v) (a0f a3v) .none kV10 dc10 pm10 an10 cd10 ct10),sl10⟩)
 (h10c:W.codeIn K cd10 "SeenSpeller.__init__" = true)
 (h10k:W.keepIn K (.ref a10)=true)
 (h11a:W.findIn K (.ref ccSeenSpeller) "spell" = some (some (.ref a11)))
 (h11f:W.isFn K (.ref a11)=true)
 (h11l:K.lookup a11=some ⟨oc11,od11,.func (W.fnOf "spell" "SeenSpeller.spell" (a0t a3j) (a0s a3j) (a0f a3j) .none kV11 dc11 pm11 an11 cd11 ct11),sl11⟩)
 (h11c:W.codeIn K cd11 "SeenSpeller.spell" = true)
 (h11k:W.keepIn K (.ref a11)=true)
 (h12l:K.lookup a12=some ⟨oc12,od12,.func (W.fnOf "__init__" "Writer.__init__" (a0t a8w) (a0s a8w) (a0f a8w) .none kV12 dc12 pm12 an12 cd12 ct12),sl12⟩)
 (h12c:W.codeIn K cd12 "Writer.__init__" = true)
 (h12k:W.keepIn K (.ref a12)=true)
 (b9s:W.nsIn K mainGlobals "SeenWriter" = some (some (.ref ccSeenWriter)))
 (b3y:W.plainGet K ccSeenWriter Str.empty=true)
 (b4e:W.hasDictIn K ccSeenWriter=true)
 (b4b:W.plainOver K ccSeenWriter=true)
 (b3v:W.findIn K (.ref ccSeenWriter) "__setattr__" = some (some (.builtin "object.__setattr__")))
 (b9l:W.makesIn K ccSeenWriter=true)
 (b9o:W.keepIn K (.ref ccSeenWriter)=true)
 (b9i:W.findIn K (.ref ccSeenWriter) "__class__" = some (some (.builtin "object.__class__")))
 (b9f:W.specialIn K (.builtin "object.__class__") "__get__" = some (some (.builtin "getset_descriptor.__get__")))
 (b9c:W.takesIn K (.builtin "object.__class__")=some true)
 (cw_SeenWriter:W.mroIn K ccSeenWriter (.type "object")=some true)
 (a8m:W.findIn K (.ref ccSeenWriter) "at_page" = some none)
 (a9q:W.findIn K (.ref ccSeenWriter) "tongue" = some none)
 (h13a:W.findIn K (.ref ccSeenWriter) "__init__" = some (some (.ref a13)))
 (h13f:W.isFn K (.ref a13)=true)
 (h13l:K.lookup a13=some ⟨oc13,od13,.func (W.fnOf "__init__" "SeenWriter.__init__" (a0t a4l) (a0s a4l) (a0f a4l) .none kV13 dc13 pm13 an13 cd13 ct13),sl13⟩)
 (h13c:W.codeIn K cd13 "SeenWriter.__init__" = true)
 (h13k:W.keepIn K (.ref a13)=true)
 (h14a:W.findIn K (.ref ccSeenWriter) "feed" = some (some (.ref a14)))
 (h14f:W.isFn K (.ref a14)=true)
 (h14l:K.lookup a14=some ⟨oc14,od14,.func (W.fnOf "feed" "Writer.feed" (a0t a8x) (a0s a8x) (a0f a8x) .none kV14 dc14 pm14 an14 cd14 ct14),sl14⟩)
 (h14c:W.codeIn K cd14 "Writer.feed" = true)
 (h14k:W.keepIn K (.ref a14)=true)
 (h15a:W.nsIn K mainGlobals "write_seen" = some (some (.ref a15)))
 (h15l:K.lookup a15=some ⟨oc15,od15,.func (W.fnOf "write_seen" "write_seen" (a0t b0n) (a0s b0n) (a0f b0n) .none kV15 dc15 pm15 an15 cd15 ct15),sl15⟩)
 (h15c:W.codeIn K cd15 "write_seen" = true)
 (h15k:W.keepIn K (.ref a15)=true)
 (d7m:W.nsIn K mainGlobals "Leave" = some (some (.ref ccLeave)))
 (c9r:W.plainGet K ccLeave Str.empty=true)
 (c9v:W.hasDictIn K ccLeave=true)
 (c9u:W.plainOver K ccLeave=true)
 (c9q:W.findIn K (.ref ccLeave) "__setattr__" = some (some (.builtin "object.__setattr__")))
 (d7i:W.makesIn K ccLeave=true)
 (d7k:W.keepIn K (.ref ccLeave)=true)
 (d7l:W.findIn K (.ref ccLeave) "__init__" = some (some (.builtin "object.__init__")))
 (d7g:W.findIn K (.ref ccLeave) "__class__" = some (some (.builtin "object.__class__")))
 (d7f:W.specialIn K (.builtin "object.__class__") "__get__" = some (some (.builtin "getset_descriptor.__get__")))
 (d7e:W.takesIn K (.builtin "object.__class__")=some true)
 (cw_Leave:W.mroIn K ccLeave (.type "object")=some true)
 (h16a:W.findIn K (.ref ccLeave) "told" = some (some (.ref a16)))
 (h16f:W.isFn K (.ref a16)=true)
 (h16l:K.lookup a16=some ⟨oc16,od16,.func (W.fnOf "told" "Way.told" (a0t b4q) (a0s b4q) (a0f b4q) .none kV16 dc16 pm16 an16 cd16 ct16),sl16⟩)
 (h16c:W.codeIn K cd16 "Way.told" = true)
 (h16k:W.keepIn K (.ref a16)=true)
 (f3w:W.nsIn K mainGlobals "Put" = some (some (.ref ccPut)))
 (e5u:W.plainGet K ccPut Str.empty=true)
 (e5z:W.hasDictIn K ccPut=true)
 (e5w:W.plainOver K ccPut=true)
 (e5s:W.findIn K (.ref ccPut) "__setattr__" = some (some (.builtin "object.__setattr__")))
 (f3p:W.makesIn K ccPut=true)
 (f3t:W.keepIn K (.ref ccPut)=true)
 (f3l:W.findIn K (.ref ccPut) "__class__" = some (some (.builtin "object.__class__")))
 (f3j:W.specialIn K (.builtin "object.__class__") "__get__" = some (some (.builtin "getset_descriptor.__get__")))
 (f3h:W.takesIn K (.builtin "object.__class__")=some true)
 (cw_Put:W.mroIn K ccPut (.type "object")=some true)
 (c4f:W.findIn K (.ref ccPut) "sign" = some none)
 (h17a:W.findIn K (.ref ccPut) "__init__" = some (some (.ref a17)))
 (h17f:W.isFn K (.ref a17)=true)
 (h17l:K.lookup a17=some ⟨oc17,od17,.func (W.fnOf "__init__" "Put.__init__" (a0t b4s) (a0s b4s) (a0f b4s) (.ref dV17) kV17 dc17 pm17 an17 cd17 ct17),sl17⟩)
 (h17c:W.codeIn K cd17 "Put.__init__" = true)
 (h17k:W.keepIn K (.ref a17)=true)
 (h17d:K.lookup dV17=some ⟨ddc17,ddd17,.seq ([.int 65533 ud17_0]:List Value).toArray ddn17,dsl17⟩)
 (h18a:W.findIn K (.ref ccPut) "told" = some (some (.ref a18)))
 (h18f:W.isFn K (.ref a18)=true)
 (h18l:K.lookup a18=some ⟨oc18,od18,.func (W.fnOf "told" "Put.told" (a0t b4r) (a0s b4r) (a0f b4r) .none kV18 dc18 pm18 an18 cd18 ct18),sl18⟩)
 (h18c:W.codeIn K cd18 "Put.told" = true)
 (h18k:W.keepIn K (.ref a18)=true)
 (f3v:W.nsIn K mainGlobals "See" = some (some (.ref ccSee)))
 (e5t:W.plainGet K ccSee Str.empty=true)
 (e5y:W.hasDictIn K ccSee=true)
 (e5v:W.plainOver K ccSee=true)
 (e5r:W.findIn K (.ref ccSee) "__setattr__" = some (some (.builtin "object.__setattr__")))
 (f3o:W.makesIn K ccSee=true)
 (f3s:W.keepIn K (.ref ccSee)=true)
 (f3u:W.findIn K (.ref ccSee) "__init__" = some (some (.builtin "object.__init__")))
 (f3k:W.findIn K (.ref ccSee) "__class__" = some (some (.builtin "object.__class__")))
 (f3i:W.specialIn K (.builtin "object.__class__") "__get__" = some (some (.builtin "getset_descriptor.__get__")))
 (f3g:W.takesIn K (.builtin "object.__class__")=some true)
 (cw_See:W.mroIn K ccSee (.type "object")=some true)
 (h19a:W.findIn K (.ref ccSee) "told" = some (some (.ref a19)))
 (h19f:W.isFn K (.ref a19)=true)
 (h19l:K.lookup a19=some ⟨oc19,od19,.func (W.fnOf "told" "See.told" (a0t b1o) (a0s b1o) (a0f b1o) .none kV19 dc19 pm19 an19 cd19 ct19),sl19⟩)
 (h19c:W.codeIn K cd19 "See.told" = true)
 (h19k:W.keepIn K (.ref a19)=true)
 (h20l:K.lookup a20=some ⟨oc20,od20,.func (W.fnOf "__init__" "Reader.__init__" (a0t a9d) (a0s a9d) (a0f a9d) (.ref dV20) kV20 dc20 pm20 an20 cd20 ct20),sl20⟩)
 (h20c:W.codeIn K cd20 "Reader.__init__" = true)
 (h20k:W.keepIn K (.ref a20)=true)
 (h20d:K.lookup dV20=some ⟨ddc20,ddd20,.seq ([.int 0 ud20_0]:List Value).toArray ddn20,dsl20⟩)
 (b7k:W.nsIn K mainGlobals "GoingReader" = some (some (.ref ccGoingReader)))
 (b2h:W.plainGet K ccGoingReader Str.empty=true)
 (b2p:W.hasDictIn K ccGoingReader=true)
 (b2l:W.plainOver K ccGoingReader=true)
 (b2d:W.findIn K (.ref ccGoingReader) "__setattr__" = some (some (.builtin "object.__setattr__")))
 (b7c:W.makesIn K ccGoingReader=true)
 (b7g:W.keepIn K (.ref ccGoingReader)=true)
 (b6y:W.findIn K (.ref ccGoingReader) "__class__" = some (some (.builtin "object.__class__")))
 (b6u:W.specialIn K (.builtin "object.__class__") "__get__" = some (some (.builtin "getset_descriptor.__get__")))
 (b6q:W.takesIn K (.builtin "object.__class__")=some true)
 (cw_GoingReader:W.mroIn K ccGoingReader (.type "object")=some true)
 (a7f:W.findIn K (.ref ccGoingReader) "at_page" = some none)
 (a9t:W.findIn K (.ref ccGoingReader) "begun" = some none)
 (a9s:W.findIn K (.ref ccGoingReader) "ended" = some none)
 (b0g:W.findIn K (.ref ccGoingReader) "many" = some none)
 (b1c:W.findIn K (.ref ccGoingReader) "met" = some none)
 (a9r:W.findIn K (.ref ccGoingReader) "place" = some none)
 (a8o:W.findIn K (.ref ccGoingReader) "tongue" = some none)
 (b1b:W.findIn K (.ref ccGoingReader) "way" = some none)
 (h21a:W.findIn K (.ref ccGoingReader) "__init__" = some (some (.ref a21)))
 (h21f:W.isFn K (.ref a21)=true)
 (h21l:K.lookup a21=some ⟨oc21,od21,.func (W.fnOf "__init__" "GoingReader.__init__" (a0t a4c) (a0s a4c) (a0f a4c) (.ref dV21) kV21 dc21 pm21 an21 cd21 ct21),sl21⟩)
 (h21c:W.codeIn K cd21 "GoingReader.__init__" = true)
 (h21k:W.keepIn K (.ref a21)=true)
 (h21d:K.lookup dV21=some ⟨ddc21,ddd21,.seq ([.int 0 ud21_0]:List Value).toArray ddn21,dsl21⟩)
 (h22a:W.findIn K (.ref ccGoingReader) "meet" = some (some (.ref a22)))
 (h22f:W.isFn K (.ref a22)=true)
 (h22l:K.lookup a22=some ⟨oc22,od22,.func (W.fnOf "meet" "GoingReader.meet" (a0t a4b) (a0s a4b) (a0f a4b) .none kV22 dc22 pm22 an22 cd22 ct22),sl22⟩)
 (h22c:W.codeIn K cd22 "GoingReader.meet" = true)
 (h22k:W.keepIn K (.ref a22)=true)
 (h23a:W.findIn K (.ref ccGoingReader) "faults" = some (some (.ref a23)))
 (h23f:W.isFn K (.ref a23)=true)
 (h23l:K.lookup a23=some ⟨oc23,od23,.func (W.fnOf "faults" "Reader.faults" (a0t a6a) (a0s a6a) (a0f a6a) .none kV23 dc23 pm23 an23 cd23 ct23),sl23⟩)
 (h23c:W.codeIn K cd23 "Reader.faults" = true)
 (h23k:W.keepIn K (.ref a23)=true)
 (h24a:W.findIn K (.ref ccGoingReader) "feed" = some (some (.ref a24)))
 (h24f:W.isFn K (.ref a24)=true)
 (h24l:K.lookup a24=some ⟨oc24,od24,.func (W.fnOf "feed" "Reader.feed" (a0t a9e) (a0s a9e) (a0f a9e) .none kV24 dc24 pm24 an24 cd24 ct24),sl24⟩)
 (h24c:W.codeIn K cd24 "Reader.feed" = true)
 (h24k:W.keepIn K (.ref a24)=true)
 (h25a:W.findIn K (.ref ccGoingReader) "end" = some (some (.ref a25)))
 (h25f:W.isFn K (.ref a25)=true)
 (h25l:K.lookup a25=some ⟨oc25,od25,.func (W.fnOf "end" "Reader.end" (a0t b0q) (a0s b0q) (a0f b0q) .none kV25 dc25 pm25 an25 cd25 ct25),sl25⟩)
 (h25c:W.codeIn K cd25 "Reader.end" = true)
 (h25k:W.keepIn K (.ref a25)=true)
 (h26a:W.findIn K (.ref ccGoingReader) "take" = some (some (.ref a26)))
 (h26f:W.isFn K (.ref a26)=true)
 (h26l:K.lookup a26=some ⟨oc26,od26,.func (W.fnOf "take" "Reader.take" (a0t a9b) (a0s a9b) (a0f a9b) .none kV26 dc26 pm26 an26 cd26 ct26),sl26⟩)
 (h26c:W.codeIn K cd26 "Reader.take" = true)
 (h26k:W.keepIn K (.ref a26)=true)
 (h27a:W.findIn K (.ref ccGoingReader) "look_at_begun" = some (some (.ref a27)))
 (h27f:W.isFn K (.ref a27)=true)
 (h27l:K.lookup a27=some ⟨oc27,od27,.func (W.fnOf "look_at_begun" "Reader.look_at_begun" (a0t a2p) (a0s a2p) (a0f a2p) .none kV27 dc27 pm27 an27 cd27 ct27),sl27⟩)
 (h27c:W.codeIn K cd27 "Reader.look_at_begun" = true)
 (h27k:W.keepIn K (.ref a27)=true)
 (h28a:W.findIn K (.ref ccGoingReader) "meet_none" = some (some (.ref a28)))
 (h28f:W.isFn K (.ref a28)=true)
 (h28l:K.lookup a28=some ⟨oc28,od28,.func (W.fnOf "meet_none" "Reader.meet_none" (a0t a3w) (a0s a3w) (a0f a3w) .none kV28 dc28 pm28 an28 cd28 ct28),sl28⟩)
 (h28c:W.codeIn K cd28 "Reader.meet_none" = true)
 (h28k:W.keepIn K (.ref a28)=true)
 (h29a:W.findIn K (.ref ccGoingReader) "note" = some (some (.ref a29)))
 (h29f:W.isFn K (.ref a29)=true)
 (h29l:K.lookup a29=some ⟨oc29,od29,.func (W.fnOf "note" "Reader.note" (a0t a9c) (a0s a9c) (a0f a9c) .none kV29 dc29 pm29 an29 cd29 ct29),sl29⟩)
 (h29c:W.codeIn K cd29 "Reader.note" = true)
 (h29k:W.keepIn K (.ref a29)=true)
 (h30a:W.nsIn K mainGlobals "check_room" = some (some (.ref a30)))
 (h30l:K.lookup a30=some ⟨oc30,od30,.func (W.fnOf "check_room" "check_room" (a0t b0p) (a0s b0p) (a0f b0p) .none kV30 dc30 pm30 an30 cd30 ct30),sl30⟩)
 (h30c:W.codeIn K cd30 "check_room" = true)
 (h30k:W.keepIn K (.ref a30)=true)
 (h31a:W.nsIn K mainGlobals "parted" = some (some (.ref a31)))
 (h31l:K.lookup a31=some ⟨oc31,od31,.func (W.fnOf "parted" "parted" (a0t c1w) (a0s c1w) (a0f c1w) .none kV31 dc31 pm31 an31 cd31 ct31),sl31⟩)
 (h31c:W.codeIn K cd31 "parted" = true)
 (h31k:W.keepIn K (.ref a31)=true)
 (h32a:W.nsIn K mainGlobals "together" = some (some (.ref a32)))
 (h32l:K.lookup a32=some ⟨oc32,od32,.func (W.fnOf "together" "together" (a0t b4o) (a0s b4o) (a0f b4o) .none kV32 dc32 pm32 an32 cd32 ct32),sl32⟩)
 (h32c:W.codeIn K cd32 "together" = true)
 (h32k:W.keepIn K (.ref a32)=true)
 (d2f:W.nsIn K mainGlobals "Tongue" = some (some (.ref ccTongue)))
 (c5x:W.plainGet K ccTongue Str.empty=true)
 (c6a:W.hasDictIn K ccTongue=true)
 (c5y:W.plainOver K ccTongue=true)
 (c5w:W.findIn K (.ref ccTongue) "__setattr__" = some (some (.builtin "object.__setattr__")))
 (d2b:W.makesIn K ccTongue=true)
 (d2c:W.keepIn K (.ref ccTongue)=true)
 (d2d:W.findIn K (.ref ccTongue) "__init__" = some (some (.builtin "object.__init__")))
 (d2a:W.findIn K (.ref ccTongue) "__class__" = some (some (.builtin "object.__class__")))
 (d1z:W.specialIn K (.builtin "object.__class__") "__get__" = some (some (.builtin "getset_descriptor.__get__")))
 (d1w:W.takesIn K (.builtin "object.__class__")=some true)
 (cw_Tongue:W.mroIn K ccTongue (.type "object")=some true)
 (h33a:W.findIn K (.ref ccTongue) "unit" = some (some (.ref a33)))
 (h33f:W.isFn K (.ref a33)=true)
 (h33l:K.lookup a33=some ⟨oc33,od33,.func (W.fnOf "unit" "Tongue.unit" (a0t a8y) (a0s a8y) (a0f a8y) .none kV33 dc33 pm33 an33 cd33 ct33),sl33⟩)
 (h33c:W.codeIn K cd33 "Tongue.unit" = true)
 (h33k:W.keepIn K (.ref a33)=true)
 (h34a:W.findIn K (.ref ccTongue) "spell" = some (some (.ref a34)))
 (h34f:W.isFn K (.ref a34)=true)
 (h34l:K.lookup a34=some ⟨oc34,od34,.func (W.fnOf "spell" "Tongue.spell" (a0t a7a) (a0s a7a) (a0f a7a) (.ref dV34) kV34 dc34 pm34 an34 cd34 ct34),sl34⟩)
 (h34c:W.codeIn K cd34 "Tongue.spell" = true)
 (h34k:W.keepIn K (.ref a34)=true)
 (h34d:K.lookup dV34=some ⟨ddc34,ddd34,.seq ([.int 0 ud34_0]:List Value).toArray ddn34,dsl34⟩)
 (h35a:W.findIn K (.ref ccTongue) "whole" = some (some (.ref a35)))
 (h35f:W.isFn K (.ref a35)=true)
 (h35l:K.lookup a35=some ⟨oc35,od35,.func (W.fnOf "whole" "Tongue.whole" (a0t a6z) (a0s a6z) (a0f a6z) (.ref dV35) kV35 dc35 pm35 an35 cd35 ct35),sl35⟩)
 (h35c:W.codeIn K cd35 "Tongue.whole" = true)
 (h35k:W.keepIn K (.ref a35)=true)
 (h35d:K.lookup dV35=some ⟨ddc35,ddd35,.seq ([.int 0 ud35_0]:List Value).toArray ddn35,dsl35⟩)
 (h36a:W.findIn K (.ref ccTongue) "fill" = some (some (.ref a36)))
 (h36f:W.isFn K (.ref a36)=true)
 (h36l:K.lookup a36=some ⟨oc36,od36,.func (W.fnOf "fill" "Tongue.fill" (a0t a9a) (a0s a9a) (a0f a9a) (.ref dV36) kV36 dc36 pm36 an36 cd36 ct36),sl36⟩)
 (h36c:W.codeIn K cd36 "Tongue.fill" = true)
 (h36k:W.keepIn K (.ref a36)=true)
 (h36d:K.lookup dV36=some ⟨ddc36,ddd36,.seq ([.int 0 ud36_0]:List Value).toArray ddn36,dsl36⟩)
 (h37a:W.findIn K (.ref ccTongue) "look" = some (some (.ref a37)))
 (h37f:W.isFn K (.ref a37)=true)
 (h37l:K.lookup a37=some ⟨oc37,od37,.func (W.fnOf "look" "Tongue.look" (a0t a8z) (a0s a8z) (a0f a8z) (.ref dV37) kV37 dc37 pm37 an37 cd37 ct37),sl37⟩)
 (h37c:W.codeIn K cd37 "Tongue.look" = true)
 (h37k:W.keepIn K (.ref a37)=true)
 (h37d:K.lookup dV37=some ⟨ddc37,ddd37,.seq ([.int 0 ud37_0]:List Value).toArray ddn37,dsl37⟩)
 (h38a:W.nsIn K mainGlobals "length_of" = some (some (.ref a38)))
 (h38l:K.lookup a38=some ⟨oc38,od38,.func (W.fnOf "length_of" "length_of" (a0t b1l) (a0s b1l) (a0f b1l) .none kV38 dc38 pm38 an38 cd38 ct38),sl38⟩)
 (h38c:W.codeIn K cd38 "length_of" = true)
 (h38k:W.keepIn K (.ref a38)=true)
 (h39a:W.nsIn K mainGlobals "lead_row" = some (some (.ref a39)))
 (h39l:K.lookup a39=some ⟨oc39,od39,.func (W.fnOf "lead_row" "lead_row" (a0t b1m) (a0s b1m) (a0f b1m) .none kV39 dc39 pm39 an39 cd39 ct39),sl39⟩)
 (h39c:W.codeIn K cd39 "lead_row" = true)
 (h39k:W.keepIn K (.ref a39)=true)
 (h40a:W.nsIn K mainGlobals "length_behind" = some (some (.ref a40)))
 (h40l:K.lookup a40=some ⟨oc40,od40,.func (W.fnOf "length_behind" "length_behind" (a0t a5y) (a0s a5y) (a0f a5y) .none kV40 dc40 pm40 an40 cd40 ct40),sl40⟩)
 (h40c:W.codeIn K cd40 "length_behind" = true)
 (h40k:W.keepIn K (.ref a40)=true)
 (h41a:W.nsIn K mainGlobals "bounds_behind" = some (some (.ref a41)))
 (h41l:K.lookup a41=some ⟨oc41,od41,.func (W.fnOf "bounds_behind" "bounds_behind" (a0t a5z) (a0s a5z) (a0f a5z) .none kV41 dc41 pm41 an41 cd41 ct41),sl41⟩)
 (h41c:W.codeIn K cd41 "bounds_behind" = true)
 (h41k:W.keepIn K (.ref a41)=true)
 (h42a:W.nsIn K mainGlobals "fits_behind" = some (some (.ref a42)))
 (h42l:K.lookup a42=some ⟨oc42,od42,.func (W.fnOf "fits_behind" "fits_behind" (a0t a8u) (a0s a8u) (a0f a8u) .none kV42 dc42 pm42 an42 cd42 ct42),sl42⟩)
 (h42c:W.codeIn K cd42 "fits_behind" = true)
 (h42k:W.keepIn K (.ref a42)=true)
 (h43a:W.nsIn K mainGlobals "missing" = some (some (.ref a43)))
 (h43l:K.lookup a43=some ⟨oc43,od43,.func (W.fnOf "missing" "missing" (a0t b7v) (a0s b7v) (a0f b7v) .none kV43 dc43 pm43 an43 cd43 ct43),sl43⟩)
 (h43c:W.codeIn K cd43 "missing" = true)
 (h43k:W.keepIn K (.ref a43)=true)
 (h44a:W.nsIn K mainGlobals "carried" = some (some (.ref a44)))
 (h44l:K.lookup a44=some ⟨oc44,od44,.func (W.fnOf "carried" "carried" (a0t b5c) (a0s b5c) (a0f b5c) .none kV44 dc44 pm44 an44 cd44 ct44),sl44⟩)
 (h44c:W.codeIn K cd44 "carried" = true)
 (h44k:W.keepIn K (.ref a44)=true)
 (b9u:W.nsIn K mainGlobals "LeadTongue" = some (some (.ref ccLeadTongue)))
 (b4a:W.plainGet K ccLeadTongue Str.empty=true)
 (b4g:W.hasDictIn K ccLeadTongue=true)
 (b4d:W.plainOver K ccLeadTongue=true)
 (b3x:W.findIn K (.ref ccLeadTongue) "__setattr__" = some (some (.builtin "object.__setattr__")))
 (b9n:W.makesIn K ccLeadTongue=true)
 (b9q:W.keepIn K (.ref ccLeadTongue)=true)
 (b9r:W.findIn K (.ref ccLeadTongue) "__init__" = some (some (.builtin "object.__init__")))
 (b9k:W.findIn K (.ref ccLeadTongue) "__class__" = some (some (.builtin "object.__class__")))
 (b9h:W.specialIn K (.builtin "object.__class__") "__get__" = some (some (.builtin "getset_descriptor.__get__")))
 (b9e:W.takesIn K (.builtin "object.__class__")=some true)
 (cw_LeadTongue:W.mroIn K ccLeadTongue (.type "object")=some true)
 (h45a:W.findIn K (.ref ccLeadTongue) "spell" = some (some (.ref a45)))
 (h45f:W.isFn K (.ref a45)=true)
 (h45l:K.lookup a45=some ⟨oc45,od45,.func (W.fnOf "spell" "LeadTongue.spell" (a0t a4a) (a0s a4a) (a0f a4a) (.ref dV45) kV45 dc45 pm45 an45 cd45 ct45),sl45⟩)
 (h45c:W.codeIn K cd45 "LeadTongue.spell" = true)
 (h45k:W.keepIn K (.ref a45)=true)
 (h45d:K.lookup dV45=some ⟨ddc45,ddd45,.seq ([.int 0 ud45_0]:List Value).toArray ddn45,dsl45⟩)
 (h46a:W.findIn K (.ref ccLeadTongue) "whole" = some (some (.ref a46)))
 (h46f:W.isFn K (.ref a46)=true)
 (h46l:K.lookup a46=some ⟨oc46,od46,.func (W.fnOf "whole" "LeadTongue.whole" (a0t a3z) (a0s a3z) (a0f a3z) (.ref dV46) kV46 dc46 pm46 an46 cd46 ct46),sl46⟩)
 (h46c:W.codeIn K cd46 "LeadTongue.whole" = true)
 (h46k:W.keepIn K (.ref a46)=true)
 (h46d:K.lookup dV46=some ⟨ddc46,ddd46,.seq ([.int 0 ud46_0]:List Value).toArray ddn46,dsl46⟩)
 (h47a:W.findIn K (.ref ccLeadTongue) "fill" = some (some (.ref a47)))
 (h47f:W.isFn K (.ref a47)=true)
 (h47l:K.lookup a47=some ⟨oc47,od47,.func (W.fnOf "fill" "LeadTongue.fill" (a0t a3m) (a0s a3m) (a0f a3m) (.ref dV47) kV47 dc47 pm47 an47 cd47 ct47),sl47⟩)
 (h47c:W.codeIn K cd47 "LeadTongue.fill" = true)
 (h47k:W.keepIn K (.ref a47)=true)
 (h47d:K.lookup dV47=some ⟨ddc47,ddd47,.seq ([.int 0 ud47_0]:List Value).toArray ddn47,dsl47⟩)
 (h48a:W.nsIn K mainGlobals "units_of" = some (some (.ref a48)))
 (h48l:K.lookup a48=some ⟨oc48,od48,.func (W.fnOf "units_of" "units_of" (a0t b4n) (a0s b4n) (a0f b4n) .none kV48 dc48 pm48 an48 cd48 ct48),sl48⟩)
 (h48c:W.codeIn K cd48 "units_of" = true)
 (h48k:W.keepIn K (.ref a48)=true)
 (h49a:W.nsIn K mainGlobals "sign_of" = some (some (.ref a49)))
 (h49l:K.lookup a49=some ⟨oc49,od49,.func (W.fnOf "sign_of" "sign_of" (a0t b7u) (a0s b7u) (a0f b7u) .none kV49 dc49 pm49 an49 cd49 ct49),sl49⟩)
 (h49c:W.codeIn K cd49 "sign_of" = true)
 (h49k:W.keepIn K (.ref a49)=true)
 (b9t:W.nsIn K mainGlobals "PairTongue" = some (some (.ref ccPairTongue)))
 (b3z:W.plainGet K ccPairTongue Str.empty=true)
 (b4f:W.hasDictIn K ccPairTongue=true)
 (b4c:W.plainOver K ccPairTongue=true)
 (b3w:W.findIn K (.ref ccPairTongue) "__setattr__" = some (some (.builtin "object.__setattr__")))
 (b9m:W.makesIn K ccPairTongue=true)
 (b9p:W.keepIn K (.ref ccPairTongue)=true)
 (b9j:W.findIn K (.ref ccPairTongue) "__class__" = some (some (.builtin "object.__class__")))
 (b9g:W.specialIn K (.builtin "object.__class__") "__get__" = some (some (.builtin "getset_descriptor.__get__")))
 (b9d:W.takesIn K (.builtin "object.__class__")=some true)
 (cw_PairTongue:W.mroIn K ccPairTongue (.type "object")=some true)
 (b0f:W.findIn K (.ref ccPairTongue) "order" = some none)
 (h50a:W.findIn K (.ref ccPairTongue) "__init__" = some (some (.ref a50)))
 (h50f:W.isFn K (.ref a50)=true)
 (h50l:K.lookup a50=some ⟨oc50,od50,.func (W.fnOf "__init__" "PairTongue.__init__" (a0t a4n) (a0s a4n) (a0f a4n) (.ref dV50) kV50 dc50 pm50 an50 cd50 ct50),sl50⟩)
 (h50c:W.codeIn K cd50 "PairTongue.__init__" = true)
 (h50k:W.keepIn K (.ref a50)=true)
 (h50d:K.lookup dV50=some ⟨ddc50,ddd50,.seq ([.str "high" ud50_0]:List Value).toArray ddn50,dsl50⟩)
 (h51a:W.findIn K (.ref ccPairTongue) "unit" = some (some (.ref a51)))
 (h51f:W.isFn K (.ref a51)=true)
 (h51l:K.lookup a51=some ⟨oc51,od51,.func (W.fnOf "unit" "PairTongue.unit" (a0t a4m) (a0s a4m) (a0f a4m) .none kV51 dc51 pm51 an51 cd51 ct51),sl51⟩)
 (h51c:W.codeIn K cd51 "PairTongue.unit" = true)
 (h51k:W.keepIn K (.ref a51)=true)
 (h52a:W.findIn K (.ref ccPairTongue) "turned" = some (some (.ref a52)))
 (h52f:W.isFn K (.ref a52)=true)
 (h52l:K.lookup a52=some ⟨oc52,od52,.func (W.fnOf "turned" "PairTongue.turned" (a0t a3k) (a0s a3k) (a0f a3k) .none kV52 dc52 pm52 an52 cd52 ct52),sl52⟩)
 (h52c:W.codeIn K cd52 "PairTongue.turned" = true)
 (h52k:W.keepIn K (.ref a52)=true)
 (h53a:W.findIn K (.ref ccPairTongue) "row_of" = some (some (.ref a53)))
 (h53f:W.isFn K (.ref a53)=true)
 (h53l:K.lookup a53=some ⟨oc53,od53,.func (W.fnOf "row_of" "PairTongue.row_of" (a0t a3l) (a0s a3l) (a0f a3l) .none kV53 dc53 pm53 an53 cd53 ct53),sl53⟩)
 (h53c:W.codeIn K cd53 "PairTongue.row_of" = true)
 (h53k:W.keepIn K (.ref a53)=true)
 (h54a:W.findIn K (.ref ccPairTongue) "units_in" = some (some (.ref a54)))
 (h54f:W.isFn K (.ref a54)=true)
 (h54l:K.lookup a54=some ⟨oc54,od54,.func (W.fnOf "units_in" "PairTongue.units_in" (a0t a2i) (a0s a2i) (a0f a2i) .none kV54 dc54 pm54 an54 cd54 ct54),sl54⟩)
 (h54c:W.codeIn K cd54 "PairTongue.units_in" = true)
 (h54k:W.keepIn K (.ref a54)=true)
 (h55a:W.findIn K (.ref ccPairTongue) "spell" = some (some (.ref a55)))
 (h55f:W.isFn K (.ref a55)=true)
 (h55l:K.lookup a55=some ⟨oc55,od55,.func (W.fnOf "spell" "PairTongue.spell" (a0t a3y) (a0s a3y) (a0f a3y) (.ref dV55) kV55 dc55 pm55 an55 cd55 ct55),sl55⟩)
 (h55c:W.codeIn K cd55 "PairTongue.spell" = true)
 (h55k:W.keepIn K (.ref a55)=true)
 (h55d:K.lookup dV55=some ⟨ddc55,ddd55,.seq ([.int 0 ud55_0]:List Value).toArray ddn55,dsl55⟩)
 (h56a:W.findIn K (.ref ccPairTongue) "whole" = some (some (.ref a56)))
 (h56f:W.isFn K (.ref a56)=true)
 (h56l:K.lookup a56=some ⟨oc56,od56,.func (W.fnOf "whole" "PairTongue.whole" (a0t a3x) (a0s a3x) (a0f a3x) (.ref dV56) kV56 dc56 pm56 an56 cd56 ct56),sl56⟩)
 (h56c:W.codeIn K cd56 "PairTongue.whole" = true)
 (h56k:W.keepIn K (.ref a56)=true)
 (h56d:K.lookup dV56=some ⟨ddc56,ddd56,.seq ([.int 0 ud56_0]:List Value).toArray ddn56,dsl56⟩)
 (h57a:W.findIn K (.ref ccPairTongue) "fill" = some (some (.ref a57)))
 (h57f:W.isFn K (.ref a57)=true)
 (h57l:K.lookup a57=some ⟨oc57,od57,.func (W.fnOf "fill" "PairTongue.fill" (a0t a4o) (a0s a4o) (a0f a4o) (.ref dV57) kV57 dc57 pm57 an57 cd57 ct57),sl57⟩)
 (h57c:W.codeIn K cd57 "PairTongue.fill" = true)
 (h57k:W.keepIn K (.ref a57)=true)
 (h57d:K.lookup dV57=some ⟨ddc57,ddd57,.seq ([.int 0 ud57_0]:List Value).toArray ddn57,dsl57⟩)
 (h58a:W.nsIn K mainGlobals "begins" = some (some (.ref a58)))
 (h58l:K.lookup a58=some ⟨oc58,od58,.func (W.fnOf "begins" "begins" (a0t c1x) (a0s c1x) (a0f c1x) .none kV58 dc58 pm58 an58 cd58 ct58),sl58⟩)
 (h58c:W.codeIn K cd58 "begins" = true)
 (h58k:W.keepIn K (.ref a58)=true)
 (h59a:W.nsIn K mainGlobals "places_in" = some (some (.ref a59)))
 (h59l:K.lookup a59=some ⟨oc59,od59,.func (W.fnOf "places_in" "places_in" (a0t b1k) (a0s b1k) (a0f b1k) .none kV59 dc59 pm59 an59 cd59 ct59),sl59⟩)
 (h59c:W.codeIn K cd59 "places_in" = true)
 (h59k:W.keepIn K (.ref a59)=true)
 (b7i:W.nsIn K mainGlobals "ShiftTongue" = some (some (.ref ccShiftTongue)))
 (b2f:W.plainGet K ccShiftTongue Str.empty=true)
 (b2n:W.hasDictIn K ccShiftTongue=true)
 (b2j:W.plainOver K ccShiftTongue=true)
 (b2b:W.findIn K (.ref ccShiftTongue) "__setattr__" = some (some (.builtin "object.__setattr__")))
 (b7a:W.makesIn K ccShiftTongue=true)
 (b7e:W.keepIn K (.ref ccShiftTongue)=true)
 (b6w:W.findIn K (.ref ccShiftTongue) "__class__" = some (some (.builtin "object.__class__")))
 (b6s:W.specialIn K (.builtin "object.__class__") "__get__" = some (some (.builtin "getset_descriptor.__get__")))
 (b6o:W.takesIn K (.builtin "object.__class__")=some true)
 (cw_ShiftTongue:W.mroIn K ccShiftTongue (.type "object")=some true)
 (a9p:W.findIn K (.ref ccShiftTongue) "lists" = some none)
 (a8l:W.findIn K (.ref ccShiftTongue) "places" = some none)
 (a7e:W.findIn K (.ref ccShiftTongue) "shifted" = some none)
 (h60a:W.findIn K (.ref ccShiftTongue) "__init__" = some (some (.ref a60)))
 (h60f:W.isFn K (.ref a60)=true)
 (h60l:K.lookup a60=some ⟨oc60,od60,.func (W.fnOf "__init__" "ShiftTongue.__init__" (a0t a3t) (a0s a3t) (a0f a3t) .none kV60 dc60 pm60 an60 cd60 ct60),sl60⟩)
 (h60c:W.codeIn K cd60 "ShiftTongue.__init__" = true)
 (h60k:W.keepIn K (.ref a60)=true)
 (h61a:W.findIn K (.ref ccShiftTongue) "row_beyond" = some (some (.ref a61)))
 (h61f:W.isFn K (.ref a61)=true)
 (h61l:K.lookup a61=some ⟨oc61,od61,.func (W.fnOf "row_beyond" "ShiftTongue.row_beyond" (a0t a2f) (a0s a2f) (a0f a2f) .none kV61 dc61 pm61 an61 cd61 ct61),sl61⟩)
 (h61c:W.codeIn K cd61 "ShiftTongue.row_beyond" = true)
 (h61k:W.keepIn K (.ref a61)=true)
 (h62a:W.findIn K (.ref ccShiftTongue) "spell" = some (some (.ref a62)))
 (h62f:W.isFn K (.ref a62)=true)
 (h62l:K.lookup a62=some ⟨oc62,od62,.func (W.fnOf "spell" "ShiftTongue.spell" (a0t a3i) (a0s a3i) (a0f a3i) (.ref dV62) kV62 dc62 pm62 an62 cd62 ct62),sl62⟩)
 (h62c:W.codeIn K cd62 "ShiftTongue.spell" = true)
 (h62k:W.keepIn K (.ref a62)=true)
 (h62d:K.lookup dV62=some ⟨ddc62,ddd62,.seq ([.int 0 ud62_0]:List Value).toArray ddn62,dsl62⟩)
 (h63a:W.findIn K (.ref ccShiftTongue) "sign_of" = some (some (.ref a63)))
 (h63f:W.isFn K (.ref a63)=true)
 (h63l:K.lookup a63=some ⟨oc63,od63,.func (W.fnOf "sign_of" "ShiftTongue.sign_of" (a0t a2u) (a0s a2u) (a0f a2u) .none kV63 dc63 pm63 an63 cd63 ct63),sl63⟩)
 (h63c:W.codeIn K cd63 "ShiftTongue.sign_of" = true)
 (h63k:W.keepIn K (.ref a63)=true)
 (h64a:W.findIn K (.ref ccShiftTongue) "whole" = some (some (.ref a64)))
 (h64f:W.isFn K (.ref a64)=true)
 (h64l:K.lookup a64=some ⟨oc64,od64,.func (W.fnOf "whole" "ShiftTongue.whole" (a0t a3h) (a0s a3h) (a0f a3h) (.ref dV64) kV64 dc64 pm64 an64 cd64 ct64),sl64⟩)
 (h64c:W.codeIn K cd64 "ShiftTongue.whole" = true)
 (h64k:W.keepIn K (.ref a64)=true)
 (h64d:K.lookup dV64=some ⟨ddc64,ddd64,.seq ([.int 0 ud64_0]:List Value).toArray ddn64,dsl64⟩)
 (h65a:W.findIn K (.ref ccShiftTongue) "fill" = some (some (.ref a65)))
 (h65f:W.isFn K (.ref a65)=true)
 (h65l:K.lookup a65=some ⟨oc65,od65,.func (W.fnOf "fill" "ShiftTongue.fill" (a0t a3u) (a0s a3u) (a0f a3u) (.ref dV65) kV65 dc65 pm65 an65 cd65 ct65),sl65⟩)
 (h65c:W.codeIn K cd65 "ShiftTongue.fill" = true)
 (h65k:W.keepIn K (.ref a65)=true)
 (h65d:K.lookup dV65=some ⟨ddc65,ddd65,.seq ([.int 0 ud65_0]:List Value).toArray ddn65,dsl65⟩)
 (h66a:W.nsIn K mainGlobals "is_entry" = some (some (.ref a66)))
 (h66l:K.lookup a66=some ⟨oc66,od66,.func (W.fnOf "is_entry" "is_entry" (a0t b4p) (a0s b4p) (a0f b4p) .none kV66 dc66 pm66 an66 cd66 ct66),sl66⟩)
 (h66c:W.codeIn K cd66 "is_entry" = true)
 (h66k:W.keepIn K (.ref a66)=true)
 (h67a:W.nsIn K mainGlobals "collide" = some (some (.ref a67)))
 (h67l:K.lookup a67=some ⟨oc67,od67,.func (W.fnOf "collide" "collide" (a0t b8a) (a0s b8a) (a0f b8a) .none kV67 dc67 pm67 an67 cd67 ct67),sl67⟩)
 (h67c:W.codeIn K cd67 "collide" = true)
 (h67k:W.keepIn K (.ref a67)=true)
 (h68a:W.nsIn K mainGlobals "check_table" = some (some (.ref a68)))
 (h68l:K.lookup a68=some ⟨oc68,od68,.func (W.fnOf "check_table" "check_table" (a0t a8v) (a0s a8v) (a0f a8v) .none kV68 dc68 pm68 an68 cd68 ct68),sl68⟩)
 (h68c:W.codeIn K cd68 "check_table" = true)
 (h68k:W.keepIn K (.ref a68)=true)
 (b7h:W.nsIn K mainGlobals "TableTongue" = some (some (.ref ccTableTongue)))
 (b2e:W.plainGet K ccTableTongue Str.empty=true)
 (b2m:W.hasDictIn K ccTableTongue=true)
 (b2i:W.plainOver K ccTableTongue=true)
 (b2a:W.findIn K (.ref ccTableTongue) "__setattr__" = some (some (.builtin "object.__setattr__")))
 (b6z:W.makesIn K ccTableTongue=true)
 (b7d:W.keepIn K (.ref ccTableTongue)=true)
 (b6v:W.findIn K (.ref ccTableTongue) "__class__" = some (some (.builtin "object.__class__")))
 (b6r:W.specialIn K (.builtin "object.__class__") "__get__" = some (some (.builtin "getset_descriptor.__get__")))
 (b6n:W.takesIn K (.builtin "object.__class__")=some true)
 (cw_TableTongue:W.mroIn K ccTableTongue (.type "object")=some true)
 (a5d:W.findIn K (.ref ccTableTongue) "rest_by_row" = some none)
 (a5c:W.findIn K (.ref ccTableTongue) "row_by_sign" = some none)
 (a5b:W.findIn K (.ref ccTableTongue) "sign_by_row" = some none)
 (h69a:W.findIn K (.ref ccTableTongue) "__init__" = some (some (.ref a69)))
 (h69f:W.isFn K (.ref a69)=true)
 (h69l:K.lookup a69=some ⟨oc69,od69,.func (W.fnOf "__init__" "TableTongue.__init__" (a0t a3r) (a0s a3r) (a0f a3r) .none kV69 dc69 pm69 an69 cd69 ct69),sl69⟩)
 (h69c:W.codeIn K cd69 "TableTongue.__init__" = true)
 (h69k:W.keepIn K (.ref a69)=true)
 (h70a:W.findIn K (.ref ccTableTongue) "enter" = some (some (.ref a70)))
 (h70f:W.isFn K (.ref a70)=true)
 (h70l:K.lookup a70=some ⟨oc70,od70,.func (W.fnOf "enter" "TableTongue.enter" (a0t a3g) (a0s a3g) (a0f a3g) .none kV70 dc70 pm70 an70 cd70 ct70),sl70⟩)
 (h70c:W.codeIn K cd70 "TableTongue.enter" = true)
 (h70k:W.keepIn K (.ref a70)=true)
 (h71a:W.findIn K (.ref ccTableTongue) "spell" = some (some (.ref a71)))
 (h71f:W.isFn K (.ref a71)=true)
 (h71l:K.lookup a71=some ⟨oc71,od71,.func (W.fnOf "spell" "TableTongue.spell" (a0t a3f) (a0s a3f) (a0f a3f) (.ref dV71) kV71 dc71 pm71 an71 cd71 ct71),sl71⟩)
 (h71c:W.codeIn K cd71 "TableTongue.spell" = true)
 (h71k:W.keepIn K (.ref a71)=true)
 (h71d:K.lookup dV71=some ⟨ddc71,ddd71,.seq ([.int 0 ud71_0]:List Value).toArray ddn71,dsl71⟩)
 (h72a:W.findIn K (.ref ccTableTongue) "whole" = some (some (.ref a72)))
 (h72f:W.isFn K (.ref a72)=true)
 (h72l:K.lookup a72=some ⟨oc72,od72,.func (W.fnOf "whole" "TableTongue.whole" (a0t a3e) (a0s a3e) (a0f a3e) (.ref dV72) kV72 dc72 pm72 an72 cd72 ct72),sl72⟩)
 (h72c:W.codeIn K cd72 "TableTongue.whole" = true)
 (h72k:W.keepIn K (.ref a72)=true)
 (h72d:K.lookup dV72=some ⟨ddc72,ddd72,.seq ([.int 0 ud72_0]:List Value).toArray ddn72,dsl72⟩)
 (h73a:W.findIn K (.ref ccTableTongue) "fill" = some (some (.ref a73)))
 (h73f:W.isFn K (.ref a73)=true)
 (h73l:K.lookup a73=some ⟨oc73,od73,.func (W.fnOf "fill" "TableTongue.fill" (a0t a3s) (a0s a3s) (a0f a3s) (.ref dV73) kV73 dc73 pm73 an73 cd73 ct73),sl73⟩)
 (h73c:W.codeIn K cd73 "TableTongue.fill" = true)
 (h73k:W.keepIn K (.ref a73)=true)
 (h73d:K.lookup dV73=some ⟨ddc73,ddd73,.seq ([.int 0 ud73_0]:List Value).toArray ddn73,dsl73⟩)
 (h74a:W.nsIn K mainGlobals "_law_drawn" = some (some (.ref a74)))
 (h74l:K.lookup a74=some ⟨oc74,od74,.func (W.fnOf "_law_drawn" "_law_drawn" (a0t b7t) (a0s b7t) (a0f b7t) .none kV74 dc74 pm74 an74 cd74 ct74),sl74⟩)
 (h74c:W.codeIn K cd74 "_law_drawn" = true)
 (h74k:W.keepIn K (.ref a74)=true)
 (h75a:W.nsIn K mainGlobals "_law_mixed" = some (some (.ref a75)))
 (h75l:K.lookup a75=some ⟨oc75,od75,.func (W.fnOf "_law_mixed" "_law_mixed" (a0t b7s) (a0s b7s) (a0f b7s) .none kV75 dc75 pm75 an75 cd75 ct75),sl75⟩)
 (h75c:W.codeIn K cd75 "_law_mixed" = true)
 (h75k:W.keepIn K (.ref a75)=true)
 (h76a:W.nsIn K mainGlobals "_law_gapped" = some (some (.ref a76)))
 (h76l:K.lookup a76=some ⟨oc76,od76,.func (W.fnOf "_law_gapped" "_law_gapped" (a0t b4m) (a0s b4m) (a0f b4m) .none kV76 dc76 pm76 an76 cd76 ct76),sl76⟩)
 (h76c:W.codeIn K cd76 "_law_gapped" = true)
 (h76k:W.keepIn K (.ref a76)=true)
 (h77a:W.nsIn K mainGlobals "_law_as_sign" = some (some (.ref a77)))
 (h77l:K.lookup a77=some ⟨oc77,od77,.func (W.fnOf "_law_as_sign" "_law_as_sign" (a0t b1j) (a0s b1j) (a0f b1j) .none kV77 dc77 pm77 an77 cd77 ct77),sl77⟩)
 (h77c:W.codeIn K cd77 "_law_as_sign" = true)
 (h77k:W.keepIn K (.ref a77)=true)
 (h78a:W.nsIn K mainGlobals "_law_lists" = some (some (.ref a78)))
 (h78l:K.lookup a78=some ⟨oc78,od78,.func (W.fnOf "_law_lists" "_law_lists" (a0t b2s) (a0s b2s) (a0f b2s) .none kV78 dc78 pm78 an78 cd78 ct78),sl78⟩)
 (h78c:W.codeIn K cd78 "_law_lists" = true)
 (h78k:W.keepIn K (.ref a78)=true)
 (h79a:W.nsIn K mainGlobals "_law_table" = some (some (.ref a79)))
 (h79l:K.lookup a79=some ⟨oc79,od79,.func (W.fnOf "_law_table" "_law_table" (a0t b5a) (a0s b5a) (a0f b5a) .none kV79 dc79 pm79 an79 cd79 ct79),sl79⟩)
 (h79c:W.codeIn K cd79 "_law_table" = true)
 (h79k:W.keepIn K (.ref a79)=true)
 (h80a:W.nsIn K mainGlobals "_law_model" = some (some (.ref a80)))
 (h80l:K.lookup a80=some ⟨oc80,od80,.func (W.fnOf "_law_model" "_law_model" (a0t b7r) (a0s b7r) (a0f b7r) .none kV80 dc80 pm80 an80 cd80 ct80),sl80⟩)
 (h80c:W.codeIn K cd80 "_law_model" = true)
 (h80k:W.keepIn K (.ref a80)=true)
 (h81a:W.nsIn K mainGlobals "_law_tongue" = some (some (.ref a81)))
 (h81l:K.lookup a81=some ⟨oc81,od81,.func (W.fnOf "_law_tongue" "_law_tongue" (a0t b1i) (a0s b1i) (a0f b1i) .none kV81 dc81 pm81 an81 cd81 ct81),sl81⟩)
 (h81c:W.codeIn K cd81 "_law_tongue" = true)
 (h81k:W.keepIn K (.ref a81)=true)
 (h82a:W.nsIn K mainGlobals "_law_lead_row" = some (some (.ref a82)))
 (h82l:K.lookup a82=some ⟨oc82,od82,.func (W.fnOf "_law_lead_row" "_law_lead_row" (a0t b0m) (a0s b0m) (a0f b0m) .none kV82 dc82 pm82 an82 cd82 ct82),sl82⟩)
 (h82c:W.codeIn K cd82 "_law_lead_row" = true)
 (h82k:W.keepIn K (.ref a82)=true)
 (h83a:W.nsIn K mainGlobals "_law_pair_row" = some (some (.ref a83)))
 (h83l:K.lookup a83=some ⟨oc83,od83,.func (W.fnOf "_law_pair_row" "_law_pair_row" (a0t b0l) (a0s b0l) (a0f b0l) .none kV83 dc83 pm83 an83 cd83 ct83),sl83⟩)
 (h83c:W.codeIn K cd83 "_law_pair_row" = true)
 (h83k:W.keepIn K (.ref a83)=true)
 (h84a:W.nsIn K mainGlobals "_law_spell" = some (some (.ref a84)))
 (h84l:K.lookup a84=some ⟨oc84,od84,.func (W.fnOf "_law_spell" "_law_spell" (a0t b7q) (a0s b7q) (a0f b7q) .none kV84 dc84 pm84 an84 cd84 ct84),sl84⟩)
 (h84c:W.codeIn K cd84 "_law_spell" = true)
 (h84k:W.keepIn K (.ref a84)=true)
 (h85a:W.nsIn K mainGlobals "_law_text" = some (some (.ref a85)))
 (h85l:K.lookup a85=some ⟨oc85,od85,.func (W.fnOf "_law_text" "_law_text" (a0t b3q) (a0s b3q) (a0f b3q) .none kV85 dc85 pm85 an85 cd85 ct85),sl85⟩)
 (h85c:W.codeIn K cd85 "_law_text" = true)
 (h85k:W.keepIn K (.ref a85)=true)
 (h86a:W.nsIn K mainGlobals "_law_pieces" = some (some (.ref a86)))
 (h86l:K.lookup a86=some ⟨oc86,od86,.func (W.fnOf "_law_pieces" "_law_pieces" (a0t b4l) (a0s b4l) (a0f b4l) .none kV86 dc86 pm86 an86 cd86 ct86),sl86⟩)
 (h86c:W.codeIn K cd86 "_law_pieces" = true)
 (h86k:W.keepIn K (.ref a86)=true)
 (h87a:W.nsIn K mainGlobals "_law_row" = some (some (.ref a87)))
 (h87l:K.lookup a87=some ⟨oc87,od87,.func (W.fnOf "_law_row" "_law_row" (a0t c7e) (a0s c7e) (a0f c7e) .none kV87 dc87 pm87 an87 cd87 ct87),sl87⟩)
 (h87c:W.codeIn K cd87 "_law_row" = true)
 (h87k:W.keepIn K (.ref a87)=true)
 (h88a:W.nsIn K mainGlobals "_law_read_both" = some (some (.ref a88)))
 (h88l:K.lookup a88=some ⟨oc88,od88,.func (W.fnOf "_law_read_both" "_law_read_both" (a0t a8t) (a0s a8t) (a0f a8t) .none kV88 dc88 pm88 an88 cd88 ct88),sl88⟩)
 (h88c:W.codeIn K cd88 "_law_read_both" = true)
 (h88k:W.keepIn K (.ref a88)=true)
 (h89a:W.nsIn K mainGlobals "_law_written" = some (some (.ref a89)))
 (h89l:K.lookup a89=some ⟨oc89,od89,.func (W.fnOf "_law_written" "_law_written" (a0t b1h) (a0s b1h) (a0f b1h) .none kV89 dc89 pm89 an89 cd89 ct89),sl89⟩)
 (h89c:W.codeIn K cd89 "_law_written" = true)
 (h89k:W.keepIn K (.ref a89)=true)
 (h90a:W.nsIn K mainGlobals "law" = some (some (.ref a90)))
 (h90l:K.lookup a90=some ⟨oc90,od90,.func (W.fnOf "law" "law" (a0t d6c) (a0s d6c) (a0f d6c) .none kV90 dc90 pm90 an90 cd90 ct90),sl90⟩)
 (h90c:W.codeIn K cd90 "law" = true)
 (h90k:W.keepIn K (.ref a90)=true)
 (hi_LeadTongue_unit:W.findIn K (.ref ccLeadTongue) "unit" = some (some (.ref a33)))
 (hi_LeadTongue_look:W.findIn K (.ref ccLeadTongue) "look" = some (some (.ref a37)))
 (hi_PairTongue_look:W.findIn K (.ref ccPairTongue) "look" = some (some (.ref a37)))
 (hi_ShiftTongue_unit:W.findIn K (.ref ccShiftTongue) "unit" = some (some (.ref a33)))
 (hi_ShiftTongue_look:W.findIn K (.ref ccShiftTongue) "look" = some (some (.ref a37)))
 (hi_TableTongue_unit:W.findIn K (.ref ccTableTongue) "unit" = some (some (.ref a33)))
 (hi_TableTongue_look:W.findIn K (.ref ccTableTongue) "look" = some (some (.ref a37)))
 (d2e:W.nsIn K mainGlobals "Writer" = some (some (.ref ccWriter)))
 (d2j:W.specialIn K (.ref ccWriter) "__getattribute__" = some (some (.builtin "type.__getattribute__")))
 (d2l:W.readsIn K ccWriter (.type "type")=true)
 (d2n:W.findCls K (.ref ccWriter) (.type "type") "__init__" = some (.val (.ref a12)))
 (d2g:W.nsIn K mainGlobals "Reader" = some (some (.ref ccReader)))
 (d2k:W.specialIn K (.ref ccReader) "__getattribute__" = some (some (.builtin "type.__getattribute__")))
 (d2m:W.readsIn K ccReader (.type "type")=true)
 (d2o:W.findCls K (.ref ccReader) (.type "type") "__init__" = some (.val (.ref a20)))
 (k0:W.nsIn K mainGlobals "BITS" = some (some (.int 6 u0)))
 (k1:W.nsIn K mainGlobals "BYTE_BITS" = some (some (.int 8 u1)))
 (k2:W.nsIn K mainGlobals "FILLS" = some (some (.ref ta2)))
 (kl2:K.lookup ta2=some ⟨.type "dict",none,.dict es2 ep2,#[]⟩)
 (kv2:c1c es2.toList=some [(th2_0,("high" : Str),ta2_0),(th2_1,("low" : Str),ta2_1)])
 (ks2:(ta2 == sysModules)=false)
 (kh2_0:th2_0=hashStr w "high")
 (kh2_1:th2_1=hashStr w "low")
 (kl2_0:K.lookup ta2_0=some ⟨.type "tuple",none,.seq ti2_0 tn2_0,ts2_0⟩)
 (kv2_0:c2v ti2_0.toList=some [ta2_0_0,ta2_0_1,ta2_0_2,ta2_0_3,ta2_0_4])
 (kz2_0:Nat.ble ti2_0.size 1000=true)
 (kl2_0_0:K.lookup ta2_0_0=some ⟨.type "tuple",none,.seq ti2_0_0 tn2_0_0,ts2_0_0⟩)
 (kv2_0_0:a4i ([]:List Int) ti2_0_0.toList=true)
 (kz2_0_0:Nat.ble ti2_0_0.size 1000=true)
 (kl2_0_1:K.lookup ta2_0_1=some ⟨.type "tuple",none,.seq ti2_0_1 tn2_0_1,ts2_0_1⟩)
 (kv2_0_1:a4i ([0]:List Int) ti2_0_1.toList=true)
 (kz2_0_1:Nat.ble ti2_0_1.size 1000=true)
 (kl2_0_2:K.lookup ta2_0_2=some ⟨.type "tuple",none,.seq ti2_0_2 tn2_0_2,ts2_0_2⟩)
 (kv2_0_2:a4i ([0,0]:List Int) ti2_0_2.toList=true)
 (kz2_0_2:Nat.ble ti2_0_2.size 1000=true)
 (kl2_0_3:K.lookup ta2_0_3=some ⟨.type "tuple",none,.seq ti2_0_3 tn2_0_3,ts2_0_3⟩)
 (kv2_0_3:a4i ([220,0]:List Int) ti2_0_3.toList=true)
 (kz2_0_3:Nat.ble ti2_0_3.size 1000=true)
 (kl2_0_4:K.lookup ta2_0_4=some ⟨.type "tuple",none,.seq ti2_0_4 tn2_0_4,ts2_0_4⟩)
 (kv2_0_4:a4i ([0,220,0]:List Int) ti2_0_4.toList=true)
 (kz2_0_4:Nat.ble ti2_0_4.size 1000=true)
 (kl2_1:K.lookup ta2_1=some ⟨.type "tuple",none,.seq ti2_1 tn2_1,ts2_1⟩)
 (kv2_1:c2v ti2_1.toList=some [ta2_1_0,ta2_1_1,ta2_1_2,ta2_1_3,ta2_1_4])
 (kz2_1:Nat.ble ti2_1.size 1000=true)
 (kl2_1_0:K.lookup ta2_1_0=some ⟨.type "tuple",none,.seq ti2_1_0 tn2_1_0,ts2_1_0⟩)
 (kv2_1_0:a4i ([]:List Int) ti2_1_0.toList=true)
 (kz2_1_0:Nat.ble ti2_1_0.size 1000=true)
 (kl2_1_1:K.lookup ta2_1_1=some ⟨.type "tuple",none,.seq ti2_1_1 tn2_1_1,ts2_1_1⟩)
 (kv2_1_1:a4i ([0]:List Int) ti2_1_1.toList=true)
 (kz2_1_1:Nat.ble ti2_1_1.size 1000=true)
 (kl2_1_2:K.lookup ta2_1_2=some ⟨.type "tuple",none,.seq ti2_1_2 tn2_1_2,ts2_1_2⟩)
 (kv2_1_2:a4i ([220]:List Int) ti2_1_2.toList=true)
 (kz2_1_2:Nat.ble ti2_1_2.size 1000=true)
 (kl2_1_3:K.lookup ta2_1_3=some ⟨.type "tuple",none,.seq ti2_1_3 tn2_1_3,ts2_1_3⟩)
 (kv2_1_3:a4i ([0,0]:List Int) ti2_1_3.toList=true)
 (kz2_1_3:Nat.ble ti2_1_3.size 1000=true)
 (kl2_1_4:K.lookup ta2_1_4=some ⟨.type "tuple",none,.seq ti2_1_4 tn2_1_4,ts2_1_4⟩)
 (kv2_1_4:a4i ([0,220]:List Int) ti2_1_4.toList=true)
 (kz2_1_4:Nat.ble ti2_1_4.size 1000=true)
 (k3:W.nsIn K mainGlobals "FIRST_BEHIND" = some (some (.int 128 u3)))
 (k4:W.nsIn K mainGlobals "FIRST_HEAD" = some (some (.int 55296 u4)))
 (k5:W.nsIn K mainGlobals "FIRST_SEEN" = some (some (.int 61184 u5)))
 (k6:W.nsIn K mainGlobals "FIRST_TAIL" = some (some (.int 56320 u6)))
 (k7:W.nsIn K mainGlobals "FIRST_WIDE" = some (some (.int 65536 u7)))
 (k8:W.nsIn K mainGlobals "HALF_BITS" = some (some (.int 10 u8)))
 (k9:W.nsIn K mainGlobals "LAST_BEHIND" = some (some (.int 191 u9)))
 (k10:W.nsIn K mainGlobals "LAST_BYTE" = some (some (.int 255 u10)))
 (k11:W.nsIn K mainGlobals "LAST_SEEN" = some (some (.int 61439 u11)))
 (k12:W.nsIn K mainGlobals "LAST_SIGN" = some (some (.int 1114111 u12)))
 (k13:W.nsIn K mainGlobals "LAST_TAIL" = some (some (.int 57343 u13)))
 (k14:W.nsIn K mainGlobals "LEADS" = some (some (.ref ta14)))
 (kl14:K.lookup ta14=some ⟨.type "tuple",none,.seq ti14 tn14,ts14⟩)
 (kv14:a4i ([0,0,192,224,240]:List Int) ti14.toList=true)
 (kz14:Nat.ble ti14.size 1000=true)
 (k15:W.nsIn K mainGlobals "MOST_BYTES" = some (some (.int 6 u15)))
 (k16:W.nsIn K mainGlobals "MOST_SIGNS" = some (some (.int 250 u16)))
 (k17:W.nsIn K mainGlobals "MOST_TUPLES" = some (some (.int 64 u17)))
 (k18:W.nsIn K mainGlobals "SECONDS" = some (some (.ref ta18)))
 (kl18:K.lookup ta18=some ⟨.type "dict",none,.dict es18 ep18,#[]⟩)
 (kv18:c5u es18.toList=some [(224,ta18_0),(237,ta18_1),(238,ta18_2),(240,ta18_3),(244,ta18_4)])
 (ks18:(ta18 == sysModules)=false)
 (kl18_0:K.lookup ta18_0=some ⟨.type "tuple",none,.seq ti18_0 tn18_0,ts18_0⟩)
 (kv18_0:a4i ([160,191]:List Int) ti18_0.toList=true)
 (kz18_0:Nat.ble ti18_0.size 1000=true)
 (kl18_1:K.lookup ta18_1=some ⟨.type "tuple",none,.seq ti18_1 tn18_1,ts18_1⟩)
 (kv18_1:a4i ([128,159]:List Int) ti18_1.toList=true)
 (kz18_1:Nat.ble ti18_1.size 1000=true)
 (kl18_2:K.lookup ta18_2=some ⟨.type "tuple",none,.seq ti18_2 tn18_2,ts18_2⟩)
 (kv18_2:a4i ([128,187]:List Int) ti18_2.toList=true)
 (kz18_2:Nat.ble ti18_2.size 1000=true)
 (kl18_3:K.lookup ta18_3=some ⟨.type "tuple",none,.seq ti18_3 tn18_3,ts18_3⟩)
 (kv18_3:a4i ([144,191]:List Int) ti18_3.toList=true)
 (kz18_3:Nat.ble ti18_3.size 1000=true)
 (kl18_4:K.lookup ta18_4=some ⟨.type "tuple",none,.seq ti18_4 tn18_4,ts18_4⟩)
 (kv18_4:a4i ([128,143]:List Int) ti18_4.toList=true)
 (kz18_4:Nat.ble ti18_4.size 1000=true)
 (k19:W.nsIn K mainGlobals "SHIFTS" = some (some (.ref ta19)))
 (kl19:K.lookup ta19=some ⟨.type "tuple",none,.seq ti19 tn19,ts19⟩)
 (kv19:a4i ([254,255]:List Int) ti19.toList=true)
 (kz19:Nat.ble ti19.size 1000=true)
 (z0:W.nsIn K mainGlobals "all" = some none)
 (z1:W.nsIn K mainGlobals "bool" = some none)
 (z2:W.nsIn K mainGlobals "enumerate" = some none)
 (z3:W.nsIn K mainGlobals "int" = some none)
 (z4:W.nsIn K mainGlobals "isinstance" = some none)
 (z5:W.nsIn K mainGlobals "len" = some none)
 (z6:W.nsIn K mainGlobals "list" = some none)
 (z7:W.nsIn K mainGlobals "range" = some none)
 (z8:W.nsIn K mainGlobals "reversed" = some none)
 (z9:W.nsIn K mainGlobals "str" = some none)
 (z10:W.nsIn K mainGlobals "sum" = some none)
 (z11:W.nsIn K mainGlobals "tuple" = some none)
 (z12:W.nsIn K mainGlobals "zip" = some none) : ∃ t,Txt w K mg t:=by
  have F0:=a1n (st:=b1n) h0l h0c h0k
  have b0:=F0.binds (ps:=["thing"]) (fun _ _ _ _ _ _=>lm1 fun _=>rfl)
  have F1:=a1n (st:=b7z) h1l h1c h1k
  have b1:=F1.binds (ps:=["thing"]) (fun _ _ _ _ _ _=>lm1 fun _=>rfl)
  have F2:=a1n (st:=b7y) h2l h2c h2k
  have b2:=F2.binds (ps:=["number"]) (fun _ _ _ _ _ _=>lm1 fun _=>rfl)
  have F3:=a1n (st:=b7w) h3l h3c h3k
  have b3:=F3.binds (ps:=["number"]) (fun _ _ _ _ _ _=>lm1 fun _=>rfl)
  have F4:=a1n (st:=a6y) h4l h4c h4k
  have b4:=F4.binds (ps:=["thing"]) (fun _ _ _ _ _ _=>lm1 fun _=>rfl)
  have F5:=a1n (st:=b7x) h5l h5c h5k
  have b5:=F5.binds (ps:=["thing"]) (fun _ _ _ _ _ _=>lm1 fun _=>rfl)
  have F6:=a1n (st:=b8p) h6l h6c h6k
  have b6:=F6.binds (ps:=["thing"]) (fun _ _ _ _ _ _=>lm1 fun _=>rfl)
  have F7:=a1n (st:=b5b) h7l h7c h7k
  have b7:=F7.binds (ps:=["thing"]) (fun _ _ _ _ _ _=>lm1 fun _=>rfl)
  have F8:=a1n (st:=b0o) h8l h8c h8k
  have b8:=F8.binds (ps:=["tongue", "text", "page"]) (fun _ _ _ _ _ _=>lm3 fun _ _ _=>rfl)
  have F9:=a1n (st:=c7f) h9l h9c h9k
  have b9:=F9.binds (ps:=["tongue", "text"]) (fun _ _ _ _ _ _=>lm2 fun _ _=>rfl)
  have F10:=a1n (st:=a3v) h10l h10c h10k
  have b10:=F10.binds (ps:=["self", "tongue"]) (fun _ _ _ _ _ _=>lm2 fun _ _=>rfl)
  have F11:=a1n (st:=a3j) h11l h11c h11k
  have b11:=F11.binds (ps:=["self", "sign", "page"]) (fun _ _ _ _ _ _=>lm3 fun _ _ _=>rfl)
  have F12:=a1n (st:=a8w) h12l h12c h12k
  have b12:=F12.binds (ps:=["self", "tongue"]) (fun _ _ _ _ _ _=>lm2 fun _ _=>rfl)
  have F13:=a1n (st:=a4l) h13l h13c h13k
  have b13:=F13.binds (ps:=["self", "tongue"]) (fun _ _ _ _ _ _=>lm2 fun _ _=>rfl)
  have F14:=a1n (st:=a8x) h14l h14c h14k
  have b14:=F14.binds (ps:=["self", "text"]) (fun _ _ _ _ _ _=>lm2 fun _ _=>rfl)
  have F15:=a1n (st:=b0n) h15l h15c h15k
  have b15:=F15.binds (ps:=["tongue", "text"]) (fun _ _ _ _ _ _=>lm2 fun _ _=>rfl)
  have F16:=a1n (st:=b4q) h16l h16c h16k
  have b16:=F16.binds (ps:=["self", "row"]) (fun _ _ _ _ _ _=>lm2 fun _ _=>rfl)
  have F17:=a6c (st:=b4s) h17l h17c h17k h17d
  have bd17:=F17.binds (ps:=["self", "sign"]) (ds:=[.int 65533 ud17_0]) (by intro _ _ _ _ _ _ _ us hl; have hm:us.length=1:=(by have:=hl; simp at this; omega); clear hl; revert us; exact lm1 (fun _=>⟨_,rfl,rfl⟩))
  have b17:=F17.binds (ps:=["self", "sign"]) (ds:=[]) (by intro _ _ _ _ _ _ _ us hl; have hm:us.length=2:=(by have:=hl; simp at this; omega); clear hl; revert us; exact lm2 (fun _ _=>⟨_,rfl,rfl⟩))
  have F18:=a1n (st:=b4r) h18l h18c h18k
  have b18:=F18.binds (ps:=["self", "row"]) (fun _ _ _ _ _ _=>lm2 fun _ _=>rfl)
  have F19:=a1n (st:=b1o) h19l h19c h19k
  have b19:=F19.binds (ps:=["self", "row"]) (fun _ _ _ _ _ _=>lm2 fun _ _=>rfl)
  have F20:=a6c (st:=a9d) h20l h20c h20k h20d
  have bd20:=F20.binds (ps:=["self", "tongue", "place"]) (ds:=[.int 0 ud20_0]) (by intro _ _ _ _ _ _ _ us hl; have hm:us.length=2:=(by have:=hl; simp at this; omega); clear hl; revert us; exact lm2 (fun _ _=>⟨_,rfl,rfl⟩))
  have b20:=F20.binds (ps:=["self", "tongue", "place"]) (ds:=[]) (by intro _ _ _ _ _ _ _ us hl; have hm:us.length=3:=(by have:=hl; simp at this; omega); clear hl; revert us; exact lm3 (fun _ _ _=>⟨_,rfl,rfl⟩))
  have F21:=a6c (st:=a4c) h21l h21c h21k h21d
  have bd21:=F21.binds (ps:=["self", "tongue", "way", "place"]) (ds:=[.int 0 ud21_0]) (by intro _ _ _ _ _ _ _ us hl; have hm:us.length=3:=(by have:=hl; simp at this; omega); clear hl; revert us; exact lm3 (fun _ _ _=>⟨_,rfl,rfl⟩))
  have b21:=F21.binds (ps:=["self", "tongue", "way", "place"]) (ds:=[]) (by intro _ _ _ _ _ _ _ us hl; have hm:us.length=4:=(by have:=hl; simp at this; omega); clear hl; revert us; exact lm4 (fun _ _ _ _=>⟨_,rfl,rfl⟩))
  have F22:=a1n (st:=a4b) h22l h22c h22k
  have b22:=F22.binds (ps:=["self", "length", "kind"]) (fun _ _ _ _ _ _=>lm3 fun _ _ _=>rfl)
  have F23:=a1n (st:=a6a) h23l h23c h23k
  have b23:=F23.binds (ps:=["self"]) (fun _ _ _ _ _ _=>lm1 fun _=>rfl)
  have F24:=a1n (st:=a9e) h24l h24c h24k
  have b24:=F24.binds (ps:=["self", "row"]) (fun _ _ _ _ _ _=>lm2 fun _ _=>rfl)
  have F25:=a1n (st:=b0q) h25l h25c h25k
  have b25:=F25.binds (ps:=["self"]) (fun _ _ _ _ _ _=>lm1 fun _=>rfl)
  have F26:=a1n (st:=a9b) h26l h26c h26k
  have b26:=F26.binds (ps:=["self", "byte"]) (fun _ _ _ _ _ _=>lm2 fun _ _=>rfl)
  have F27:=a1n (st:=a2p) h27l h27c h27k
  have b27:=F27.binds (ps:=["self"]) (fun _ _ _ _ _ _=>lm1 fun _=>rfl)
  have F28:=a1n (st:=a3w) h28l h28c h28k
  have b28:=F28.binds (ps:=["self"]) (fun _ _ _ _ _ _=>lm1 fun _=>rfl)
  have F29:=a1n (st:=a9c) h29l h29c h29k
  have b29:=F29.binds (ps:=["self", "length", "kind"]) (fun _ _ _ _ _ _=>lm3 fun _ _ _=>rfl)
  have F30:=a1n (st:=b0p) h30l h30c h30k
  have b30:=F30.binds (ps:=["number", "bits"]) (fun _ _ _ _ _ _=>lm2 fun _ _=>rfl)
  have F31:=a1n (st:=c1w) h31l h31c h31k
  have b31:=F31.binds (ps:=["number", "bits", "many"]) (fun _ _ _ _ _ _=>lm3 fun _ _ _=>rfl)
  have F32:=a1n (st:=b4o) h32l h32c h32k
  have b32:=F32.binds (ps:=["parts", "bits"]) (fun _ _ _ _ _ _=>lm2 fun _ _=>rfl)
  have F33:=a1n (st:=a8y) h33l h33c h33k
  have b33:=F33.binds (ps:=["self"]) (fun _ _ _ _ _ _=>lm1 fun _=>rfl)
  have F34:=a6c (st:=a7a) h34l h34c h34k h34d
  have bd34:=F34.binds (ps:=["self", "sign", "page"]) (ds:=[.int 0 ud34_0]) (by intro _ _ _ _ _ _ _ us hl; have hm:us.length=2:=(by have:=hl; simp at this; omega); clear hl; revert us; exact lm2 (fun _ _=>⟨_,rfl,rfl⟩))
  have b34:=F34.binds (ps:=["self", "sign", "page"]) (ds:=[]) (by intro _ _ _ _ _ _ _ us hl; have hm:us.length=3:=(by have:=hl; simp at this; omega); clear hl; revert us; exact lm3 (fun _ _ _=>⟨_,rfl,rfl⟩))
  have F35:=a6c (st:=a6z) h35l h35c h35k h35d
  have bd35:=F35.binds (ps:=["self", "row", "page"]) (ds:=[.int 0 ud35_0]) (by intro _ _ _ _ _ _ _ us hl; have hm:us.length=2:=(by have:=hl; simp at this; omega); clear hl; revert us; exact lm2 (fun _ _=>⟨_,rfl,rfl⟩))
  have b35:=F35.binds (ps:=["self", "row", "page"]) (ds:=[]) (by intro _ _ _ _ _ _ _ us hl; have hm:us.length=3:=(by have:=hl; simp at this; omega); clear hl; revert us; exact lm3 (fun _ _ _=>⟨_,rfl,rfl⟩))
  have F36:=a6c (st:=a9a) h36l h36c h36k h36d
  have bd36:=F36.binds (ps:=["self", "row", "page"]) (ds:=[.int 0 ud36_0]) (by intro _ _ _ _ _ _ _ us hl; have hm:us.length=2:=(by have:=hl; simp at this; omega); clear hl; revert us; exact lm2 (fun _ _=>⟨_,rfl,rfl⟩))
  have b36:=F36.binds (ps:=["self", "row", "page"]) (ds:=[]) (by intro _ _ _ _ _ _ _ us hl; have hm:us.length=3:=(by have:=hl; simp at this; omega); clear hl; revert us; exact lm3 (fun _ _ _=>⟨_,rfl,rfl⟩))
  have F37:=a6c (st:=a8z) h37l h37c h37k h37d
  have bd37:=F37.binds (ps:=["self", "begun", "page"]) (ds:=[.int 0 ud37_0]) (by intro _ _ _ _ _ _ _ us hl; have hm:us.length=2:=(by have:=hl; simp at this; omega); clear hl; revert us; exact lm2 (fun _ _=>⟨_,rfl,rfl⟩))
  have b37:=F37.binds (ps:=["self", "begun", "page"]) (ds:=[]) (by intro _ _ _ _ _ _ _ us hl; have hm:us.length=3:=(by have:=hl; simp at this; omega); clear hl; revert us; exact lm3 (fun _ _ _=>⟨_,rfl,rfl⟩))
  have F38:=a1n (st:=b1l) h38l h38c h38k
  have b38:=F38.binds (ps:=["sign"]) (fun _ _ _ _ _ _=>lm1 fun _=>rfl)
  have F39:=a1n (st:=b1m) h39l h39c h39k
  have b39:=F39.binds (ps:=["sign"]) (fun _ _ _ _ _ _=>lm1 fun _=>rfl)
  have F40:=a1n (st:=a5y) h40l h40c h40k
  have b40:=F40.binds (ps:=["first"]) (fun _ _ _ _ _ _=>lm1 fun _=>rfl)
  have F41:=a1n (st:=a5z) h41l h41c h41k
  have b41:=F41.binds (ps:=["row", "place"]) (fun _ _ _ _ _ _=>lm2 fun _ _=>rfl)
  have F42:=a1n (st:=a8u) h42l h42c h42k
  have b42:=F42.binds (ps:=["row"]) (fun _ _ _ _ _ _=>lm1 fun _=>rfl)
  have F43:=a1n (st:=b7v) h43l h43c h43k
  have b43:=F43.binds (ps:=["row"]) (fun _ _ _ _ _ _=>lm1 fun _=>rfl)
  have F44:=a1n (st:=b5c) h44l h44c h44k
  have b44:=F44.binds (ps:=["row"]) (fun _ _ _ _ _ _=>lm1 fun _=>rfl)
  have F45:=a6c (st:=a4a) h45l h45c h45k h45d
  have bd45:=F45.binds (ps:=["self", "sign", "page"]) (ds:=[.int 0 ud45_0]) (by intro _ _ _ _ _ _ _ us hl; have hm:us.length=2:=(by have:=hl; simp at this; omega); clear hl; revert us; exact lm2 (fun _ _=>⟨_,rfl,rfl⟩))
  have b45:=F45.binds (ps:=["self", "sign", "page"]) (ds:=[]) (by intro _ _ _ _ _ _ _ us hl; have hm:us.length=3:=(by have:=hl; simp at this; omega); clear hl; revert us; exact lm3 (fun _ _ _=>⟨_,rfl,rfl⟩))
  have F46:=a6c (st:=a3z) h46l h46c h46k h46d
  have bd46:=F46.binds (ps:=["self", "row", "page"]) (ds:=[.int 0 ud46_0]) (by intro _ _ _ _ _ _ _ us hl; have hm:us.length=2:=(by have:=hl; simp at this; omega); clear hl; revert us; exact lm2 (fun _ _=>⟨_,rfl,rfl⟩))
  have b46:=F46.binds (ps:=["self", "row", "page"]) (ds:=[]) (by intro _ _ _ _ _ _ _ us hl; have hm:us.length=3:=(by have:=hl; simp at this; omega); clear hl; revert us; exact lm3 (fun _ _ _=>⟨_,rfl,rfl⟩))
  have F47:=a6c (st:=a3m) h47l h47c h47k h47d
  have bd47:=F47.binds (ps:=["self", "row", "page"]) (ds:=[.int 0 ud47_0]) (by intro _ _ _ _ _ _ _ us hl; have hm:us.length=2:=(by have:=hl; simp at this; omega); clear hl; revert us; exact lm2 (fun _ _=>⟨_,rfl,rfl⟩))
  have b47:=F47.binds (ps:=["self", "row", "page"]) (ds:=[]) (by intro _ _ _ _ _ _ _ us hl; have hm:us.length=3:=(by have:=hl; simp at this; omega); clear hl; revert us; exact lm3 (fun _ _ _=>⟨_,rfl,rfl⟩))
  have F48:=a1n (st:=b4n) h48l h48c h48k
  have b48:=F48.binds (ps:=["sign"]) (fun _ _ _ _ _ _=>lm1 fun _=>rfl)
  have F49:=a1n (st:=b7u) h49l h49c h49k
  have b49:=F49.binds (ps:=["units"]) (fun _ _ _ _ _ _=>lm1 fun _=>rfl)
  have F50:=a6c (st:=a4n) h50l h50c h50k h50d
  have bd50:=F50.binds (ps:=["self", "order"]) (ds:=[.str "high" ud50_0]) (by intro _ _ _ _ _ _ _ us hl; have hm:us.length=1:=(by have:=hl; simp at this; omega); clear hl; revert us; exact lm1 (fun _=>⟨_,rfl,rfl⟩))
  have b50:=F50.binds (ps:=["self", "order"]) (ds:=[]) (by intro _ _ _ _ _ _ _ us hl; have hm:us.length=2:=(by have:=hl; simp at this; omega); clear hl; revert us; exact lm2 (fun _ _=>⟨_,rfl,rfl⟩))
  have F51:=a1n (st:=a4m) h51l h51c h51k
  have b51:=F51.binds (ps:=["self"]) (fun _ _ _ _ _ _=>lm1 fun _=>rfl)
  have F52:=a1n (st:=a3k) h52l h52c h52k
  have b52:=F52.binds (ps:=["self", "pair"]) (fun _ _ _ _ _ _=>lm2 fun _ _=>rfl)
  have F53:=a1n (st:=a3l) h53l h53c h53k
  have b53:=F53.binds (ps:=["self", "units"]) (fun _ _ _ _ _ _=>lm2 fun _ _=>rfl)
  have F54:=a1n (st:=a2i) h54l h54c h54k
  have b54:=F54.binds (ps:=["self", "row"]) (fun _ _ _ _ _ _=>lm2 fun _ _=>rfl)
  have F55:=a6c (st:=a3y) h55l h55c h55k h55d
  have bd55:=F55.binds (ps:=["self", "sign", "page"]) (ds:=[.int 0 ud55_0]) (by intro _ _ _ _ _ _ _ us hl; have hm:us.length=2:=(by have:=hl; simp at this; omega); clear hl; revert us; exact lm2 (fun _ _=>⟨_,rfl,rfl⟩))
  have b55:=F55.binds (ps:=["self", "sign", "page"]) (ds:=[]) (by intro _ _ _ _ _ _ _ us hl; have hm:us.length=3:=(by have:=hl; simp at this; omega); clear hl; revert us; exact lm3 (fun _ _ _=>⟨_,rfl,rfl⟩))
  have F56:=a6c (st:=a3x) h56l h56c h56k h56d
  have bd56:=F56.binds (ps:=["self", "row", "page"]) (ds:=[.int 0 ud56_0]) (by intro _ _ _ _ _ _ _ us hl; have hm:us.length=2:=(by have:=hl; simp at this; omega); clear hl; revert us; exact lm2 (fun _ _=>⟨_,rfl,rfl⟩))
  have b56:=F56.binds (ps:=["self", "row", "page"]) (ds:=[]) (by intro _ _ _ _ _ _ _ us hl; have hm:us.length=3:=(by have:=hl; simp at this; omega); clear hl; revert us; exact lm3 (fun _ _ _=>⟨_,rfl,rfl⟩))
  have F57:=a6c (st:=a4o) h57l h57c h57k h57d
  have bd57:=F57.binds (ps:=["self", "row", "page"]) (ds:=[.int 0 ud57_0]) (by intro _ _ _ _ _ _ _ us hl; have hm:us.length=2:=(by have:=hl; simp at this; omega); clear hl; revert us; exact lm2 (fun _ _=>⟨_,rfl,rfl⟩))
  have b57:=F57.binds (ps:=["self", "row", "page"]) (ds:=[]) (by intro _ _ _ _ _ _ _ us hl; have hm:us.length=3:=(by have:=hl; simp at this; omega); clear hl; revert us; exact lm3 (fun _ _ _=>⟨_,rfl,rfl⟩))
  have F58:=a1n (st:=c1x) h58l h58c h58k
  have b58:=F58.binds (ps:=["one", "other"]) (fun _ _ _ _ _ _=>lm2 fun _ _=>rfl)
  have F59:=a1n (st:=b1k) h59l h59c h59k
  have b59:=F59.binds (ps:=["signs", "which"]) (fun _ _ _ _ _ _=>lm2 fun _ _=>rfl)
  have F60:=a1n (st:=a3t) h60l h60c h60k
  have b60:=F60.binds (ps:=["self", "first", "second"]) (fun _ _ _ _ _ _=>lm3 fun _ _ _=>rfl)
  have F61:=a1n (st:=a2f) h61l h61c h61k
  have b61:=F61.binds (ps:=["self", "page"]) (fun _ _ _ _ _ _=>lm2 fun _ _=>rfl)
  have F62:=a6c (st:=a3i) h62l h62c h62k h62d
  have bd62:=F62.binds (ps:=["self", "sign", "page"]) (ds:=[.int 0 ud62_0]) (by intro _ _ _ _ _ _ _ us hl; have hm:us.length=2:=(by have:=hl; simp at this; omega); clear hl; revert us; exact lm2 (fun _ _=>⟨_,rfl,rfl⟩))
  have b62:=F62.binds (ps:=["self", "sign", "page"]) (ds:=[]) (by intro _ _ _ _ _ _ _ us hl; have hm:us.length=3:=(by have:=hl; simp at this; omega); clear hl; revert us; exact lm3 (fun _ _ _=>⟨_,rfl,rfl⟩))
  have F63:=a1n (st:=a2u) h63l h63c h63k
  have b63:=F63.binds (ps:=["self", "byte", "page"]) (fun _ _ _ _ _ _=>lm3 fun _ _ _=>rfl)
  have F64:=a6c (st:=a3h) h64l h64c h64k h64d
  have bd64:=F64.binds (ps:=["self", "row", "page"]) (ds:=[.int 0 ud64_0]) (by intro _ _ _ _ _ _ _ us hl; have hm:us.length=2:=(by have:=hl; simp at this; omega); clear hl; revert us; exact lm2 (fun _ _=>⟨_,rfl,rfl⟩))
  have b64:=F64.binds (ps:=["self", "row", "page"]) (ds:=[]) (by intro _ _ _ _ _ _ _ us hl; have hm:us.length=3:=(by have:=hl; simp at this; omega); clear hl; revert us; exact lm3 (fun _ _ _=>⟨_,rfl,rfl⟩))
  have F65:=a6c (st:=a3u) h65l h65c h65k h65d
  have bd65:=F65.binds (ps:=["self", "row", "page"]) (ds:=[.int 0 ud65_0]) (by intro _ _ _ _ _ _ _ us hl; have hm:us.length=2:=(by have:=hl; simp at this; omega); clear hl; revert us; exact lm2 (fun _ _=>⟨_,rfl,rfl⟩))
  have b65:=F65.binds (ps:=["self", "row", "page"]) (ds:=[]) (by intro _ _ _ _ _ _ _ us hl; have hm:us.length=3:=(by have:=hl; simp at this; omega); clear hl; revert us; exact lm3 (fun _ _ _=>⟨_,rfl,rfl⟩))
  have F66:=a1n (st:=b4p) h66l h66c h66k
  have b66:=F66.binds (ps:=["thing"]) (fun _ _ _ _ _ _=>lm1 fun _=>rfl)
  have F67:=a1n (st:=b8a) h67l h67c h67k
  have b67:=F67.binds (ps:=["one", "other"]) (fun _ _ _ _ _ _=>lm2 fun _ _=>rfl)
  have F68:=a1n (st:=a8v) h68l h68c h68k
  have b68:=F68.binds (ps:=["rows"]) (fun _ _ _ _ _ _=>lm1 fun _=>rfl)
  have F69:=a1n (st:=a3r) h69l h69c h69k
  have b69:=F69.binds (ps:=["self", "rows"]) (fun _ _ _ _ _ _=>lm2 fun _ _=>rfl)
  have F70:=a1n (st:=a3g) h70l h70c h70k
  have b70:=F70.binds (ps:=["self", "sign", "row"]) (fun _ _ _ _ _ _=>lm3 fun _ _ _=>rfl)
  have F71:=a6c (st:=a3f) h71l h71c h71k h71d
  have bd71:=F71.binds (ps:=["self", "sign", "page"]) (ds:=[.int 0 ud71_0]) (by intro _ _ _ _ _ _ _ us hl; have hm:us.length=2:=(by have:=hl; simp at this; omega); clear hl; revert us; exact lm2 (fun _ _=>⟨_,rfl,rfl⟩))
  have b71:=F71.binds (ps:=["self", "sign", "page"]) (ds:=[]) (by intro _ _ _ _ _ _ _ us hl; have hm:us.length=3:=(by have:=hl; simp at this; omega); clear hl; revert us; exact lm3 (fun _ _ _=>⟨_,rfl,rfl⟩))
  have F72:=a6c (st:=a3e) h72l h72c h72k h72d
  have bd72:=F72.binds (ps:=["self", "row", "page"]) (ds:=[.int 0 ud72_0]) (by intro _ _ _ _ _ _ _ us hl; have hm:us.length=2:=(by have:=hl; simp at this; omega); clear hl; revert us; exact lm2 (fun _ _=>⟨_,rfl,rfl⟩))
  have b72:=F72.binds (ps:=["self", "row", "page"]) (ds:=[]) (by intro _ _ _ _ _ _ _ us hl; have hm:us.length=3:=(by have:=hl; simp at this; omega); clear hl; revert us; exact lm3 (fun _ _ _=>⟨_,rfl,rfl⟩))
  have F73:=a6c (st:=a3s) h73l h73c h73k h73d
  have bd73:=F73.binds (ps:=["self", "row", "page"]) (ds:=[.int 0 ud73_0]) (by intro _ _ _ _ _ _ _ us hl; have hm:us.length=2:=(by have:=hl; simp at this; omega); clear hl; revert us; exact lm2 (fun _ _=>⟨_,rfl,rfl⟩))
  have b73:=F73.binds (ps:=["self", "row", "page"]) (ds:=[]) (by intro _ _ _ _ _ _ _ us hl; have hm:us.length=3:=(by have:=hl; simp at this; omega); clear hl; revert us; exact lm3 (fun _ _ _=>⟨_,rfl,rfl⟩))
  have F74:=a1n (st:=b7t) h74l h74c h74k
  have b74:=F74.binds (ps:=["_law_script", "_law_at"]) (fun _ _ _ _ _ _=>lm2 fun _ _=>rfl)
  have F75:=a1n (st:=b7s) h75l h75c h75k
  have b75:=F75.binds (ps:=["_law_number", "_law_k"]) (fun _ _ _ _ _ _=>lm2 fun _ _=>rfl)
  have F76:=a1n (st:=b4m) h76l h76c h76k
  have b76:=F76.binds (ps:=["_law_number"]) (fun _ _ _ _ _ _=>lm1 fun _=>rfl)
  have F77:=a1n (st:=b1j) h77l h77c h77k
  have b77:=F77.binds (ps:=["_law_number"]) (fun _ _ _ _ _ _=>lm1 fun _=>rfl)
  have F78:=a1n (st:=b2s) h78l h78c h78k
  have b78:=F78.binds (ps:=["_law_number"]) (fun _ _ _ _ _ _=>lm1 fun _=>rfl)
  have F79:=a1n (st:=b5a) h79l h79c h79k
  have b79:=F79.binds (ps:=["_law_number"]) (fun _ _ _ _ _ _=>lm1 fun _=>rfl)
  have F80:=a1n (st:=b7r) h80l h80c h80k
  have b80:=F80.binds (ps:=["_law_cell"]) (fun _ _ _ _ _ _=>lm1 fun _=>rfl)
  have F81:=a1n (st:=b1i) h81l h81c h81k
  have b81:=F81.binds (ps:=["_law_model_here"]) (fun _ _ _ _ _ _=>lm1 fun _=>rfl)
  have F82:=a1n (st:=b0m) h82l h82c h82k
  have b82:=F82.binds (ps:=["_law_sign"]) (fun _ _ _ _ _ _=>lm1 fun _=>rfl)
  have F83:=a1n (st:=b0l) h83l h83c h83k
  have b83:=F83.binds (ps:=["_law_sign", "_law_word"]) (fun _ _ _ _ _ _=>lm2 fun _ _=>rfl)
  have F84:=a1n (st:=b7q) h84l h84c h84k
  have b84:=F84.binds (ps:=["_law_model_here", "_law_sign", "_law_page"]) (fun _ _ _ _ _ _=>lm3 fun _ _ _=>rfl)
  have F85:=a1n (st:=b3q) h85l h85c h85k
  have b85:=F85.binds (ps:=["_law_model_here", "_law_cells"]) (fun _ _ _ _ _ _=>lm2 fun _ _=>rfl)
  have F86:=a1n (st:=b4l) h86l h86c h86k
  have b86:=F86.binds (ps:=["_law_row_here", "_law_cell"]) (fun _ _ _ _ _ _=>lm2 fun _ _=>rfl)
  have F87:=a1n (st:=c7e) h87l h87c h87k
  have b87:=F87.binds (ps:=["_law_model_here", "_law_cells"]) (fun _ _ _ _ _ _=>lm2 fun _ _=>rfl)
  have F88:=a1n (st:=a8t) h88l h88c h88k
  have b88:=F88.binds (ps:=["_law_reader", "_law_other", "_law_pieces_here"]) (fun _ _ _ _ _ _=>lm3 fun _ _ _=>rfl)
  have F89:=a1n (st:=b1h) h89l h89c h89k
  have b89:=F89.binds (ps:=["_law_tongue_here", "_law_text_here", "_law_cell"]) (fun _ _ _ _ _ _=>lm3 fun _ _ _=>rfl)
  have F90:=a1n (st:=d6c) h90l h90c h90k
  have b90:=F90.binds (ps:=["_law_script"]) (fun _ _ _ _ _ _=>lm1 fun _=>rfl)
  exact⟨⟨a0,_,a1,_,a2,_,a3,_,a4,_,a5,_,a6,_,a7,_,a8,_,a9,_,a10,_,a11,_,a12,_,a13,_,a14,_,a15,_,a16,_,a17,_,ud17_0,a18,_,a19,_,a20,_,ud20_0,a21,_,ud21_0,a22,_,a23,_,a24,_,a25,_,a26,_,a27,_,a28,_,a29,_,a30,_,a31,_,a32,_,a33,_,a34,_,ud34_0,a35,_,ud35_0,a36,_,ud36_0,a37,_,ud37_0,a38,_,a39,_,a40,_,a41,_,a42,_,a43,_,a44,_,a45,_,ud45_0,a46,_,ud46_0,a47,_,ud47_0,a48,_,a49,_,a50,_,ud50_0,a51,_,a52,_,a53,_,a54,_,a55,_,ud55_0,a56,_,ud56_0,a57,_,ud57_0,a58,_,a59,_,a60,_,a61,_,a62,_,ud62_0,a63,_,a64,_,ud64_0,a65,_,ud65_0,a66,_,a67,_,a68,_,a69,_,a70,_,a71,_,ud71_0,a72,_,ud72_0,a73,_,ud73_0,a74,_,a75,_,a76,_,a77,_,a78,_,a79,_,a80,_,a81,_,a82,_,a83,_,a84,_,a85,_,a86,_,a87,_,a88,_,a89,_,a90,_,ccSeenSpeller,ccSeenWriter,ccLeave,ccPut,ccSee,ccGoingReader,ccTongue,ccLeadTongue,ccPairTongue,ccShiftTongue,ccTableTongue,ccWriter,ccReader,eeNoSign,u0,u1,ta2,th2_0,ta2_0,ta2_0_0,ta2_0_1,ta2_0_2,ta2_0_3,ta2_0_4,th2_1,ta2_1,ta2_1_0,ta2_1_1,ta2_1_2,ta2_1_3,ta2_1_4,u3,u4,u5,u6,u7,u8,u9,u10,u11,u12,u13,ta14,u15,u16,u17,ta18,ta18_0,ta18_1,ta18_2,ta18_3,ta18_4,ta19⟩,⟨F0,b0,W.mg_of X G h0a,F1,b1,W.mg_of X G h1a,F2,b2,W.mg_of X G h2a,F3,b3,W.mg_of X G h3a,F4,b4,W.mg_of X G h4a,F5,b5,W.mg_of X G h5a,F6,b6,W.mg_of X G h6a,F7,b7,W.mg_of X G h7a,F8,b8,W.mg_of X G h8a,F9,b9,W.mg_of X G h9a,F10,b10,F11,b11,F12,b12,F13,b13,F14,b14,F15,b15,W.mg_of X G h15a,F16,b16,F17,bd17,b17,F18,b18,F19,b19,F20,bd20,b20,F21,bd21,b21,F22,b22,F23,b23,F24,b24,F25,b25,F26,b26,F27,b27,F28,b28,F29,b29,F30,b30,W.mg_of X G h30a,F31,b31,W.mg_of X G h31a,F32,b32,W.mg_of X G h32a,F33,b33,F34,bd34,b34,F35,bd35,b35,F36,bd36,b36,F37,bd37,b37,F38,b38,W.mg_of X G h38a,F39,b39,W.mg_of X G h39a,F40,b40,W.mg_of X G h40a,F41,b41,W.mg_of X G h41a,F42,b42,W.mg_of X G h42a,F43,b43,W.mg_of X G h43a,F44,b44,W.mg_of X G h44a,F45,bd45,b45,F46,bd46,b46,F47,bd47,b47,F48,b48,W.mg_of X G h48a,F49,b49,W.mg_of X G h49a,F50,bd50,b50,F51,b51,F52,b52,F53,b53,F54,b54,F55,bd55,b55,F56,bd56,b56,F57,bd57,b57,F58,b58,W.mg_of X G h58a,F59,b59,W.mg_of X G h59a,F60,b60,F61,b61,F62,bd62,b62,F63,b63,F64,bd64,b64,F65,bd65,b65,F66,b66,W.mg_of X G h66a,F67,b67,W.mg_of X G h67a,F68,b68,W.mg_of X G h68a,F69,b69,F70,b70,F71,bd71,b71,F72,bd72,b72,F73,bd73,b73,F74,b74,W.mg_of X G h74a,F75,b75,W.mg_of X G h75a,F76,b76,W.mg_of X G h76a,F77,b77,W.mg_of X G h77a,F78,b78,W.mg_of X G h78a,F79,b79,W.mg_of X G h79a,F80,b80,W.mg_of X G h80a,F81,b81,W.mg_of X G h81a,F82,b82,W.mg_of X G h82a,F83,b83,W.mg_of X G h83a,F84,b84,W.mg_of X G h84a,F85,b85,W.mg_of X G h85a,F86,b86,W.mg_of X G h86a,F87,b87,W.mg_of X G h87a,F88,b88,W.mg_of X G h88a,F89,b89,W.mg_of X G h89a,F90,b90,W.mg_of X G h90a,W.mg_of X G b7j,⟨b2g,b2o,b2k,b2c⟩,⟨b7b,h10a,h10f,b7f⟩,⟨h11a,h11f,h11k⟩,a8n,fun H a dx fs e=>.ins e ⟨b2g,b2o,b2k,b2c⟩ b6x b6t b6p cw_SeenSpeller,W.mg_of X G b9s,⟨b3y,b4e,b4b,b3v⟩,⟨b9l,h13a,h13f,b9o⟩,⟨h14a,h14f,h14k⟩,a8m,a9q,fun H a dx fs e=>.ins e ⟨b3y,b4e,b4b,b3v⟩ b9i b9f b9c cw_SeenWriter,W.mg_of X G d7m,⟨c9r,c9v,c9u,c9q⟩,⟨d7i,d7l,d7k⟩,⟨h16a,h16f,h16k⟩,fun H a dx fs e=>.ins e ⟨c9r,c9v,c9u,c9q⟩ d7g d7f d7e cw_Leave,W.mg_of X G f3w,⟨e5u,e5z,e5w,e5s⟩,⟨f3p,h17a,h17f,f3t⟩,⟨h18a,h18f,h18k⟩,c4f,fun H a dx fs e=>.ins e ⟨e5u,e5z,e5w,e5s⟩ f3l f3j f3h cw_Put,W.mg_of X G f3v,⟨e5t,e5y,e5v,e5r⟩,⟨f3o,f3u,f3s⟩,⟨h19a,h19f,h19k⟩,fun H a dx fs e=>.ins e ⟨e5t,e5y,e5v,e5r⟩ f3k f3i f3g cw_See,W.mg_of X G b7k,⟨b2h,b2p,b2l,b2d⟩,⟨b7c,h21a,h21f,b7g⟩,⟨h22a,h22f,h22k⟩,⟨h23a,h23f,h23k⟩,⟨h24a,h24f,h24k⟩,⟨h25a,h25f,h25k⟩,⟨h26a,h26f,h26k⟩,⟨h27a,h27f,h27k⟩,⟨h28a,h28f,h28k⟩,⟨h29a,h29f,h29k⟩,a7f,a9t,a9s,b0g,b1c,a9r,a8o,b1b,fun H a dx fs e=>.ins e ⟨b2h,b2p,b2l,b2d⟩ b6y b6u b6q cw_GoingReader,W.mg_of X G d2f,⟨c5x,c6a,c5y,c5w⟩,⟨d2b,d2d,d2c⟩,⟨h33a,h33f,h33k⟩,⟨h34a,h34f,h34k⟩,⟨h35a,h35f,h35k⟩,⟨h36a,h36f,h36k⟩,⟨h37a,h37f,h37k⟩,fun H a dx fs e=>.ins e ⟨c5x,c6a,c5y,c5w⟩ d2a d1z d1w cw_Tongue,W.mg_of X G b9u,⟨b4a,b4g,b4d,b3x⟩,⟨b9n,b9r,b9q⟩,⟨h45a,h45f,h45k⟩,⟨h46a,h46f,h46k⟩,⟨h47a,h47f,h47k⟩,⟨hi_LeadTongue_unit,h33f,h33k⟩,⟨hi_LeadTongue_look,h37f,h37k⟩,fun H a dx fs e=>.ins e ⟨b4a,b4g,b4d,b3x⟩ b9k b9h b9e cw_LeadTongue,W.mg_of X G b9t,⟨b3z,b4f,b4c,b3w⟩,⟨b9m,h50a,h50f,b9p⟩,⟨h51a,h51f,h51k⟩,⟨h52a,h52f,h52k⟩,⟨h53a,h53f,h53k⟩,⟨h54a,h54f,h54k⟩,⟨h55a,h55f,h55k⟩,⟨h56a,h56f,h56k⟩,⟨h57a,h57f,h57k⟩,⟨hi_PairTongue_look,h37f,h37k⟩,b0f,fun H a dx fs e=>.ins e ⟨b3z,b4f,b4c,b3w⟩ b9j b9g b9d cw_PairTongue,W.mg_of X G b7i,⟨b2f,b2n,b2j,b2b⟩,⟨b7a,h60a,h60f,b7e⟩,⟨h61a,h61f,h61k⟩,⟨h62a,h62f,h62k⟩,⟨h63a,h63f,h63k⟩,⟨h64a,h64f,h64k⟩,⟨h65a,h65f,h65k⟩,⟨hi_ShiftTongue_unit,h33f,h33k⟩,⟨hi_ShiftTongue_look,h37f,h37k⟩,a9p,a8l,a7e,fun H a dx fs e=>.ins e ⟨b2f,b2n,b2j,b2b⟩ b6w b6s b6o cw_ShiftTongue,W.mg_of X G b7h,⟨b2e,b2m,b2i,b2a⟩,⟨b6z,h69a,h69f,b7d⟩,⟨h70a,h70f,h70k⟩,⟨h71a,h71f,h71k⟩,⟨h72a,h72f,h72k⟩,⟨h73a,h73f,h73k⟩,⟨hi_TableTongue_unit,h33f,h33k⟩,⟨hi_TableTongue_look,h37f,h37k⟩,a5d,a5c,a5b,fun H a dx fs e=>.ins e ⟨b2e,b2m,b2i,b2a⟩ b6v b6r b6n cw_TableTongue,W.mg_of X G d2e,⟨d2j,d2l,d2n⟩,W.mg_of X G d2g,⟨d2k,d2m,d2o⟩,W.mg_of X G c0u,W.mg_of X G k0,W.mg_of X G k1,W.mg_of X G k2,⟨⟨_,_,kl2,kv2⟩,List.forall_mem_cons.mpr ⟨kh2_0,List.forall_mem_cons.mpr ⟨kh2_1,fun _ z=>nomatch z⟩⟩,(show List.Nodup (["high", "low"]:List Str) by decide +kernel),ks2⟩,h2h kl2_0 kv2_0 (Nat.le_of_ble_eq_true kz2_0),d8y kl2_0_0 kv2_0_0 (Nat.le_of_ble_eq_true kz2_0_0),d8y kl2_0_1 kv2_0_1 (Nat.le_of_ble_eq_true kz2_0_1),d8y kl2_0_2 kv2_0_2 (Nat.le_of_ble_eq_true kz2_0_2),d8y kl2_0_3 kv2_0_3 (Nat.le_of_ble_eq_true kz2_0_3),d8y kl2_0_4 kv2_0_4 (Nat.le_of_ble_eq_true kz2_0_4),h2h kl2_1 kv2_1 (Nat.le_of_ble_eq_true kz2_1),d8y kl2_1_0 kv2_1_0 (Nat.le_of_ble_eq_true kz2_1_0),d8y kl2_1_1 kv2_1_1 (Nat.le_of_ble_eq_true kz2_1_1),d8y kl2_1_2 kv2_1_2 (Nat.le_of_ble_eq_true kz2_1_2),d8y kl2_1_3 kv2_1_3 (Nat.le_of_ble_eq_true kz2_1_3),d8y kl2_1_4 kv2_1_4 (Nat.le_of_ble_eq_true kz2_1_4),W.mg_of X G k3,W.mg_of X G k4,W.mg_of X G k5,W.mg_of X G k6,W.mg_of X G k7,W.mg_of X G k8,W.mg_of X G k9,W.mg_of X G k10,W.mg_of X G k11,W.mg_of X G k12,W.mg_of X G k13,W.mg_of X G k14,d8y kl14 kv14 (Nat.le_of_ble_eq_true kz14),⟨_,kl14,rfl,rfl⟩,W.mg_of X G k15,W.mg_of X G k16,W.mg_of X G k17,W.mg_of X G k18,⟨⟨_,_,kl18,kv18⟩,(show List.Nodup ([224,237,238,240,244]:List Int) by decide),ks18⟩,d8y kl18_0 kv18_0 (Nat.le_of_ble_eq_true kz18_0),d8y kl18_1 kv18_1 (Nat.le_of_ble_eq_true kz18_1),d8y kl18_2 kv18_2 (Nat.le_of_ble_eq_true kz18_2),d8y kl18_3 kv18_3 (Nat.le_of_ble_eq_true kz18_3),d8y kl18_4 kv18_4 (Nat.le_of_ble_eq_true kz18_4),W.mg_of X G k19,d8y kl19 kv19 (Nat.le_of_ble_eq_true kz19),⟨_,kl19,rfl,rfl⟩,W.mg_none_of X G z0,W.mg_none_of X G z1,W.mg_none_of X G z2,W.mg_none_of X G z3,W.mg_none_of X G z4,W.mg_none_of X G z5,W.mg_none_of X G z6,W.mg_none_of X G z7,W.mg_none_of X G z8,W.mg_none_of X G z9,W.mg_none_of X G z10,W.mg_none_of X G z11,W.mg_none_of X G z12⟩⟩
theorem walk {l:PySem.W.OpenLaw} {q:Program} {loose:List Str} {XP:(Str->Option Value)->Heap->Prop} {YP:World->Heap->Prop} {d:DefRec} {K:Params->PySem.W.Frag} (hn:l.most=some 63) (hdf:d.params.defaults=[]) (hnm:d.name = "law")
 (hY : ∀ (w:World) (h:Heap),YP w h->(K w.params).In h)
 (F : ∀ (w:World) (mg:Str->Option Value) (h:Heap),(K w.params).In h->h.Ns mainGlobals mg->∃ t,Txt w (K w.params) mg t) :
 PySem.W.WalkO q loose XP YP l.row.toRowW d [] (fun f vs=>PySem.call f vs):=by
 refine L2.walk_of (n:=63) (k:=15) (x := "_law_script") (CX:=fun _=>CX0) (sp:=fun w=>e9i (K w.params)) hn (by decide) hdf ⟨rfl,by decide,by decide⟩ hY (fun w mg fa h KX G hmg=>?_) (fun _ _ a ns hl _ hS=>⟨a,rfl,ns,hS,hl,fun _=>rfl⟩) fun _ _ _ _ _ z=>z
 obtain⟨t,T⟩:=F w mg h KX G
 rw[hnm]at hmg
 have e:=hmg.symm.trans T.g8d
 cases e
 obtain⟨oc,od,kV,doc,pm,an,cdv,ct,osl,e1,lk,hcd⟩:=T.g4b.ex
 refine⟨t.f8j,fun s u=>?_,fun base _ _=>(h1d (P:=l.prog) (w:=w) (base:=base) T).ok⟩
 rw[e1]
 exact .of_eq rfl
end My
theorem PySem.W.Fast.tw10036618321713352854:True:=trivial
theorem PySem.W.Fast.tw10992229317815975559:True:=trivial
theorem PySem.W.Fast.tw11072551979860366729:True:=trivial
theorem PySem.W.Fast.tw11588016271624098341:True:=trivial
theorem PySem.W.Fast.tw11804868114419513521:True:=trivial
theorem PySem.W.Fast.tw11906696758851173336:True:=trivial
theorem PySem.W.Fast.tw12122880461777377096:True:=trivial
theorem PySem.W.Fast.tw123923637835386878:True:=trivial
theorem PySem.W.Fast.tw1278339281871067696:True:=trivial
theorem PySem.W.Fast.tw13222581830438869623:True:=trivial
theorem PySem.W.Fast.tw1395986608577409133:True:=trivial
theorem PySem.W.Fast.tw13971956041585914302:True:=trivial
theorem PySem.W.Fast.tw14568482821785561313:True:=trivial
theorem PySem.W.Fast.tw14685589627832406824:True:=trivial
theorem PySem.W.Fast.tw15820803688937595360:True:=trivial
theorem PySem.W.Fast.tw15910004996845168443:True:=trivial
theorem PySem.W.Fast.tw15914701924847179815:True:=trivial
theorem PySem.W.Fast.tw16339670492190701973:True:=trivial
theorem PySem.W.Fast.tw1667886933523964767:True:=trivial
theorem PySem.W.Fast.tw16732353688975257454:True:=trivial
theorem PySem.W.Fast.tw17413889634854302656:True:=trivial
theorem PySem.W.Fast.tw18150262479092424612:True:=trivial
theorem PySem.W.Fast.tw18157389975640701488:True:=trivial
theorem PySem.W.Fast.tw1961269555899140481:True:=trivial
theorem PySem.W.Fast.tw2058425777411891719:True:=trivial
theorem PySem.W.Fast.tw2176356090084964993:True:=trivial
theorem PySem.W.Fast.tw299650393407847400:True:=trivial
theorem PySem.W.Fast.tw3504905245807122969:True:=trivial
theorem PySem.W.Fast.tw3687437531659496007:True:=trivial
theorem PySem.W.Fast.tw3692716472904127280:True:=trivial
theorem PySem.W.Fast.tw5732224666750045670:True:=trivial
theorem PySem.W.Fast.tw5734081767305881495:True:=trivial
theorem PySem.W.Fast.tw6144413961613114888:True:=trivial
theorem PySem.W.Fast.tw649325997969229505:True:=trivial
theorem PySem.W.Fast.tw6501358196804885900:True:=trivial
theorem PySem.W.Fast.tw6774767092222592012:True:=trivial
theorem PySem.W.Fast.tw679834702792840956:True:=trivial
theorem PySem.W.Fast.tw7113701452814668443:True:=trivial
theorem PySem.W.Fast.tw7710332903365860601:True:=trivial
theorem PySem.W.Fast.tw7961454513021181108:True:=trivial
theorem PySem.W.Fast.tw8928491024617295691:True:=trivial
theorem PySem.W.Fast.tw9040234969001046798:True:=trivial
theorem PySem.W.Fast.tw9259554687006695024:True:=trivial
theorem PySem.W.Fast.tw9695679864961211274:True:=trivial
theorem PySem.W.Fast.tw9974906691700659785:True:=trivial
open PySem PySem.W PyProof.Rows
set_option maxRecDepth 100000 in
set_option maxHeartbeats 0 in
theorem PySem.Challenge.cw_bytetongue_k74_whole_seen_and_back_holds : PySem.Challenge.rw_bytetongue_k74_whole_seen_and_back.Holds := by
 w_on; o_law; k_head; (case hw=>w_witness2)
 k_fill
 refine My.walk (l:=PySem.Challenge.rw_bytetongue_k74_whole_seen_and_back) rfl rfl rfl (fun w h Y=>PySem.W.kIn_of Y) ?F
 case F =>
  intro w mg h KX G
  refine' My.txt_mk KX G ?c0u ?h0a ?h0l ?h0c ?h0k ?h1a ?h1l ?h1c ?h1k ?h2a ?h2l ?h2c ?h2k ?h3a ?h3l ?h3c ?h3k ?h4a ?h4l ?h4c ?h4k ?h5a ?h5l ?h5c ?h5k ?h6a ?h6l ?h6c ?h6k ?h7a ?h7l ?h7c ?h7k ?h8a ?h8l ?h8c ?h8k ?h9a ?h9l ?h9c ?h9k ?b7j ?b2g ?b2o ?b2k ?b2c ?b7b ?b7f ?b6x ?b6t ?b6p ?cw_SeenSpeller ?a8n ?h10a ?h10f ?h10l ?h10c ?h10k ?h11a ?h11f ?h11l ?h11c ?h11k ?h12l ?h12c ?h12k ?b9s ?b3y ?b4e ?b4b ?b3v ?b9l ?b9o ?b9i ?b9f ?b9c ?cw_SeenWriter ?a8m ?a9q ?h13a ?h13f ?h13l ?h13c ?h13k ?h14a ?h14f ?h14l ?h14c ?h14k ?h15a ?h15l ?h15c ?h15k ?d7m ?c9r ?c9v ?c9u ?c9q ?d7i ?d7k ?d7l ?d7g ?d7f ?d7e ?cw_Leave ?h16a ?h16f ?h16l ?h16c ?h16k ?f3w ?e5u ?e5z ?e5w ?e5s ?f3p ?f3t ?f3l ?f3j ?f3h ?cw_Put ?c4f ?h17a ?h17f ?h17l ?h17c ?h17k ?h17d ?h18a ?h18f ?h18l ?h18c ?h18k ?f3v ?e5t ?e5y ?e5v ?e5r ?f3o ?f3s ?f3u ?f3k ?f3i ?f3g ?cw_See ?h19a ?h19f ?h19l ?h19c ?h19k ?h20l ?h20c ?h20k ?h20d ?b7k ?b2h ?b2p ?b2l ?b2d ?b7c ?b7g ?b6y ?b6u ?b6q ?cw_GoingReader ?a7f ?a9t ?a9s ?b0g ?b1c ?a9r ?a8o ?b1b ?h21a ?h21f ?h21l ?h21c ?h21k ?h21d ?h22a ?h22f ?h22l ?h22c ?h22k ?h23a ?h23f ?h23l ?h23c ?h23k ?h24a ?h24f ?h24l ?h24c ?h24k ?h25a ?h25f ?h25l ?h25c ?h25k ?h26a ?h26f ?h26l ?h26c ?h26k ?h27a ?h27f ?h27l ?h27c ?h27k ?h28a ?h28f ?h28l ?h28c ?h28k ?h29a ?h29f ?h29l ?h29c ?h29k ?h30a ?h30l ?h30c ?h30k ?h31a ?h31l ?h31c ?h31k ?h32a ?h32l ?h32c ?h32k ?d2f ?c5x ?c6a ?c5y ?c5w ?d2b ?d2c ?d2d ?d2a ?d1z ?d1w ?cw_Tongue ?h33a ?h33f ?h33l ?h33c ?h33k ?h34a ?h34f ?h34l ?h34c ?h34k ?h34d ?h35a ?h35f ?h35l ?h35c ?h35k ?h35d ?h36a ?h36f ?h36l ?h36c ?h36k ?h36d ?h37a ?h37f ?h37l ?h37c ?h37k ?h37d ?h38a ?h38l ?h38c ?h38k ?h39a ?h39l ?h39c ?h39k ?h40a ?h40l ?h40c ?h40k ?h41a ?h41l ?h41c ?h41k ?h42a ?h42l ?h42c ?h42k ?h43a ?h43l ?h43c ?h43k ?h44a ?h44l ?h44c ?h44k ?b9u ?b4a ?b4g ?b4d ?b3x ?b9n ?b9q ?b9r ?b9k ?b9h ?b9e ?cw_LeadTongue ?h45a ?h45f ?h45l ?h45c ?h45k ?h45d ?h46a ?h46f ?h46l ?h46c ?h46k ?h46d ?h47a ?h47f ?h47l ?h47c ?h47k ?h47d ?h48a ?h48l ?h48c ?h48k ?h49a ?h49l ?h49c ?h49k ?b9t ?b3z ?b4f ?b4c ?b3w ?b9m ?b9p ?b9j ?b9g ?b9d ?cw_PairTongue ?b0f ?h50a ?h50f ?h50l ?h50c ?h50k ?h50d ?h51a ?h51f ?h51l ?h51c ?h51k ?h52a ?h52f ?h52l ?h52c ?h52k ?h53a ?h53f ?h53l ?h53c ?h53k ?h54a ?h54f ?h54l ?h54c ?h54k ?h55a ?h55f ?h55l ?h55c ?h55k ?h55d ?h56a ?h56f ?h56l ?h56c ?h56k ?h56d ?h57a ?h57f ?h57l ?h57c ?h57k ?h57d ?h58a ?h58l ?h58c ?h58k ?h59a ?h59l ?h59c ?h59k ?b7i ?b2f ?b2n ?b2j ?b2b ?b7a ?b7e ?b6w ?b6s ?b6o ?cw_ShiftTongue ?a9p ?a8l ?a7e ?h60a ?h60f ?h60l ?h60c ?h60k ?h61a ?h61f ?h61l ?h61c ?h61k ?h62a ?h62f ?h62l ?h62c ?h62k ?h62d ?h63a ?h63f ?h63l ?h63c ?h63k ?h64a ?h64f ?h64l ?h64c ?h64k ?h64d ?h65a ?h65f ?h65l ?h65c ?h65k ?h65d ?h66a ?h66l ?h66c ?h66k ?h67a ?h67l ?h67c ?h67k ?h68a ?h68l ?h68c ?h68k ?b7h ?b2e ?b2m ?b2i ?b2a ?b6z ?b7d ?b6v ?b6r ?b6n ?cw_TableTongue ?a5d ?a5c ?a5b ?h69a ?h69f ?h69l ?h69c ?h69k ?h70a ?h70f ?h70l ?h70c ?h70k ?h71a ?h71f ?h71l ?h71c ?h71k ?h71d ?h72a ?h72f ?h72l ?h72c ?h72k ?h72d ?h73a ?h73f ?h73l ?h73c ?h73k ?h73d ?h74a ?h74l ?h74c ?h74k ?h75a ?h75l ?h75c ?h75k ?h76a ?h76l ?h76c ?h76k ?h77a ?h77l ?h77c ?h77k ?h78a ?h78l ?h78c ?h78k ?h79a ?h79l ?h79c ?h79k ?h80a ?h80l ?h80c ?h80k ?h81a ?h81l ?h81c ?h81k ?h82a ?h82l ?h82c ?h82k ?h83a ?h83l ?h83c ?h83k ?h84a ?h84l ?h84c ?h84k ?h85a ?h85l ?h85c ?h85k ?h86a ?h86l ?h86c ?h86k ?h87a ?h87l ?h87c ?h87k ?h88a ?h88l ?h88c ?h88k ?h89a ?h89l ?h89c ?h89k ?h90a ?h90l ?h90c ?h90k ?hi_LeadTongue_unit ?hi_LeadTongue_look ?hi_PairTongue_look ?hi_ShiftTongue_unit ?hi_ShiftTongue_look ?hi_TableTongue_unit ?hi_TableTongue_look ?d2e ?d2j ?d2l ?d2n ?d2g ?d2k ?d2m ?d2o ?k0 ?k1 ?k2 ?kl2 ?kv2 ?ks2 ?kh2_0 ?kh2_1 ?kl2_0 ?kv2_0 ?kz2_0 ?kl2_0_0 ?kv2_0_0 ?kz2_0_0 ?kl2_0_1 ?kv2_0_1 ?kz2_0_1 ?kl2_0_2 ?kv2_0_2 ?kz2_0_2 ?kl2_0_3 ?kv2_0_3 ?kz2_0_3 ?kl2_0_4 ?kv2_0_4 ?kz2_0_4 ?kl2_1 ?kv2_1 ?kz2_1 ?kl2_1_0 ?kv2_1_0 ?kz2_1_0 ?kl2_1_1 ?kv2_1_1 ?kz2_1_1 ?kl2_1_2 ?kv2_1_2 ?kz2_1_2 ?kl2_1_3 ?kv2_1_3 ?kz2_1_3 ?kl2_1_4 ?kv2_1_4 ?kz2_1_4 ?k3 ?k4 ?k5 ?k6 ?k7 ?k8 ?k9 ?k10 ?k11 ?k12 ?k13 ?k14 ?kl14 ?kv14 ?kz14 ?k15 ?k16 ?k17 ?k18 ?kl18 ?kv18 ?ks18 ?kl18_0 ?kv18_0 ?kz18_0 ?kl18_1 ?kv18_1 ?kz18_1 ?kl18_2 ?kv18_2 ?kz18_2 ?kl18_3 ?kv18_3 ?kz18_3 ?kl18_4 ?kv18_4 ?kz18_4 ?k19 ?kl19 ?kv19 ?kz19 ?z0 ?z1 ?z2 ?z3 ?z4 ?z5 ?z6 ?z7 ?z8 ?z9 ?z10 ?z11 ?z12
  case d2e|d2j|d2l|d2n|d2g|d2k|d2m|d2o|c0u|h0a|h0l|h0c|h0k|h1a|h1l|h1c|h1k|h2a|h2l|h2c|h2k|h3a|h3l|h3c|h3k|h4a|h4l|h4c|h4k|h5a|h5l|h5c|h5k|h6a|h6l|h6c|h6k|h7a|h7l|h7c|h7k|h8a|h8l|h8c|h8k|h9a|h9l|h9c|h9k|b7j|b2g|b2o|b2k|b2c|b7b|b7f|b6x|b6t|b6p|cw_SeenSpeller=>k_is
  case a8n|h10a|h10f|h10l|h10c|h10k|h11a|h11f|h11l|h11c|h11k|h12l|h12c|h12k|b9s|b3y|b4e|b4b|b3v|b9l|b9o|b9i|b9f|b9c|cw_SeenWriter|a8m|a9q|h13a|h13f|h13l|h13c|h13k|h14a|h14f|h14l|h14c|h14k|h15a|h15l|h15c|h15k|d7m|c9r|c9v|c9u|c9q|d7i|d7k|d7l|d7g|d7f|d7e|cw_Leave|h16a|h16f|h16l|h16c|h16k|f3w|e5u=>k_is
  case e5z|e5w|e5s|f3p|f3t|f3l|f3j|f3h|cw_Put|c4f|h17a|h17f|h17l|h17c|h17k|h17d|h18a|h18f|h18l|h18c|h18k|f3v|e5t|e5y|e5v|e5r|f3o|f3s|f3u|f3k|f3i|f3g|cw_See|h19a|h19f|h19l|h19c|h19k|h20l|h20c|h20k|h20d|b7k|b2h|b2p|b2l|b2d|b7c|b7g|b6y|b6u|b6q|cw_GoingReader|a7f|a9t|a9s|b0g|b1c|a9r|a8o=>k_is
  case b1b|h21a|h21f|h21l|h21c|h21k|h21d|h22a|h22f|h22l|h22c|h22k|h23a|h23f|h23l|h23c|h23k|h24a|h24f|h24l|h24c|h24k|h25a|h25f|h25l|h25c|h25k|h26a|h26f|h26l|h26c|h26k|h27a|h27f|h27l|h27c|h27k|h28a|h28f|h28l|h28c|h28k|h29a|h29f|h29l|h29c|h29k|h30a|h30l|h30c|h30k|h31a|h31l|h31c|h31k|h32a|h32l|h32c|h32k|d2f=>k_is
  case c5x|c6a|c5y|c5w|d2b|d2c|d2d|d2a|d1z|d1w|cw_Tongue|h33a|h33f|h33l|h33c|h33k|h34a|h34f|h34l|h34c|h34k|h34d|h35a|h35f|h35l|h35c|h35k|h35d|h36a|h36f|h36l|h36c|h36k|h36d|h37a|h37f|h37l|h37c|h37k|h37d|h38a|h38l|h38c|h38k|h39a|h39l|h39c|h39k|h40a|h40l|h40c|h40k|h41a|h41l|h41c|h41k|h42a|h42l|h42c|h42k=>k_is
  case h43a|h43l|h43c|h43k|h44a|h44l|h44c|h44k|b9u|b4a|b4g|b4d|b3x|b9n|b9q|b9r|b9k|b9h|b9e|cw_LeadTongue|h45a|h45f|h45l|h45c|h45k|h45d|h46a|h46f|h46l|h46c|h46k|h46d|h47a|h47f|h47l|h47c|h47k|h47d|h48a|h48l|h48c|h48k|h49a|h49l|h49c|h49k|b9t|b3z|b4f|b4c|b3w|b9m|b9p|b9j|b9g|b9d|cw_PairTongue|b0f|h50a|h50f=>k_is
  case h50l|h50c|h50k|h50d|h51a|h51f|h51l|h51c|h51k|h52a|h52f|h52l|h52c|h52k|h53a|h53f|h53l|h53c|h53k|h54a|h54f|h54l|h54c|h54k|h55a|h55f|h55l|h55c|h55k|h55d|h56a|h56f|h56l|h56c|h56k|h56d|h57a|h57f|h57l|h57c|h57k|h57d|h58a|h58l|h58c|h58k|h59a|h59l|h59c|h59k|b7i|b2f|b2n|b2j|b2b|b7a|b7e|b6w|b6s|b6o=>k_is
  case cw_ShiftTongue|a9p|a8l|a7e|h60a|h60f|h60l|h60c|h60k|h61a|h61f|h61l|h61c|h61k|h62a|h62f|h62l|h62c|h62k|h62d|h63a|h63f|h63l|h63c|h63k|h64a|h64f|h64l|h64c|h64k|h64d|h65a|h65f|h65l|h65c|h65k|h65d|h66a|h66l|h66c|h66k|h67a|h67l|h67c|h67k|h68a|h68l|h68c|h68k|b7h|b2e|b2m|b2i|b2a|b6z|b7d|b6v|b6r|b6n|cw_TableTongue=>k_is
  case a5d|a5c|a5b|h69a|h69f|h69l|h69c|h69k|h70a|h70f|h70l|h70c|h70k|h71a|h71f|h71l|h71c|h71k|h71d|h72a|h72f|h72l|h72c|h72k|h72d|h73a|h73f|h73l|h73c|h73k|h73d|h74a|h74l|h74c|h74k|h75a|h75l|h75c|h75k|h76a|h76l|h76c|h76k|h77a|h77l|h77c|h77k|h78a|h78l|h78c|h78k|h79a|h79l|h79c|h79k|h80a|h80l|h80c|h80k|h81a=>k_is
  case h81l|h81c|h81k|h82a|h82l|h82c|h82k|h83a|h83l|h83c|h83k|h84a|h84l|h84c|h84k|h85a|h85l|h85c|h85k|h86a|h86l|h86c|h86k|h87a|h87l|h87c|h87k|h88a|h88l|h88c|h88k|h89a|h89l|h89c|h89k|h90a|h90l|h90c|h90k|hi_LeadTongue_unit|hi_LeadTongue_look|hi_PairTongue_look|hi_ShiftTongue_unit|hi_ShiftTongue_look|hi_TableTongue_unit|hi_TableTongue_look|k0|k1|k2|kl2=>k_is
  (case kv2=>rfl)
  (case ks2=>rfl)
  (case kh2_0=>rfl)
  (case kh2_1=>rfl)
  case kl2_0=>k_is
  (case kv2_0=>rfl)
  (case kz2_0=>rfl)
  case kl2_0_0=>k_is
  (case kv2_0_0=>rfl)
  (case kz2_0_0=>rfl)
  case kl2_0_1=>k_is
  (case kv2_0_1=>rfl)
  (case kz2_0_1=>rfl)
  case kl2_0_2=>k_is
  (case kv2_0_2=>rfl)
  (case kz2_0_2=>rfl)
  case kl2_0_3=>k_is
  (case kv2_0_3=>rfl)
  (case kz2_0_3=>rfl)
  case kl2_0_4=>k_is
  (case kv2_0_4=>rfl)
  (case kz2_0_4=>rfl)
  case kl2_1=>k_is
  (case kv2_1=>rfl)
  (case kz2_1=>rfl)
  case kl2_1_0=>k_is
  (case kv2_1_0=>rfl)
  (case kz2_1_0=>rfl)
  case kl2_1_1=>k_is
  (case kv2_1_1=>rfl)
  (case kz2_1_1=>rfl)
  case kl2_1_2=>k_is
  (case kv2_1_2=>rfl)
  (case kz2_1_2=>rfl)
  case kl2_1_3=>k_is
  (case kv2_1_3=>rfl)
  (case kz2_1_3=>rfl)
  case kl2_1_4=>k_is
  (case kv2_1_4=>rfl)
  (case kz2_1_4=>rfl)
  case k3|k4|k5|k6|k7|k8|k9|k10|k11|k12|k13|k14|kl14=>k_is
  (case kv14=>rfl)
  (case kz14=>rfl)
  case k15|k16|k17|k18|kl18=>k_is
  (case kv18=>rfl)
  (case ks18=>rfl)
  case kl18_0=>k_is
  (case kv18_0=>rfl)
  (case kz18_0=>rfl)
  case kl18_1=>k_is
  (case kv18_1=>rfl)
  (case kz18_1=>rfl)
  case kl18_2=>k_is
  (case kv18_2=>rfl)
  (case kz18_2=>rfl)
  case kl18_3=>k_is
  (case kv18_3=>rfl)
  (case kz18_3=>rfl)
  case kl18_4=>k_is
  (case kv18_4=>rfl)
  (case kz18_4=>rfl)
  case k19|kl19=>k_is
  (case kv19=>rfl)
  (case kz19=>rfl)
  case z0|z1|z2|z3|z4|z5|z6|z7|z8|z9|z10|z11|z12=>k_is
