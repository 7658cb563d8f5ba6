import PyProof.Rows.All
import Wide.All
import OpenK.AllK
import Wide.FinOn
import Lean
import PyProof.EqAt
import PyProof.EqKinds
import PyProof.TupleCall
import PySem.Challenge.RW_bytetongue_k62_in_pieces
set_option Elab.async false
set_option linter.all false
set_option maxRecDepth 100000
namespace L2
open PySem PySem.Spec PyProof.Rows
abbrev Key:=Sum Int Str
def keyIs:Key->Value->Bool
  | .inl k,v=>Value.isInt k v
  | .inr x,v=>Value.isStrOf x v
def keyH (w:World):Key->Int
  | .inl k=>hashInt k
  | .inr x=>hashStr w x
theorem keyIs_shape : ∀ {k:Key} {v:Value},keyIs k v=true->(∃ i t,k=Sum.inl i/\v=Value.int i t)\/(∃ x t,k=Sum.inr x/\v=Value.str x t)
  | .inl i,v,h=>by
    obtain ⟨t,e⟩:=Value.isInt_shape (k:=i) (v:=v) h
    exact .inl ⟨i,t,rfl,e⟩
  | .inr x,v,h=>by
    obtain ⟨t,e⟩:=Value.isStrOf_shape (x:=x) (v:=v) h
    exact .inr ⟨x,t,rfl,e⟩
theorem keyIs_int (i:Int) (t:Tok):keyIs (.inl i) (.int i t)=true:=by simp [keyIs,Value.isInt]
theorem keyIs_str (x:Str) (t:Tok):keyIs (.inr x) (.str x t)=true:=by simp [keyIs,Value.isStrOf]
theorem key_ll (a b:Int):decide ((Sum.inl a:Key)=Sum.inl b)=(a == b):=by
  by_cases e:a=b
  · subst e; simp
  · have h : ¬ (Sum.inl a:Key)=Sum.inl b:=fun q=>e (Sum.inl.inj q)
    rw [decide_eq_false h]
    exact (beq_eq_false_iff_ne.mpr e).symm
theorem key_rr (a b:Str):decide ((Sum.inr a:Key)=Sum.inr b)=decide (a=b):=by
  by_cases e:a=b
  · subst e; simp
  · have h : ¬ (Sum.inr a:Key)=Sum.inr b:=fun q=>e (Sum.inr.inj q)
    rw [decide_eq_false h,decide_eq_false e]
theorem key_lr (a:Int) (b:Str):decide ((Sum.inl a:Key)=Sum.inr b)=false:=decide_eq_false (fun q=>nomatch q)
theorem key_rl (a:Str) (b:Int):decide ((Sum.inr a:Key)=Sum.inl b)=false:=decide_eq_false (fun q=>nomatch q)
def mixKind (prog:Program) (w:World):PySem.KeyKind prog w Key where
  is:=keyIs
  hash:=keyH w
  inj:=fun v a b ha hb=>by
    rcases keyIs_shape ha with ⟨i,t,rfl,rfl⟩ | ⟨x,t,rfl,rfl⟩
    · rcases keyIs_shape hb with ⟨j,u,rfl,e⟩ | ⟨y,u,rfl,e⟩
      · injection e with e1 _; rw [e1]
      · exact nomatch e
    · rcases keyIs_shape hb with ⟨j,u,rfl,e⟩ | ⟨y,u,rfl,e⟩
      · exact nomatch e
      · injection e with e1 _; rw [e1]
  byValue:=fun k v h=>by
    rcases keyIs_shape h with ⟨i,t,rfl,rfl⟩ | ⟨x,t,rfl,rfl⟩ <;> rfl
  pyHash:=fun hv h=>by
    rcases keyIs_shape hv with ⟨i,t,rfl,rfl⟩ | ⟨x,t,rfl,rfl⟩
    · exact wpAny_pyHash_int h
    · exact wpAny_pyHash_str h
  eqBool:=fun hu hv h=>by
    rcases keyIs_shape hu with ⟨i,t,rfl,rfl⟩ | ⟨x,t,rfl,rfl⟩
    · rcases keyIs_shape hv with ⟨j,u,rfl,rfl⟩ | ⟨y,u,rfl,rfl⟩
      · rw [key_ll] at h; exact wpAny_eqBool_int h
      · rw [key_lr] at h; exact SeqAt.EqAt.int_str i t y u _ _ _ _ h
    · rcases keyIs_shape hv with ⟨j,u,rfl,rfl⟩ | ⟨y,u,rfl,rfl⟩
      · rw [key_rl] at h; exact SeqAt.EqAt.str_int x t j u _ _ _ _ h
      · rw [key_rr] at h; exact wpAny_eqBool_str h
  «strs»:=fun k x t v h=>by
    rcases keyIs_shape h with ⟨i,u,rfl,e⟩ | ⟨y,u,rfl,e⟩
    · exact nomatch e
    · injection e with e1 _
      subst e1
      cases v <;> rfl
theorem mixKind_int (prog:Program) (w:World) (i:Int) (t:Tok):(mixKind prog w).is (.inl i) (.int i t)=true:=keyIs_int i t
theorem mixKind_str (prog:Program) (w:World) (x:Str) (t:Tok):(mixKind prog w).is (.inr x) (.str x t)=true:=keyIs_str x t
end L2
namespace L2
open PySem PySem.Spec PyProof.Rows
inductive V where
  | non | bl (b:Bool) | int (i:Int) | str (x:Str) | byt (b:Array UInt8) | flt (b:UInt64) | ref (a:Addr) | ty (n:String)
  deriving DecidableEq
def RelV:V->Value->Prop
  | .non,u=>u=Value.none
  | .bl b,u=>u=Value.bool b
  | .int i,u=>∃ t,u=Value.int i t
  | .str x,u=>∃ t,u=Value.str x t
  | .byt b,u=>∃ t,u=Value.bytes b t
  | .flt b,u=>∃ t,u=Value.float b t
  | .ref a,u=>u=Value.ref a
  | .ty n,u=>u=Value.type n
abbrev Vals:List V->List Value->Prop:=Paired RelV
theorem Vals.length {xs:List V} {us:List Value} (r:Vals xs us):xs.length=us.length:=Paired.length r
theorem Vals.get : ∀ {xs:List V} {us:List Value} {i:Nat} {x:V},Vals xs us->xs[i]? = some x->∃ u,us[i]? = some u/\RelV x u
  | _,_,_,_,.nil,e=>by simp at e
  | _,_,0,_,.cons r _,e=>by simp at e; subst e; exact ⟨_,rfl,r⟩
  | _,_,i+1,x,.cons _ t,e=>by
    obtain ⟨u,h1,h2⟩:=Vals.get (i:=i) (x:=x) t (by simpa using e)
    exact ⟨u,by simpa using h1,h2⟩
theorem Vals.set {x:V} {u:Value} (r:RelV x u) : ∀ {xs:List V} {us:List Value} (i:Nat),Vals xs us->Vals (xs.set i x) (us.set i u)
  | _,_,_,.nil=>.nil
  | _,_,0,.cons _ t=>.cons r t
  | _,_,i+1,.cons q t=>.cons q (Vals.set r i t)
theorem Vals.append : ∀ {xs ys:List V} {us ws:List Value},Vals xs us->Vals ys ws->Vals (xs++ys) (us++ws)
  | _,_,_,_,.nil,s=>s
  | _,_,_,_,.cons r t,s=>.cons r (Vals.append t s)
theorem Vals.take : ∀ {xs:List V} {us:List Value} (n:Nat),Vals xs us->Vals (xs.take n) (us.take n)
  | _,_,0,_=>.nil
  | _,_,_+1,.nil=>.nil
  | _,_,n+1,.cons r t=>.cons r (Vals.take n t)
theorem Vals.drop : ∀ {xs:List V} {us:List Value} (n:Nat),Vals xs us->Vals (xs.drop n) (us.drop n)
  | _,_,0,r=>r
  | _,_,_+1,.nil=>.nil
  | _,_,n+1,.cons _ t=>Vals.drop n t
def RelO:Option V->Option Value->Prop
  | some v,some u=>RelV v u
  | none,none=>True
  | _,_=>False
def KV {κ:Type}:List (κ × V)->List (κ × Value)->Prop:=Paired fun (p:κ × V) (q:κ × Value)=>p.1=q.1/\RelV p.2 q.2
def kV:Key->V
  | .inl i=>.int i
  | .inr x=>.str x
inductive HO where
    | lst (xs:List V)
    | tup (xs:List V)
    | dK (kvs:List (Key × V)) | dT (kvs:List (List Key × V))
    | set (S:Int->Bool) (n:Nat)
    | ins (C dx:Addr) (fs:List (Str × V))
    | own (x:Addr)
    | xd (fs:List (Str × V))
    | met (f x:Addr)
    | rng (lo hi:Int)
    | frz (o:Obj) (u:HO)
    | tbl (ps:Array Value)
    | ext (φ:Heap->Prop)
abbrev Hp:=Addr->Option HO
def upd (H:Hp) (a:Addr) (o:HO):Hp:=fun b=>if b=a then some o else H b
theorem upd_same {H:Hp} {a:Addr} {o:HO}:upd H a o a=some o:=by unfold upd; rw [if_pos rfl]
theorem upd_ne {H:Hp} {a b:Addr} {o:HO} (h:b≠a):upd H a o b=H b:=by unfold upd; rw [if_neg h]
theorem ne_of {H:Hp} {a b:Addr} {o u:HO} (h:H a=some o) (h':H b=some u) (d:o≠u):a≠b:=by
  intro e; subst e; rw [h] at h'; exact d (Option.some.inj h')
theorem ne_of_none {H:Hp} {a b:Addr} {o:HO} (h:H a=some o) (h':H b=none):a≠b:=by
  intro e; subst e; rw [h] at h'; cases h'
section
variable (P:Program) (w:World)
def ObjOk (H:Hp) (h:Heap) (a:Addr):HO->Prop
  | .lst xs=>xs.length<=sizeLine/\∃ (its:List Value) (n:Nat),Vals xs its/\h.get? a=some { cls:=.type "list",data:=.seq its.toArray n }
  | .tup xs=>xs.length<=sizeLine/\∃ its:List Value,Vals xs its/\IsTup h a its.toArray
  | .dK kvs=>kvs.length<=sizeLine/\(a == sysModules)=false/\∃ vs,KV kvs vs/\h.DictOf (mixKind P w) a vs
  | .dT kvs=>kvs.length<=sizeLine/\(a == sysModules)=false/\∃ xs:List (List Key × Addr × Value),
      Paired (fun (p:List Key × V) (q:List Key × Addr × Value)=>p.1=q.1/\H q.2.1=some (.tup (p.1.map kV))/\RelV p.2 q.2.2) kvs xs /\
      ∃ o es ep,h.get? a=some o/\o.ExactDict/\o.data=.dict es ep/\es.toList=xs.map (entryOfKey (tupleKind (mixKind P w)))/\(xs.map (·.1)).Nodup
  | .set S n=>h.SetOf (intKind P w) a S n
  | .ins C dx fs=>H dx=some (.own a)/\fs.length<=1000/\dx≠a/\h.get? a=some (PySem.W.instObj C dx) /\
      ∃ mA,h.Ns1 dx mA/\(∀ f,RelO (fs.lookup f) (mA f))/\PySem.Within mA (fs.map (·.1))
  | .own _=>∃ o,h.get? a=some o
  | .xd fs=>∃ mA,h.Ns1 a mA/\∀ f,RelO (fs.lookup f) (mA f)
  | .rng lo hi=>∃ t u v,h.get? a=some { cls:=.type "range",data:=.fields #[.int lo t,.int hi u,.int 1 v] }
  | .frz o u=>h.get? a=some o/\ObjOk H h a u
  | .tbl ps=>h.get? a=some { cls:=.none,data:=.fields ps }
  | .met f x=>h.get? a=some (PySem.W.methodObj (.ref f) (.ref x))
  | .ext φ=>φ h/\(∃ o,h.get? a=some o)/\∀ h1 h2:Heap,φ h1->(∀ o,h1.get? a=some o->h2.get? a=some o)->φ h2
def HOk (H:Hp) (h:Heap):Prop:=∀ a o,H a=some o->ObjOk P w H h a o
end
section
variable {P:Program} {w:World} {H H':Hp} {h h':Heap} {a:Addr} {o:HO}
theorem ObjOk.lt (x:ObjOk P w H h a o):a < h.objs.size:=by
  cases o with
  | lst xs=>obtain ⟨_,_,_,_,e⟩:=x; exact Heap.lt_size e
  | tup xs=>obtain ⟨_,_,_,p⟩:=x; exact p.lt
  | dK kvs=>obtain ⟨_,_,_,_,o,_,_,e,_⟩:=x; exact Heap.lt_size e
  | dT kvs=>obtain ⟨_,_,_,_,o,_,_,e,_⟩:=x; exact Heap.lt_size e
  | set S n=>obtain ⟨o,_,_,_,e,_⟩:=x; exact Heap.lt_size e
  | ins C dx fs=>obtain ⟨_,_,_,e,_⟩:=x; exact Heap.lt_size e
  | own y=>obtain ⟨_,e⟩:=x; exact Heap.lt_size e
  | xd fs=>obtain ⟨_,⟨_,_,_,e,_⟩,_⟩:=x; exact Heap.lt_size e
  | rng lo hi=>obtain ⟨_,_,_,e⟩:=x; exact Heap.lt_size e
  | frz ob u=>obtain ⟨e,_⟩:=x; exact Heap.lt_size e
  | tbl ps=>exact Heap.lt_size (show h.get? a=some _ from x)
  | met f y=>exact Heap.lt_size (show h.get? a=some _ from x)
  | ext φ=>obtain ⟨_,⟨_,e⟩,_⟩:=x; exact Heap.lt_size e
theorem Paired.mapP {α β:Type} {F G:α->β->Prop} : ∀ {l₁:List α} {l₂:List β},Paired F l₁ l₂->(∀ a b,F a b->G a b)->Paired G l₁ l₂
  | _,_,.nil,_=>.nil
  | _,_,.cons r t,f=>.cons (f _ _ r) (Paired.mapP t f)
theorem ObjOk.stay (x:ObjOk P w H h a o) (k : ∀ b u,(b=a\/H b=some (.own a))->h.get? b=some u->h'.get? b=some u)
    (ho : ∀ b,H b=some (.own a)->H' b=some (.own a)) (ht : ∀ b xs,H b=some (.tup xs)->H' b=some (.tup xs)):ObjOk P w H' h' a o:=by
  induction o with
  | lst xs=>obtain ⟨z,its,n,r,e⟩:=x; exact ⟨z,its,n,r,k _ _ (.inl rfl) e⟩
  | tup xs=>obtain ⟨z,its,r,ob,e,c⟩:=x; exact ⟨z,its,r,ob,k _ _ (.inl rfl) e,c⟩
  | dK kvs=>obtain ⟨z,y,vs,r,ob,es,ep,e,c⟩:=x; exact ⟨z,y,vs,r,ob,es,ep,k _ _ (.inl rfl) e,c⟩
  | dT kvs =>
    obtain ⟨z,y,xs,r,ob,es,ep,e,c⟩:=x
    exact ⟨z,y,xs,Paired.mapP r fun p q z=>⟨z.1,ht _ _ z.2.1,z.2.2⟩,ob,es,ep,k _ _ (.inl rfl) e,c⟩
  | set S n=>obtain ⟨ob,es,ep,t,e,c⟩:=x; exact ⟨ob,es,ep,t,k _ _ (.inl rfl) e,c⟩
  | ins C dx fs =>
    obtain ⟨d,z,ne,e,mA,⟨od,es,ep,e2,c⟩,r⟩:=x
    exact ⟨ho _ d,z,ne,k _ _ (.inl rfl) e,mA,⟨od,es,ep,k _ _ (.inr d) e2,c⟩,r⟩
  | own y=>obtain ⟨ob,e⟩:=x; exact ⟨ob,k _ _ (.inl rfl) e⟩
  | xd fs=>obtain ⟨mA,⟨od,es,ep,e,c⟩,r⟩:=x; exact ⟨mA,⟨od,es,ep,k _ _ (.inl rfl) e,c⟩,r⟩
  | rng lo hi=>obtain ⟨t,u,v,e⟩:=x; exact ⟨t,u,v,k _ _ (.inl rfl) e⟩
  | frz ob u ih=>obtain ⟨e,q⟩:=x; exact ⟨k _ _ (.inl rfl) e,ih q⟩
  | tbl ps =>
    have e:h.get? a=some { cls:=.none,data:=.fields ps }:=x
    show h'.get? a=some { cls:=.none,data:=.fields ps }
    exact k a _ (.inl rfl) e
  | met f y =>
    have e:h.get? a=some (PySem.W.methodObj (.ref f) (.ref y)):=x
    show h'.get? a=some (PySem.W.methodObj (.ref f) (.ref y))
    exact k a _ (.inl rfl) e
  | ext φ=>obtain ⟨p,⟨o,e⟩,st⟩:=x; exact ⟨st _ _ p fun o q=>k _ _ (.inl rfl) q,⟨o,k _ _ (.inl rfl) e⟩,st⟩
theorem HOk.lt (x:HOk P w H h) (e:H a=some o):a < h.objs.size:=(x a o e).lt
theorem HOk.fresh (x:HOk P w H h) (e:h.objs.size<=a):H a=none:=by
  cases q:H a with
  | none=>rfl
  | some u=>exact absurd (Nat.lt_of_lt_of_le (x.lt q) e) (Nat.lt_irrefl _)
theorem HOk.kept (x:HOk P w H h) (k : ∀ b u,h.get? b=some u->h'.get? b=some u):HOk P w H h':=fun a o e =>
  (x a o e).stay (fun b u _ q=>k b u q) (fun _ q=>q) fun _ _ q=>q
theorem HOk.laid (x:HOk P w H h) (k : ∀ b u,h.get? b=some u->h'.get? b=some u) (hp:h.objs.size<=a) (new:ObjOk P w (upd H a o) h' a o):HOk P w (upd H a o) h':=fun b u e=>by
  have hn:=x.fresh hp
  by_cases hb:b=a
  · subst hb; rw [upd_same] at e; cases e; exact new
  · rw [upd_ne hb] at e
    exact (x b u e).stay (fun c v _ q=>k c v q) (fun c q=>by rw [upd_ne (ne_of_none q hn)]; exact q) fun c xs q=>by rw [upd_ne (ne_of_none q hn)]; exact q
end
def Rd (H:Hp) (a:Addr) (u:HO):Prop:=H a=some u\/∃ o,H a=some (.frz o u)
theorem Rd.ok {P:Program} {w:World} {H:Hp} {h:Heap} {a:Addr} {u:HO} (r:Rd H a u) (x:HOk P w H h):ObjOk P w H h a u:=by
  rcases r with r | ⟨o,r⟩
  · exact x a u r
  · obtain ⟨_,q⟩:=x a _ r
    exact q
def Mut:Option HO->Prop
  | some (.lst _)=>True
  | some (.dK _)=>True
  | some (.dT _)=>True
  | some (.set _ _)=>True
  | some (.ins _ _ _)=>True
  | some (.ext _)=>True
  | _=>False
section
variable {P:Program} {w:World} {H:Hp} {h h':Heap} {x e:Addr} {o':HO}
theorem HOk.write (ok:HOk P w H h) (mu:Mut (H x)) (he:e=x\/H e=some (.own x)) (k : ∀ b u,b≠e->h.get? b=some u->h'.get? b=some u) (heo : ∃ u,h'.get? e=some u)
    (new:ObjOk P w (upd H x o') h' x o'):HOk P w (upd H x o') h':=fun b u q=>by
  have nown : ∀ c y,H c=some (.own y)->c≠x:=fun c y r z=>by subst z; rw [r] at mu; exact mu
  have ntup : ∀ c xs,H c=some (.tup xs)->c≠x:=fun c xs r z=>by subst z; rw [r] at mu; exact mu
  by_cases hb:b=x
  · subst hb; rw [upd_same] at q; cases q; exact new
  · rw [upd_ne hb] at q
    by_cases hbe:b=e
    · have q':H b=some (.own x):=by
        rcases he with z | z
        · exact absurd (hbe.trans z) hb
        · rw [hbe]; exact z
      rw [q] at q'; cases q'
      obtain ⟨v,hv⟩:=heo
      exact ⟨v,by rw [hbe]; exact hv⟩
    · refine (ok b u q).stay (fun c v hc r=>k c v ?_ r) (fun c r=>by rw [upd_ne (nown c b r)]; exact r) fun c xs r=>by rw [upd_ne (ntup c xs r)]; exact r
      rcases hc with rfl | hc
      · exact hbe
      · rintro rfl
        rcases he with z | z
        · exact nown c b hc z
        · rw [hc] at z; cases z; exact hb rfl
end
structure Un (fs ex:List Addr) (H H':Hp) (h h':Heap):Prop where
  keep : ∀ b o,h.get? b=some o->H b=none->b∉fs->b∉ex->h'.get? b=some o
  slot : ∀ b o,h.get? b=some o->H b=none->b∈fs->b∉ex->∃ sl,h'.get? b=some { o with slots:=sl }
  free : ∀ b o,h.get? b=some o->H b=none->b∉ex->H' b=none
  there : ∀ b o,h.get? b=some o->b∉ex->∃ o',h'.get? b=some o'
  tups : ∀ b xs,H b=some (.tup xs)->H' b=some (.tup xs)
  frzs : ∀ b o u,H b=some (.frz o u)->H' b=some (.frz o u)
  tbls : ∀ b ps,H b=some (.tbl ps)->∃ more,H' b=some (.tbl (ps++more))
section
variable {fs fs' ex ex':List Addr} {H H1 H2:Hp} {h h1 h2 h':Heap} {a x e:Addr} {o:HO}
theorem Un.any (u:Un fs ex H H1 h h1) {b:Addr} {ob:Obj} (q:h.get? b=some ob) (n:H b=none) (hx:b∉ex) : ∃ sl,h1.get? b=some { ob with slots:=sl }:=by
  by_cases hb:b∈fs
  · exact u.slot b ob q n hb hx
  · exact ⟨ob.slots,u.keep b ob q n hb hx⟩
theorem Un.kept (k : ∀ b u,h.get? b=some u->h'.get? b=some u):Un fs ex H H h h' :=
  ⟨fun b ob q _ _ _=>k b ob q,fun b ob q _ _ _=>⟨ob.slots,k b ob q⟩,fun _ _ _ n _=>n,fun b ob q _=>⟨ob,k b ob q⟩,fun _ _ q=>q,fun _ _ _ q=>q,fun _ ps q=>⟨#[],by rw [q]; simp⟩⟩
theorem Un.refl:Un fs ex H H h h:=Un.kept fun _ _ q=>q
theorem Un.laid (k : ∀ b u,h.get? b=some u->h'.get? b=some u) (hp:h.objs.size<=a) (hn:H a=none):Un fs ex H (upd H a o) h h' where
  keep:=fun b u q _ _ _=>k b u q
  slot:=fun b u q _ _ _=>⟨u.slots,k b u q⟩
  free:=fun b u q n _=>by rw [upd_ne (Nat.ne_of_lt (Nat.lt_of_lt_of_le (Heap.lt_size q) hp))]; exact n
  there:=fun b u q _=>⟨u,k b u q⟩
  tups:=fun b xs q=>by rw [upd_ne (ne_of_none q hn)]; exact q
  frzs:=fun b u xs q=>by rw [upd_ne (ne_of_none q hn)]; exact q
  tbls:=fun b ps q=>⟨#[],by rw [upd_ne (ne_of_none q hn),q]; simp⟩
theorem Un.write (mu:Mut (H x)) (he:e=x\/H e=some (.own x)) (k : ∀ b u,b≠e->h.get? b=some u->h'.get? b=some u) (heo : ∃ u,h'.get? e=some u):Un fs ex H (upd H x o) h h':=by
  have hx : ∀ b,H b=none->b≠x:=fun b n z=>by subst z; rw [n] at mu; exact mu
  have hb : ∀ b,H b=none->b≠e:=fun b n z=>by
    subst z
    rcases he with r | r
    · exact hx b n r
    · rw [n] at r; cases r
  have hm : ∀ b u,H b=some u->¬ Mut (some u)->b≠x:=fun b u q nm z=>by subst z; rw [q] at mu; exact nm mu
  refine ⟨fun b u q n _ _=>k b u (hb b n) q,fun b u q n _ _=>⟨u.slots,k b u (hb b n) q⟩,fun b u q n _=>by rw [upd_ne (hx b n)]; exact n,fun b u q _=>?_,
    fun b xs q=>by rw [upd_ne (hm b _ q fun z=>z)]; exact q,fun b u xs q=>by rw [upd_ne (hm b _ q fun z=>z)]; exact q,fun b ps q=>⟨#[],by rw [upd_ne (hm b _ q fun z=>z),q]; simp⟩⟩
  by_cases hbe:b=e
  · subst hbe; exact heo
  · exact ⟨u,k b u hbe q⟩
end
def trk (h:Heap) (H:Hp):List Addr:=(List.range h.objs.size).filter fun a=>(H a).isSome
def hidT (h:Heap) (H:Hp):Heap:=PySem.W.hideAll h (trk h H)
theorem hidT_size (h:Heap) (H:Hp):(hidT h H).objs.size=h.objs.size:=PySem.W.hideAll_size _ _
theorem hidT_get {h:Heap} {H:Hp} {b:Addr} {o:Obj} (e:h.get? b=some o) (n:H b=none):(hidT h H).get? b=some o :=
  PySem.W.hideAll_get _ e fun hm=>by
    have q:(H b).isSome=true:=(List.mem_filter.mp hm).2
    rw [n] at q; simp at q
theorem of_hidT {h:Heap} {H:Hp} {b:Addr} {o:Obj} (e:(hidT h H).get? b=some o):h.get? b=some o/\H b=none:=by
  have e':h.get? b=some o:=PySem.W.of_hideAll (trk h H) e
  refine ⟨e',?_⟩
  cases q:H b with
  | none=>rfl
  | some x =>
    have hm:b∈trk h H:=List.mem_filter.mpr ⟨List.mem_range.mpr (Heap.lt_size e'),by simp [q]⟩
    have z:(hidT h H).get? b=none:=PySem.W.hideAll_none (trk h H) hm
    rw [z] at e; cases e
def allNews (g h:Heap) (L:Addr):List (Addr × Obj):=(List.range h.objs.size).filterMap fun a=>if a=L\/(g.get? a).isSome=true then none else (h.get? a).map fun o=>(a,o)
def rest (g h:Heap) (L d:Addr):List (Addr × Obj):=(allNews g h L).filter fun p=>decide (p.1≠d)
end L2
namespace L2
open PySem PySem.Spec PyProof.Rows
structure Mod (K:PySem.W.Frag) (mg:Str->Option Value) (base:Heap):Prop where
  kin:K.In base
  glob:base.Ns mainGlobals mg
  blt : ∃ mb,base.Ns builtinsNs mb/\∀ x:Str,x ≠ "__name__"->mb x=bootBuiltins x
  nolimit:base.NoLimit
structure Cx where
  prog:Program
  w:World
  K:PySem.W.Frag
  mg:Str->Option Value
  base:Heap
  A:Around
  N:List Str
  s₀:Shared
  H₀:Hp
  env:Env
  outer:List Env
  stack:List Env
  ex:List Addr
  fn:Str->Bool
  calm:Bool
  pn:List (Addr × Obj)
  xe:Value->Shared->Prop
def frs (l:List Env):List Addr:=l.filterMap (·.frame)
abbrev Cx.fs (X:Cx):List Addr:=frs X.outer
def Vis (sc:Scope) (x:Str):Prop:=sc.names.lookup x=some .local\/sc.names.lookup x=some .cell\/sc.names.lookup x=some .free
def Loc (sc:Scope) (x:Str):Prop:=sc.names.lookup x=some .local\/sc.names.lookup x=some .cell
def Look (env:Env) (h:Heap) (m:Str->Option Value) (x:Str) (u:Value):Prop :=
  (env.kindOf x=some .local/\m x=some u)\/((env.kindOf x=some .cell\/env.kindOf x=some .free)/\∃ c,env.cells.lookup x=some c/\h.IsCell c (some u))
structure Cx.Ok (X:Cx):Prop where
  mod:Mod X.K X.mg X.base
  kind:X.env.scope.kind=.function
  glob:X.env.globals=mainGlobals
  blt:X.env.builtins=builtinsNs
  above:X.s₀.heap.objs.size<=X.env.locals
  inj : ∀ x y c,X.env.cells.lookup x=some c->X.env.cells.lookup y=some c->x=y
  has : ∀ x,(X.env.kindOf x=some .cell\/X.env.kindOf x=some .free)->∃ c,X.env.cells.lookup x=some c
  cab : ∀ x c,X.fn x=true->X.env.cells.lookup x=some c->X.s₀.heap.objs.size<=c
  hd:X.calm=true->X.A.handled=none
  frames:X.A.frames=some X.stack
  stk:X.stack=X.outer\/(X.stack=X.env :: X.outer/\X.env.frame=some X.env.locals)
  exf : ∀ b∈X.ex,b≠X.env.locals/\∀ x c,X.env.cells.lookup x=some c->c≠b
  bs : ∀ b o,X.base.get? b=some o->X.s₀.heap.get? b=some o/\X.H₀ b=none
  bsz:X.base.objs.size<=X.s₀.heap.objs.size
  noex : ∀ b o,X.base.get? b=some o->b∉X.ex
  exfs : ∀ b∈X.ex,b∉X.fs
  funs:X.s₀.heap.FunFrames X.base X.outer
  frf : ∀ b∈X.fs,X.H₀ b=none
structure Inv (X:Cx) (pins:List (Addr × Obj)) (σ:List (Option V)) (H:Hp) (s:Shared):Prop where
  ok:X.Ok
  os:s.os=X.s₀.os
  bare:AllBare s.gens
  base:Un X.fs X.ex X.H₀ H X.s₀.heap s.heap
  loc : ∃ m,s.heap.Ns X.env.locals m/\∀ (i:Nat) (x:Str) (v:V),X.N[i]? = some x->σ[i]? = some (some v)->Vis X.env.scope x->∃ u,RelV v u/\Look X.env s.heap m x u
  cell : ∀ x c,X.env.cells.lookup x=some c->∃ v,s.heap.IsCell c v
  free:H X.env.locals=none
  freeC : ∀ x c,X.env.cells.lookup x=some c->H c=none
  pin : ∀ p∈X.pn++pins,s.heap.get? p.1=some p.2/\H p.1=none/\p.1≠X.env.locals/\p.1∉X.fs/\∀ v,p.2.data ≠ .cell v
  hok:HOk X.prog X.w H s.heap
  len:σ.length=X.N.length
section
variable {X:Cx} {pins:List (Addr × Obj)} {σ:List (Option V)} {H H':Hp} {s:Shared} {h':Heap}
theorem Cx.Ok.nofr (ok:X.Ok) {b:Addr} {o:Obj} (e:X.base.get? b=some o):b∉X.fs:=fun hb=>by
  have:=(ok.funs.mem hb).1
  rw [e] at this; cases this
theorem Inv.bs (I:Inv X pins σ H s) : ∀ b o,X.base.get? b=some o->s.heap.get? b=some o/\H b=none:=fun b o e =>
  ⟨I.base.keep b o (I.ok.bs b o e).1 (I.ok.bs b o e).2 (I.ok.nofr e) (I.ok.noex b o e),I.base.free b o (I.ok.bs b o e).1 (I.ok.bs b o e).2 (I.ok.noex b o e)⟩
theorem Inv.bk (I:Inv X pins σ H s) : ∀ b o,X.base.get? b=some o->s.heap.get? b=some o:=fun b o e=>(I.bs b o e).1
theorem Inv.mod (I:Inv X pins σ H s):Mod X.K X.mg X.base:=I.ok.mod
theorem Inv.kIn (I:Inv X pins σ H s):X.K.In s.heap:=I.ok.mod.kin.keeps I.bk
theorem Inv.lt (I:Inv X pins σ H s):X.env.locals < s.heap.objs.size:=let ⟨_,hn,_⟩:=I.loc; hn.lt
theorem Inv.sz (I:Inv X pins σ H s):X.s₀.heap.objs.size<=s.heap.objs.size:=Nat.le_trans I.ok.above (Nat.le_of_lt I.lt)
theorem Inv.nofs (I:Inv X pins σ H s) {a:Addr} (h:s.heap.objs.size<=a):a∉X.fs:=fun hb=>by
  obtain ⟨_,o,ho,_⟩:=I.ok.funs.mem hb
  exact absurd (Nat.lt_of_lt_of_le (Heap.lt_size ho) (Nat.le_trans I.sz h)) (Nat.lt_irrefl _)
theorem Inv.cne (I:Inv X pins σ H s) : ∀ x c,X.env.cells.lookup x=some c->c≠X.env.locals:=fun x c e z=>by
  obtain ⟨v,o,ho,hd⟩:=I.cell x c e
  obtain ⟨m,⟨o',es,ep,ho',hd',_⟩,_⟩:=I.loc
  rw [z,ho'] at ho; cases ho; rw [hd'] at hd; cases hd
theorem Inv.funs (I:Inv X pins σ H s):s.heap.FunFrames X.base X.outer:=by
  have all : ∀ (l:List Env),(∀ b∈frs l,b∈X.fs)->X.s₀.heap.FunFrames X.base l->s.heap.FunFrames X.base l:=by
    intro l
    induction l with
    | nil=>intro _ _; trivial
    | cons env r ih =>
      intro hs hl
      obtain ⟨hk,⟨L,o,hf,hn,ho,hd⟩,hr⟩:=hl
      have hL:L∈X.fs:=hs L (by unfold frs; rw [List.filterMap_cons,hf]; exact List.mem_cons_self)
      obtain ⟨sl,e⟩:=I.base.slot L o ho (I.ok.frf L hL) hL fun z=>I.ok.exfs L z hL
      exact ⟨hk,⟨L,_,hf,hn,e,hd⟩,ih (fun b hb=>hs b (by unfold frs; rw [List.filterMap_cons,hf]; exact List.mem_cons_of_mem _ hb)) hr⟩
  exact all X.outer (fun _ hb=>hb) I.ok.funs
theorem Inv.stack (I:Inv X pins σ H s):s.heap.FunFrames X.base X.stack:=by
  rcases I.ok.stk with e | ⟨e,hf⟩
  · rw [e]; exact I.funs
  · rw [e]
    obtain ⟨m,hn,_⟩:=I.loc
    refine .cons (by rw [I.ok.kind]; decide) hf hn ?_ I.funs
    exact Heap.get?_none_of_le (Nat.le_trans I.ok.bsz I.ok.above)
theorem Inv.stkSub (I:Inv X pins σ H s) : ∀ b∈frs X.stack,b∈X.env.locals :: X.fs:=fun b hb=>by
  rcases I.ok.stk with e | ⟨e,hf⟩
  · rw [e] at hb; exact List.mem_cons_of_mem _ hb
  · rw [e] at hb
    unfold frs at hb
    rw [List.filterMap_cons,hf] at hb
    exact hb
theorem Inv.stkFree (I:Inv X pins σ H s) : ∀ b∈frs X.stack,H b=none:=fun b hb=>by
  rcases List.mem_cons.mp (I.stkSub b hb) with e | hb
  · rw [e]; exact I.free
  · obtain ⟨_,o,ho,_⟩:=I.ok.funs.mem hb
    exact I.base.free b o ho (I.ok.frf b hb) fun z=>I.ok.exfs b z hb
theorem Inv.step {g':Array GenState} {t':Nat} {d':Drawn} {ch:List Addr} (I:Inv X pins σ H s)
    (hch : ∀ b∈ch,(b∈X.ex\/X.s₀.heap.objs.size<=b)/\b≠X.env.locals/\(∀ x c,X.env.cells.lookup x=some c->c≠b)/\∀ p∈X.pn++pins,p.1≠b)
    (keep : ∀ b o,b≠X.env.locals->b∉X.fs->b∉ch->s.heap.get? b=some o->H b=none->h'.get? b=some o)
    (slot : ∀ b o,b≠X.env.locals->b∈X.fs->b∉ch->s.heap.get? b=some o->H b=none->∃ sl,h'.get? b=some { o with slots:=sl }) (free : ∀ b o,b∉ch->s.heap.get? b=some o->H b=none->H' b=none)
    (there : ∀ b o,b∉ch->s.heap.get? b=some o->∃ o',h'.get? b=some o')
    (tups : ∀ b xs,H b=some (.tup xs)->H' b=some (.tup xs)) (frzs : ∀ b o u,H b=some (.frz o u)->H' b=some (.frz o u)) (tbls : ∀ b ps,H b=some (.tbl ps)->∃ more,H' b=some (.tbl (ps++more)))
    (ns : ∀ m,s.heap.Ns X.env.locals m->h'.Ns X.env.locals m) (hok:HOk X.prog X.w H' h') (hg:AllBare g') :
    Inv X pins σ H' { s with heap:=h',gens:=g',drawn:=d',toks:=t' }:=by
  have neL : ∀ b o,X.s₀.heap.get? b=some o->b≠X.env.locals:=fun b o e=>Nat.ne_of_lt (Nat.lt_of_lt_of_le (Heap.lt_size e) I.ok.above)
  have neC : ∀ b o,X.s₀.heap.get? b=some o->b∉X.ex->b∉ch:=fun b o e hx hb=>by
    rcases (hch b hb).1 with z | z
    · exact hx z
    · exact absurd (Nat.lt_of_lt_of_le (Heap.lt_size e) z) (Nat.lt_irrefl _)
  have cellK : ∀ x c,X.env.cells.lookup x=some c->∀ v,s.heap.IsCell c v->h'.IsCell c v:=fun x c e v ⟨o,ho,hd⟩=>by
    have nch:c∉ch:=fun z=>(hch c z).2.2.1 x c e rfl
    by_cases hc:c∈X.fs
    · obtain ⟨sl,q⟩:=slot c o (I.cne x c e) hc nch ho (I.freeC x c e)
      exact ⟨_,q,hd⟩
    · exact ⟨o,keep c o (I.cne x c e) hc nch ho (I.freeC x c e),hd⟩
  refine ⟨I.ok,I.os,hg,⟨fun b o e n hb hx=>?_,fun b o e n hb hx=>?_,fun b o e n hx=>?_,fun b o e hx=>?_,fun b xs e=>tups b xs (I.base.tups b xs e),fun b o xs e=>frzs b o xs (I.base.frzs b o xs e),fun b ps e=>?_⟩,?_,fun x c e=>?_,?_,fun x c e=>?_,fun p hp=>?_,hok,I.len⟩
  · exact keep b o (neL b o e) hb (neC b o e hx) (I.base.keep b o e n hb hx) (I.base.free b o e n hx)
  · obtain ⟨sl,e1⟩:=I.base.slot b o e n hb hx
    obtain ⟨sl',e2⟩:=slot b _ (neL b o e) hb (neC b o e hx) e1 (I.base.free b o e n hx)
    exact ⟨sl',e2⟩
  · obtain ⟨o',e1⟩:=I.base.there b o e hx
    exact free b o' (neC b o e hx) e1 (I.base.free b o e n hx)
  · obtain ⟨o',e1⟩:=I.base.there b o e hx
    exact there b o' (neC b o e hx) e1
  · obtain ⟨m1,e1⟩:=I.base.tbls b ps e
    obtain ⟨m2,e2⟩:=tbls b _ e1
    exact ⟨m1++m2,by rw [e2,Array.append_assoc]⟩
  · obtain ⟨m,hn,hl⟩:=I.loc
    refine ⟨m,ns m hn,fun i x v e1 e2 e3=>?_⟩
    obtain ⟨u,r,l⟩:=hl i x v e1 e2 e3
    refine ⟨u,r,?_⟩
    rcases l with l | ⟨k,c,e,z⟩
    · exact .inl l
    · exact .inr ⟨k,c,e,cellK x c e _ z⟩
  · obtain ⟨v,z⟩:=I.cell x c e
    exact ⟨v,cellK x c e v z⟩
  · obtain ⟨m,⟨o,_,_,ho,_⟩,_⟩:=I.loc
    exact free _ o (fun z=>(hch _ z).2.1 rfl) ho I.free
  · obtain ⟨v,o,ho,hd⟩:=I.cell x c e
    exact free c o (fun z=>(hch c z).2.2.1 x c e rfl) ho (I.freeC x c e)
  · obtain ⟨e,n,ne,nf,d⟩:=I.pin p hp
    have nch:p.1∉ch:=fun z=>(hch p.1 z).2.2.2 p hp rfl
    exact ⟨keep p.1 p.2 ne nf nch e n,free p.1 p.2 nch e n,ne,nf,d⟩
theorem Inv.un {t':Nat} (I:Inv X pins σ H s) (u:Un X.fs [] H H' s.heap h') (hok:HOk X.prog X.w H' h'):Inv X pins σ H' { s with heap:=h',toks:=t' }:=by
  obtain ⟨m,⟨o,es,ep,ho,r⟩,_⟩:=id I.loc
  obtain ⟨sl,hL⟩:=u.any ho I.free (by simp)
  exact I.step (g':=s.gens) (d':=s.drawn) (ch:=[]) (fun _ z=>nomatch z) (fun b o _ hb _ e n=>u.keep b o e n hb (by simp)) (fun b o _ hb _ e n=>u.slot b o e n hb (by simp)) (fun b o _ e n=>u.free b o e n (by simp)) (fun b o _ e=>u.there b o e (by simp)) u.tups u.frzs u.tbls (fun m' hm=>by
    obtain ⟨o',es',ep',ho',r'⟩:=hm
    rw [ho] at ho'; cases ho'
    exact ⟨_,es',ep',hL,r'⟩) hok I.bare
theorem Inv.call {g':Array GenState} {t':Nat} {d':Drawn} {ch:List Addr} (I:Inv X pins σ H s) (u:Un (frs X.stack) ch H H' s.heap h') (hok:HOk X.prog X.w H' h') (hg:AllBare g')
    (hch : ∀ b∈ch,(b∈X.ex\/X.s₀.heap.objs.size<=b)/\b≠X.env.locals/\(∀ x c,X.env.cells.lookup x=some c->c≠b)/\∀ p∈X.pn++pins,p.1≠b) :
    Inv X pins σ H' { s with heap:=h',gens:=g',drawn:=d',toks:=t' }:=by
  obtain ⟨m,⟨o,es,ep,ho,r⟩,_⟩:=id I.loc
  obtain ⟨sl,hL⟩:=u.any ho I.free fun z=>(hch _ z).2.1 rfl
  exact I.step (ch:=ch) hch (fun b o hL hb hc e n=>u.keep b o e n (fun z=>(List.mem_cons.mp (I.stkSub b z)).elim hL hb) hc) (fun b o _ _ hc e n=>u.any e n hc) (fun b o hc e n=>u.free b o e n hc) (fun b o hc e=>u.there b o e hc) u.tups u.frzs u.tbls (fun m' hm=>by
    obtain ⟨o',es',ep',ho',r'⟩:=hm
    rw [ho] at ho'; cases ho'
    exact ⟨_,es',ep',hL,r'⟩) hok hg
theorem Inv.turned {t':Nat} {it:Addr} (I:Inv X pins σ H s) (k : ∀ b o,b≠it->s.heap.get? b=some o->h'.get? b=some o) (hn:H it=none) (hL:it≠X.env.locals)
    (h1:it∈X.ex\/X.s₀.heap.objs.size<=it) (h2 : ∀ x c,X.env.cells.lookup x=some c->c≠it) (h3 : ∀ p∈X.pn++pins,p.1≠it):Inv X pins σ H { s with heap:=h',toks:=t' }:=by
  have nit : ∀ b u,H b=some u->b≠it:=fun b u e z=>by rw [z,hn] at e; cases e
  refine I.step (g':=s.gens) (d':=s.drawn) (ch:=[it]) (fun b hb=>?_) (fun b o _ _ hc e _=>k b o (fun z=>hc (by simp [z])) e) (fun b o _ _ hc e _=>⟨o.slots,k b o (fun z=>hc (by simp [z])) e⟩) (fun _ _ _ _ n=>n)
    (fun b o hc e=>⟨o,k b o (fun z=>hc (by simp [z])) e⟩) (fun _ _ e=>e) (fun _ _ _ e=>e) (fun b ps e=>⟨#[],by rw [e]; simp⟩) (fun m hm=>?_) (fun b u e=>?_) I.bare
  · have e:b=it:=by simpa using hb
    subst e
    exact ⟨h1,hL,h2,h3⟩
  · obtain ⟨o,es,ep,ho,r⟩:=hm
    exact ⟨o,es,ep,k _ o (Ne.symm hL) ho,r⟩
  · refine (I.hok b u e).stay (fun c v hc q=>k c v ?_ q) (fun _ q=>q) fun _ _ q=>q
    rcases hc with z | z
    · rw [z]; exact nit b u e
    · exact nit c _ z
theorem Inv.tok (I:Inv X pins σ H s) (t:Nat):Inv X pins σ H { s with toks:=t }:=I.un (h':=s.heap) (t':=t) Un.refl I.hok
theorem Inv.kept {t':Nat} (I:Inv X pins σ H s) (k : ∀ b u,s.heap.get? b=some u->h'.get? b=some u):Inv X pins σ H { s with heap:=h',toks:=t' }:=I.un (Un.kept k) (I.hok.kept k)
theorem Inv.laid {a:Addr} {o:HO} {t':Nat} (I:Inv X pins σ H s) (k : ∀ b u,s.heap.get? b=some u->h'.get? b=some u) (hp:s.heap.objs.size<=a) (new:ObjOk X.prog X.w (upd H a o) h' a o) :
    Inv X pins σ (upd H a o) { s with heap:=h',toks:=t' }:=I.un (Un.laid k hp (I.hok.fresh hp)) (I.hok.laid k hp new)
theorem Inv.write {x e:Addr} {o:HO} {t':Nat} (I:Inv X pins σ H s) (mu:Mut (H x)) (he:e=x\/H e=some (.own x)) (k : ∀ b u,b≠e->s.heap.get? b=some u->h'.get? b=some u) (heo : ∃ u,h'.get? e=some u)
    (new:ObjOk X.prog X.w (upd H x o) h' x o):Inv X pins σ (upd H x o) { s with heap:=h',toks:=t' }:=I.un (Un.write mu he k heo) (I.hok.write mu he k heo new)
theorem Inv.pins_of {pins':List (Addr × Obj)} (I:Inv X pins σ H s) (h : ∀ p∈pins',s.heap.get? p.1=some p.2/\H p.1=none/\p.1≠X.env.locals/\p.1∉X.fs/\∀ v,p.2.data ≠ .cell v):Inv X pins' σ H s :=
  ⟨I.ok,I.os,I.bare,I.base,I.loc,I.cell,I.free,I.freeC,fun p hp=>(List.mem_append.mp hp).elim (fun z=>I.pin p (List.mem_append_left _ z)) (h p),I.hok,I.len⟩
theorem nodup_ix {N:List Str} (hN:N.Nodup) {i j:Nat} {x:Str} (a:N[i]? = some x) (b:N[j]? = some x):i=j:=by
  obtain ⟨h1,e1⟩:=List.getElem?_eq_some_iff.mp a
  obtain ⟨h2,e2⟩:=List.getElem?_eq_some_iff.mp b
  exact (List.getElem_inj hN).mp (e1.trans e2.symm)
theorem store_ok2 {M:Model} {A:Around} {E:Value->Shared->Prop} {i:Nat} {x:Str} {v:V} {u:Value} {Q:Unit->Shared->Prop} (I:Inv X pins σ H s) (hN:X.N.Nodup) (hi:X.N[i]? = some x) (hx:Loc X.env.scope x) (r:RelV v u)
    (h : ∀ s',Inv X pins (σ.set i (some v)) H s'->(∃ a,Heap.SameBut a s.heap s'.heap/\(a=X.env.locals\/X.env.cells.lookup x=some a))->Q () s') (hf:X.fn x=true\/X.env.scope.names.lookup x=some .local:=by first | exact .inl rfl | exact .inr rfl | assumption):wpAny M A (storeName X.env x u) Q E s:=by
  obtain ⟨m,hn,hl⟩:=id I.loc
  have hcls:(X.env.scope.kind == .class || (X.env.scope.kind == .module && X.env.locals != X.env.globals))=false:=by rw [I.ok.kind]; rfl
  have hiσ:i < σ.length:=by rw [I.len]; exact (List.getElem?_eq_some_iff.mp hi).1
  have cne:=I.cne
  have tracked : ∀ {a:Addr} {h':Heap},(∃ o,s.heap.get? a=some o/\H a=none)->Heap.SameBut a s.heap h'->HOk X.prog X.w H h':=fun {a h'} ha hs b ob e=>by
    obtain ⟨_,_,hfree⟩:=ha
    refine (I.hok b ob e).stay (fun c w' hc q=>(hs.2 c ?_).trans q) (fun _ q=>q) fun _ _ q=>q
    rintro rfl
    rcases hc with rfl | hc
    · rw [hfree] at e; cases e
    · rw [hfree] at hc; cases hc
  rcases hx with hk | hk
  · refine wpAny_storeName_local hk hn (fun h' hn' hs=>?_) hcls
    obtain ⟨oL,_,_,hoL,_⟩:=id hn
    refine h _ ⟨I.ok,I.os,I.bare,⟨fun b o e n hb hx=>?_,fun b o e n hb hx=>?_,I.base.free,fun b o e hx=>?_,I.base.tups,I.base.frzs,I.base.tbls⟩,⟨_,hn',fun j y v' e1 e2 e3=>?_⟩,fun y c e=>?_,I.free,I.freeC,fun p hp=>?_,tracked ⟨oL,hoL,I.free⟩ hs,by simpa using I.len⟩ ⟨_,hs,.inl rfl⟩
    · exact (hs.2 b (Nat.ne_of_lt (Nat.lt_of_lt_of_le (Heap.lt_size e) I.ok.above))).trans (I.base.keep b o e n hb hx)
    · obtain ⟨sl,e1⟩:=I.base.slot b o e n hb hx
      exact ⟨sl,(hs.2 b (Nat.ne_of_lt (Nat.lt_of_lt_of_le (Heap.lt_size e) I.ok.above))).trans e1⟩
    · obtain ⟨o',e1⟩:=I.base.there b o e hx
      exact ⟨o',(hs.2 b (Nat.ne_of_lt (Nat.lt_of_lt_of_le (Heap.lt_size e) I.ok.above))).trans e1⟩
    · by_cases hj:j=i
      · subst hj
        rw [hi] at e1; cases e1
        rw [List.getElem?_set_self hiσ] at e2
        cases e2
        exact ⟨u,r,.inl ⟨hk,by simp⟩⟩
      · rw [List.getElem?_set_ne (Ne.symm hj)] at e2
        obtain ⟨u',r',q⟩:=hl j y v' e1 e2 e3
        refine ⟨u',r',?_⟩
        rcases q with ⟨k,e⟩ | ⟨k,c,e,z⟩
        · refine .inl ⟨k,?_⟩
          have:y≠x:=fun e=>hj (nodup_ix hN e1 (e ▸ hi))
          simp [this,e]
        · exact .inr ⟨k,c,e,z.sameBut hs (cne y c e)⟩
    · obtain ⟨w',z⟩:=I.cell y c e
      exact ⟨w',z.sameBut hs (cne y c e)⟩
    · obtain ⟨e,n,ne,nf,d⟩:=I.pin p hp
      exact ⟨(hs.2 p.1 ne).trans e,n,ne,nf,d⟩
  · have hfn:X.fn x=true:=by
      rcases hf with z | z
      · exact z
      · rw [z] at hk; cases hk
    obtain ⟨c,hc⟩:=I.ok.has x (.inl hk)
    obtain ⟨w',z⟩:=I.cell x c hc
    refine wpAny_storeName_cell I.ok.kind hk hc z (fun h' hc' hs=>?_)
    obtain ⟨oc,hoc,hocd⟩:=id z
    refine h { s with heap:=h' } ⟨I.ok,I.os,I.bare,⟨fun b o e n hb hx=>?_,fun b o e n hb hx=>?_,I.base.free,fun b o e hx=>?_,I.base.tups,I.base.frzs,I.base.tbls⟩,⟨m,hn.sameBut hs (Ne.symm (cne x c hc)),fun j y v' e1 e2 e3=>?_⟩,fun y c' e=>?_,I.free,I.freeC,fun p hp=>?_,tracked ⟨oc,hoc,I.freeC x c hc⟩ hs,by simpa using I.len⟩ ⟨c,hs,.inr hc⟩
    · exact (hs.2 b (Nat.ne_of_lt (Nat.lt_of_lt_of_le (Heap.lt_size e) (I.ok.cab x c hfn hc)))).trans (I.base.keep b o e n hb hx)
    · obtain ⟨sl,e1⟩:=I.base.slot b o e n hb hx
      exact ⟨sl,(hs.2 b (Nat.ne_of_lt (Nat.lt_of_lt_of_le (Heap.lt_size e) (I.ok.cab x c hfn hc)))).trans e1⟩
    · obtain ⟨o',e1⟩:=I.base.there b o e hx
      exact ⟨o',(hs.2 b (Nat.ne_of_lt (Nat.lt_of_lt_of_le (Heap.lt_size e) (I.ok.cab x c hfn hc)))).trans e1⟩
    · by_cases hj:j=i
      · subst hj
        rw [hi] at e1; cases e1
        rw [List.getElem?_set_self hiσ] at e2
        cases e2
        exact ⟨u,r,.inr ⟨.inl hk,c,hc,hc'⟩⟩
      · rw [List.getElem?_set_ne (Ne.symm hj)] at e2
        obtain ⟨u',r',q⟩:=hl j y v' e1 e2 e3
        refine ⟨u',r',?_⟩
        rcases q with q | ⟨k,c',e,z'⟩
        · exact .inl q
        · refine .inr ⟨k,c',e,z'.sameBut hs ?_⟩
          rintro rfl
          exact hj (nodup_ix hN e1 (I.ok.inj _ _ _ e hc ▸ hi))
    · by_cases hcc:c'=c
      · subst hcc; exact ⟨_,hc'⟩
      · obtain ⟨w2,z2⟩:=I.cell y c' e
        exact ⟨w2,z2.sameBut hs hcc⟩
    · obtain ⟨e,n,ne,nf,d⟩:=I.pin p hp
      refine ⟨(hs.2 p.1 ?_).trans e,n,ne,nf,d⟩
      intro q
      rw [q,hoc] at e
      have q':oc=p.2:=Option.some.inj e
      exact d w' (by rw [<- q']; exact hocd)
theorem store_ok {M:Model} {A:Around} {E:Value->Shared->Prop} {i:Nat} {x:Str} {v:V} {u:Value} {Q:Unit->Shared->Prop} (I:Inv X pins σ H s) (hN:X.N.Nodup) (hi:X.N[i]? = some x) (hx:Loc X.env.scope x) (r:RelV v u)
    (h : ∀ s',Inv X pins (σ.set i (some v)) H s'->Q () s') (hf:X.fn x=true\/X.env.scope.names.lookup x=some .local:=by first | exact .inl rfl | exact .inr rfl | assumption):wpAny M A (storeName X.env x u) Q E s :=
  store_ok2 I hN hi hx r (fun s' I' _=>h s' I') hf
theorem Inv.call' {s':Shared} {ch:List Addr} (I:Inv X pins σ H s) (ho:s'.os=s.os) (u:Un (frs X.stack) ch H H' s.heap s'.heap) (hok:HOk X.prog X.w H' s'.heap) (hg:AllBare s'.gens)
    (hch : ∀ b∈ch,(b∈X.ex\/X.s₀.heap.objs.size<=b)/\b≠X.env.locals/\(∀ x c,X.env.cells.lookup x=some c->c≠b)/\∀ p∈X.pn++pins,p.1≠b):Inv X pins σ H' s':=by
  obtain ⟨h',g',d',t',o'⟩:=s'
  have e:o'=s.os:=ho
  subst e
  exact I.call (g':=g') (t':=t') (d':=d') u hok hg hch
end
abbrev XK:=Value->Option Addr->Hp->Prop
abbrev St:=List (Option V)
abbrev VK:=V->Hp->Prop
abbrev TE:=St->Hp->VK->Prop
abbrev TT:=St->Hp->(Bool->Hp->Prop)->Prop
abbrev TA:=St->Hp->(List V->Hp->Prop)->Prop
structure Ends where
  nx:St->Hp->Prop
  rt:VK
  bk:St->Hp->Prop:=fun _ _=>False
  ct:St->Hp->Prop:=fun _ _=>False
abbrev TS:=Ends->St->Hp->Prop
def EP (X:Cx) (pins:List (Addr × Obj)) (σ:St) (Q:VK) (u:Value) (s':Shared):Prop:=∃ v H',Inv X pins σ H' s'/\RelV v u/\Q v H'
def TP (X:Cx) (pins:List (Addr × Obj)) (σ:St) (Q:Bool->Hp->Prop) (b:Bool) (s':Shared):Prop:=∃ H',Inv X pins σ H' s'/\Q b H'
def AP (X:Cx) (pins:List (Addr × Obj)) (σ:St) (Q:List V->Hp->Prop) (us:List Value) (s':Shared):Prop:=∃ vs H',Inv X pins σ H' s'/\Vals vs us/\Q vs H'
def SP (X:Cx) (pins:List (Addr × Obj)) (D:Ends) (f:Flow) (s':Shared):Prop :=
  match f with
  | .next=>∃ σ' H',Inv X pins σ' H' s'/\D.nx σ' H'
  | .brk=>∃ σ' H',Inv X pins σ' H' s'/\D.bk σ' H'
  | .cont=>∃ σ' H',Inv X pins σ' H' s'/\D.ct σ' H'
  | .ret u=>∃ v σ' H',Inv X pins σ' H' s'/\RelV v u/\D.rt v H'
def PE (X:Cx) (e:Expr) (t:TE):Prop :=
  ∀ (pins:List (Addr × Obj)) (s:Shared) (σ:St) (H:Hp) (Q:VK),Inv X pins σ H s->t σ H Q->wpAny (model X.prog X.w) X.A (eval e X.env) (EP X pins σ Q) X.xe s
def PT (X:Cx) (e:Expr) (t:TT):Prop :=
  ∀ (pins:List (Addr × Obj)) (s:Shared) (σ:St) (H:Hp) (Q:Bool->Hp->Prop),Inv X pins σ H s->t σ H Q->wpAny (model X.prog X.w) X.A (isTrue e X.env (eval e X.env)) (TP X pins σ Q) X.xe s
def PW (X:Cx) (e:Expr) (t:TT):Prop :=
  ∀ (whole:Sem Value) (pins:List (Addr × Obj)) (s:Shared) (σ:St) (H:Hp) (Q:Bool->Hp->Prop),Inv X pins σ H s->t σ H Q->wpAny (model X.prog X.w) X.A (isTrue e X.env whole) (TP X pins σ Q) X.xe s
theorem PW.pt {X:Cx} {e:Expr} {t:TT} (h:PW X e t):PT X e t:=h _
def PA (X:Cx) (es:List Expr) (t:TA):Prop :=
  ∀ (pos:Pos) (pins:List (Addr × Obj)) (s:Shared) (σ:St) (H:Hp) (Q:List V->Hp->Prop),Inv X pins σ H s->t σ H Q->wpAny (model X.prog X.w) X.A (spliced (backTo pos (starEach es X.env))) (AP X pins σ Q) X.xe s
def PS (X:Cx) (st:Stmt) (t:TS):Prop :=
  ∀ (pins:List (Addr × Obj)) (s:Shared) (σ:St) (H:Hp) (D:Ends),Inv X pins σ H s->t D σ H->wpAny (model X.prog X.w) X.A (exec st X.env) (SP X pins D) X.xe s
def PSs (X:Cx) (st:List Stmt) (t:TS):Prop :=
  ∀ (pins:List (Addr × Obj)) (s:Shared) (σ:St) (H:Hp) (D:Ends),Inv X pins σ H s->t D σ H->wpAny (model X.prog X.w) X.A (execs st X.env) (SP X pins D) X.xe s
theorem thn {α:Type} {t:Sem α} {Q Q':α->Shared->Prop} {M:Model} {A:Around} {E:Value->Shared->Prop} {s:Shared} (h:wpAny M A t Q E s) (hQ : ∀ a s,Q a s->Q' a s):wpAny M A t Q' E s:=wpAny_mono h hQ fun _ _ x=>x
end L2
namespace L2
open PySem PySem.Spec PyProof.Rows
section
variable {X:Cx}
def tVar (i:Nat):TE:=fun σ H Q=>∃ v,σ[i]? = some (some v)/\Q v H
def tC (v:V):TE:=fun _ H Q=>Q v H
theorem pe_var {i:Nat} {x:Str} {pos:Pos} (hN:X.N[i]? = some x) (hv:Vis X.env.scope x) (hd:(x == ("__debug__" : Str))=false:=by decide) (hcd:(x == ("__classdict__" : Str))=false:=by decide):PE X (.Name x pos) (tVar i):=by
  intro pins s σ H Q I h
  obtain ⟨v,e,h⟩:=h
  obtain ⟨m,hn,hl⟩:=I.loc
  obtain ⟨u,r,l⟩:=hl i x v hN e hv
  have fin:EP X pins σ Q u s:=⟨v,H,I,r,h⟩
  rcases l with ⟨hk,hm⟩ | ⟨hk,c,hc,hcell⟩
  · exact wpAny_Name (wpAny_loadName_local I.ok.kind hk hn hm fin) hd
  · rcases hk with hk | hk
    · exact wpAny_Name (wpAny_loadName_cell I.ok.kind hk hc hcell fin) hd
    · exact wpAny_Name (wpAny_loadName_free I.ok.kind hk hc hcell fin hcd) hd
theorem pe_int {i j pos}:PE X (.Constant (.int i) j pos) (tC (.int i)):=fun _ _ _ H _ I h=>wpAny_Constant_int ⟨.int i,H,I.tok _,⟨_,rfl⟩,h⟩
theorem pe_bl {b j pos}:PE X (.Constant (.bool b) j pos) (tC (.bl b)):=fun _ _ _ H _ I h=>Constant_bool ⟨.bl b,H,I,rfl,h⟩
theorem pe_non {j pos}:PE X (.Constant .none j pos) (tC .non):=fun _ _ _ H _ I h=>Constant_none ⟨.non,H,I,rfl,h⟩
theorem pe_str {x j pos}:PE X (.Constant (.str x) j pos) (tC (.str x)):=fun _ _ _ H _ I h=>Calls.Constant_str ⟨.str x,H,I.tok _,⟨_,rfl⟩,h⟩
def Gl (X:Cx) (x:Str):Prop:=X.env.kindOf x=some .globalImplicit
theorem ld_glob {E:Value->Shared->Prop} {pins:List (Addr × Obj)} {s:Shared} {σ:St} {H:Hp} {x:Str} {u:Value} {pos:Pos} {Q:Value->Shared->Prop} (I:Inv X pins σ H s) (hg:Gl X x) (hm:X.mg x=some u) (h:Q u s)
    (hd:(x == ("__debug__" : Str))=false:=by decide):wpAny (model X.prog X.w) X.A (eval (.Name x pos) X.env) Q E s :=
  Calls.Name_function_global I.ok.kind hg (Calls.loadGlobal_global (by rw [I.ok.glob]; exact I.mod.glob.keeps I.bk) hm h) hd
theorem ld_blt {E:Value->Shared->Prop} {pins:List (Addr × Obj)} {s:Shared} {σ:St} {H:Hp} {x:Str} {u:Value} {pos:Pos} {Q:Value->Shared->Prop} (I:Inv X pins σ H s) (hg:Gl X x) (hm:X.mg x=none) (hv:bootBuiltins x=some u) (h:Q u s)
    (hn:x ≠ "__name__":=by decide) (hd:(x == ("__debug__" : Str))=false:=by decide):wpAny (model X.prog X.w) X.A (eval (.Name x pos) X.env) Q E s:=by
  obtain ⟨mb,h1,h2⟩:=I.mod.blt
  exact Calls.Name_function_global I.ok.kind hg (Calls.loadGlobal_builtin (by rw [I.ok.glob]; exact I.mod.glob.keeps I.bk) hm (by rw [I.ok.blt]; exact h1.keeps I.bk) ((h2 x hn).trans hv) h) hd
theorem pe_glob {x:Str} {v:V} {u:Value} {pos:Pos} (hg:Gl X x) (hm:X.mg x=some u) (r:RelV v u) (hd:(x == ("__debug__" : Str))=false:=by decide):PE X (.Name x pos) (tC v) :=
  fun _ _ _ H _ I h=>ld_glob I hg hm ⟨v,H,I,r,h⟩ hd
theorem pe_bltn {x:Str} {v:V} {u:Value} {pos:Pos} (hg:Gl X x) (hm:X.mg x=none) (hv:bootBuiltins x=some u) (r:RelV v u) (hn:x ≠ "__name__":=by decide) (hd:(x == ("__debug__" : Str))=false:=by decide):PE X (.Name x pos) (tC v) :=
  fun _ _ _ H _ I h=>ld_blt I hg hm hv ⟨v,H,I,r,h⟩ hn hd
variable {a b:Expr} {ta tb:TE} {pos:Pos}
variable {tA tB':TT} {rest:List Expr}
def tAnd (t u:TT):TT:=fun σ H Q=>t σ H fun c H1=>if c=true then u σ H1 Q else Q false H1
def tOr (t u:TT):TT:=fun σ H Q=>t σ H fun c H1=>if c=true then Q true H1 else u σ H1 Q
def tNot (t:TT):TT:=fun σ H Q=>t σ H fun c H1=>Q (!c) H1
theorem pw_and1 (ha:PT X a tA):PW X (.BoolOp .And [a] pos) tA:=by
  intro wh pins s σ H Q I h
  refine isTrue_and (thn (ha pins s σ H Q I h) fun c s1 e=>?_)
  cases c with
  | true=>exact isTrue_and_nil e
  | false=>exact e
theorem pw_or1 (ha:PT X a tA):PW X (.BoolOp .Or [a] pos) tA:=by
  intro wh pins s σ H Q I h
  refine isTrue_or (thn (ha pins s σ H Q I h) fun c s1 e=>?_)
  cases c with
  | false=>exact isTrue_or_nil e
  | true=>exact e
theorem pw_and (ha:PT X a tA) (hb:PW X (.BoolOp .And (b :: rest) pos) tB'):PW X (.BoolOp .And (a :: b :: rest) pos) (tAnd tA tB'):=by
  intro wh pins s σ H Q I h
  refine isTrue_and (thn (ha pins s σ H _ I h) fun c s1 ⟨H1,I1,q1⟩=>?_)
  cases c with
  | true=>exact hb wh pins s1 σ H1 Q I1 q1
  | false=>exact ⟨H1,I1,q1⟩
theorem pw_or (ha:PT X a tA) (hb:PW X (.BoolOp .Or (b :: rest) pos) tB'):PW X (.BoolOp .Or (a :: b :: rest) pos) (tOr tA tB'):=by
  intro wh pins s σ H Q I h
  refine isTrue_or (thn (ha pins s σ H _ I h) fun c s1 ⟨H1,I1,q1⟩=>?_)
  cases c with
  | true=>exact ⟨H1,I1,q1⟩
  | false=>exact hb wh pins s1 σ H1 Q I1 q1
theorem pt_not (ha:PT X a tA):PT X (.UnaryOp .Not a pos) (tNot tA):=by
  intro pins s σ H Q I h
  exact isTrue_not (ha pins s σ H (fun c H1=>Q (!c) H1) I h)
theorem pe_one {op} {t:TE} (h:PE X a t):PE X (.BoolOp op [a] pos) t:=fun pins s σ H Q I hw=>BoolOp_one (h pins s σ H Q I hw)
def tIf (t:TT) (ta tb:TE):TE:=fun σ H Q=>t σ H fun c H1=>if c=true then ta σ H1 Q else tb σ H1 Q
theorem pe_ifExp {c:Expr} (hc:PT X c tA) (ha:PE X a ta) (hb:PE X b tb):PE X (.IfExp c a b pos) (tIf tA ta tb):=by
  intro pins s σ H Q I h
  refine wpAny_IfExp (thn (hc pins s σ H _ I h) fun d s1 ⟨H1,I1,q1⟩=>?_)
  cases d with
  | true=>exact ha pins s1 σ H1 Q I1 q1
  | false=>exact hb pins s1 σ H1 Q I1 q1
end
end L2
namespace L2
open PySem PySem.Spec PyProof.Rows
def SqL (K:PySem.W.Frag) (H:Hp) (a:Addr) (xs:List V):Prop :=
  Rd H a (.lst xs) \/
    ∃ (o:Obj) (its:Array Value) (n:Nat),K.lookup a=some o/\o.cls=.type "list"/\o.dict=none/\o.data=.seq its n/\its.size<=sizeLine/\Vals xs its.toList
def SqT (K:PySem.W.Frag) (H:Hp) (a:Addr) (xs:List V):Prop :=
  Rd H a (.tup xs) \/
    ∃ (o:Obj) (its:Array Value) (n:Nat),K.lookup a=some o/\o.cls=.type "tuple"/\o.data=.seq its n/\its.size<=sizeLine/\Vals xs its.toList
def absV:Value->Option V
  | .none=>some .non
  | .bool b=>some (.bl b)
  | .int i _=>some (.int i)
  | .str x _=>some (.str x)
  | .bytes b _=>some (.byt b)
  | .float b _=>some (.flt b)
  | .ref a=>some (.ref a)
  | .type n=>some (.ty n)
  | _=>none
theorem RelV.abs {x:V} {u:Value} (r:RelV x u):absV u=some x:=by
  cases x with
  | non=>cases r; rfl
  | bl _=>cases r; rfl
  | int _=>obtain ⟨t,rfl⟩:=r; rfl
  | str _=>obtain ⟨t,rfl⟩:=r; rfl
  | byt _=>obtain ⟨t,rfl⟩:=r; rfl
  | flt _=>obtain ⟨t,rfl⟩:=r; rfl
  | ref _=>cases r; rfl
  | ty _=>cases r; rfl
theorem RelV.inj {x y:V} {u:Value} (r:RelV x u) (q:RelV y u):x=y:=Option.some.inj (r.abs.symm.trans q.abs)
theorem Vals.inj : ∀ {xs ys:List V} {us:List Value},Vals xs us->Vals ys us->xs=ys
  | _,_,_,.nil,.nil=>rfl
  | _,_,_,.cons r t,.cons r' t'=>by rw [r.inj r',Vals.inj t t']
section
variable {X:Cx} {pins:List (Addr × Obj)} {σ:St} {H:Hp} {s:Shared} {a:Addr} {xs ys:List V}
theorem SqL.of {K:PySem.W.Frag} (h:H a=some (.lst xs)):SqL K H a xs:=.inl (.inl h)
theorem SqT.of {K:PySem.W.Frag} (h:H a=some (.tup xs)):SqT K H a xs:=.inl (.inl h)
theorem Inv.list (I:Inv X pins σ H s) (h:SqL X.K H a xs) : ∃ its:List Value,Vals xs its/\PlainL s.heap a its.toArray/\xs.length<=sizeLine:=by
  rcases h with h | ⟨o,its,n,hk,hc,hd,hs,hz,r⟩
  · obtain ⟨z,its,n,r,e⟩:=h.ok I.hok
    exact ⟨its,r,⟨_,n,e,rfl,rfl,rfl⟩,z⟩
  · refine ⟨its.toList,r,⟨o,n,I.kIn a o hk,hc,hd,by simpa using hs⟩,?_⟩
    have e:=r.length
    simp only [Array.length_toList] at e
    omega
theorem Inv.tuple (I:Inv X pins σ H s) (h:SqT X.K H a xs) : ∃ its:List Value,Vals xs its/\IsTup s.heap a its.toArray/\xs.length<=sizeLine:=by
  rcases h with h | ⟨o,its,n,hk,hc,hs,hz,r⟩
  · obtain ⟨z,its,r,p⟩:=h.ok I.hok
    exact ⟨its,r,p,z⟩
  · refine ⟨its.toList,r,⟨o,I.kIn a o hk,hc,n,by simpa using hs⟩,?_⟩
    have e:=r.length
    simp only [Array.length_toList] at e
    omega
theorem Inv.list_inj (I:Inv X pins σ H s) (h:SqL X.K H a xs) (h':SqL X.K H a ys):xs=ys:=by
  obtain ⟨its,r,⟨o,n,e,_,_,d⟩,_⟩:=I.list h
  obtain ⟨its',r',⟨o',n',e',_,_,d'⟩,_⟩:=I.list h'
  rw [e] at e'; cases e'
  rw [d] at d'
  injection d' with d1 _
  have:its=its':=by simpa using congrArg Array.toList d1
  subst this
  exact r.inj r'
theorem Inv.tuple_inj (I:Inv X pins σ H s) (h:SqT X.K H a xs) (h':SqT X.K H a ys):xs=ys:=by
  obtain ⟨its,r,⟨o,e,_,n,d⟩,_⟩:=I.tuple h
  obtain ⟨its',r',⟨o',e',_,n',d'⟩,_⟩:=I.tuple h'
  rw [e] at e'; cases e'
  rw [d] at d'
  injection d' with d1 _
  have:its=its':=by simpa using congrArg Array.toList d1
  subst this
  exact r.inj r'
end
abbrev Cx.wish (X:Cx) (E:Value->Shared->Prop):Cx:={ X with xe:=E }
abbrev Cx.nox (X:Cx):Cx:=X.wish fun _ _=>False
theorem Cx.Ok.wish {X:Cx} (ok:X.Ok) (E:Value->Shared->Prop):(X.wish E).Ok :=
  ⟨ok.mod,ok.kind,ok.glob,ok.blt,ok.above,ok.inj,ok.has,ok.cab,ok.hd,ok.frames,ok.stk,ok.exf,ok.bs,ok.bsz,ok.noex,ok.exfs,ok.funs,ok.frf⟩
theorem Cx.Ok.unwish {X:Cx} {E:Value->Shared->Prop} (ok:(X.wish E).Ok):X.Ok :=
  ⟨ok.mod,ok.kind,ok.glob,ok.blt,ok.above,ok.inj,ok.has,ok.cab,ok.hd,ok.frames,ok.stk,ok.exf,ok.bs,ok.bsz,ok.noex,ok.exfs,ok.funs,ok.frf⟩
section
variable {X:Cx} {pins:List (Addr × Obj)} {σ:St} {H:Hp} {s:Shared} {E:Value->Shared->Prop}
theorem Inv.wish (I:Inv X pins σ H s) (E:Value->Shared->Prop):Inv (X.wish E) pins σ H s:=⟨I.ok.wish E,I.os,I.bare,I.base,I.loc,I.cell,I.free,I.freeC,I.pin,I.hok,I.len⟩
theorem Inv.unwish (I:Inv (X.wish E) pins σ H s):Inv X pins σ H s:=⟨I.ok.unwish,I.os,I.bare,I.base,I.loc,I.cell,I.free,I.freeC,I.pin,I.hok,I.len⟩
theorem SP.unwish {D:Ends} {f:Flow} {s':Shared} (h:SP (X.wish E) pins D f s'):SP X pins D f s':=by
  cases f with
  | next=>obtain ⟨σ',H',I,q⟩:=h; exact ⟨σ',H',I.unwish,q⟩
  | brk=>obtain ⟨σ',H',I,q⟩:=h; exact ⟨σ',H',I.unwish,q⟩
  | cont=>obtain ⟨σ',H',I,q⟩:=h; exact ⟨σ',H',I.unwish,q⟩
  | ret u=>obtain ⟨v,σ',H',I,r,q⟩:=h; exact ⟨v,σ',H',I.unwish,r,q⟩
theorem PSs.nox {st:List Stmt} {t:TS} (h:PSs X.nox st t):PSs X st t:=fun pins s σ H D I hw =>
  wpAny_mono (h pins s σ H D (I.wish _) hw) (fun _ _ q=>q.unwish) fun _ _ z=>False.elim z
end
section
variable {X:Cx} {st:Stmt} {rest:List Stmt} {t u:TS} {e:Expr} {te:TE} {pos:Pos}
def tNext:TS:=fun D σ H=>D.nx σ H
def tSeq (t u:TS):TS:=fun D σ H=>t { D with nx:=u D } σ H
theorem pss_nil:PSs X [] tNext:=fun _ _ σ H _ I h=>wpAny_execs_nil ⟨σ,H,I,h⟩
theorem pss_cons (h1:PS X st t) (h2:PSs X rest u):PSs X (st :: rest) (tSeq t u):=by
  intro pins s σ H D I h
  refine wpAny_execs_cons (thn (h1 pins s σ H { D with nx:=u D } I h) fun f s1 q=>?_)
  cases f with
  | next =>
    obtain ⟨σ',H',I',q⟩:=q
    exact h2 pins s1 σ' H' D I' q
  | ret v=>exact q
  | brk=>exact q
  | cont=>exact q
theorem pss_one (h1:PS X st t):PSs X [st] t:=by
  intro pins s σ H D I h
  refine wpAny_execs_cons (thn (h1 pins s σ H D I h) fun f s1 q=>?_)
  cases f with
  | next=>exact wpAny_execs_nil q
  | ret v=>exact q
  | brk=>exact q
  | cont=>exact q
def tBreak:TS:=fun D σ H=>D.bk σ H
theorem ps_break:PS X (.Break pos) tBreak:=fun _ _ σ H _ I h=>wpAny_Break ⟨σ,H,I,h⟩
theorem Inv.quiet {pins:List (Addr × Obj)} {σ:St} {H:Hp} {s:Shared} (I:Inv X pins σ H s):interactive X.env=false:=by simp [interactive,I.ok.kind]
def tDrop (te:TE):TS:=fun D σ H=>te σ H fun _ H1=>D.nx σ H1
theorem ps_expr (he:PE X e te) (hs:swapsWith e none pos.line X.env=pure false:=by rfl):PS X (.Expr e pos) (tDrop te):=by
  intro pins s σ H D I h
  exact wpAny_Expr_any (thn (he pins s σ H _ I h) fun v s1 ⟨x,H1,I1,r1,q1⟩=>⟨σ,H1,I1,q1⟩) I.quiet hs
def tRet (te:TE):TS:=fun D σ H=>te σ H D.rt
theorem ps_ret (he:PE X e te):PS X (.Return (some e) pos) (tRet te):=by
  intro pins s σ H D I h
  exact wpAny_Return_some (thn (he pins s σ H _ I h) fun v s1 ⟨x,H1,I1,r1,q1⟩=>⟨x,σ,H1,I1,r1,q1⟩)
def tIfS (c:TT) (t u:TS):TS:=fun D σ H=>c σ H fun b H1=>if b=true then t D σ H1 else u D σ H1
theorem ps_if {c:Expr} {a b:List Stmt} {tc:TT} (hc:PT X c tc) (ha:PSs X a t) (hb:PSs X b u):PS X (.If c a b pos) (tIfS tc t u):=by
  intro pins s σ H D I h
  refine wpAny_If (thn (hc pins s σ H _ I h) fun d s1 ⟨H1,I1,q1⟩=>?_)
  cases d with
  | true=>exact ha pins s1 σ H1 D I1 q1
  | false=>exact hb pins s1 σ H1 D I1 q1
def tNever:TS:=fun _ _ _=>False
theorem ps_never:PS X st tNever:=fun _ _ _ _ _ _ h=>h.elim
end
abbrev TG:=V->St->Hp->(St->Hp->Prop)->Prop
abbrev TGs:=List V->St->Hp->(St->Hp->Prop)->Prop
def PG (X:Cx) (target:Expr) (t:TG):Prop :=
  ∀ (pins:List (Addr × Obj)) (s:Shared) (σ:St) (H:Hp) (v:V) (u:Value) (Q:St->Hp->Prop),Inv X pins σ H s->RelV v u->t v σ H Q ->
    wpAny (model X.prog X.w) X.A (assign target X.env u) (fun _ s'=>∃ σ' H',Inv X pins σ' H' s'/\Q σ' H') X.xe s
def PGs (X:Cx) (ts:List Expr) (t:TGs):Prop :=
  ∀ (pins:List (Addr × Obj)) (s:Shared) (σ:St) (H:Hp) (vs:List V) (us:List Value) (Q:St->Hp->Prop),Inv X pins σ H s->Vals vs us->t vs σ H Q ->
    wpAny (model X.prog X.w) X.A (assignInOrder ((assignEach ts X.env).map (·.2)) us) (fun _ s'=>∃ σ' H',Inv X pins σ' H' s'/\Q σ' H') X.xe s
abbrev TSet:=V->V->V->Hp->(Hp->Prop)->Prop
def PSet (X:Cx) (t:TSet):Prop :=
  ∀ (pins:List (Addr × Obj)) (s:Shared) (σ:St) (H:Hp) (o i v:V) (ov iv u:Value) (Q:Hp->Prop),Inv X pins σ H s->RelV o ov->RelV i iv->RelV v u->t o i v H Q ->
    wpAny (model X.prog X.w) X.A (setItem ov iv u) (fun _ s'=>∃ H',Inv X pins σ H' s'/\Q H') X.xe s
section
variable {X:Cx} {pos:Pos}
def gName (i:Nat):TG:=fun v σ H Q=>Q (σ.set i (some v)) H
theorem pg_name {i:Nat} {x:Str} (hN:X.N.Nodup) (hi:X.N[i]? = some x) (hx:Loc X.env.scope x) (hf:X.fn x=true\/X.env.scope.names.lookup x=some .local:=by first | exact .inl rfl | exact .inr rfl | assumption):PG X (.Name x pos) (gName i):=by
  intro pins s σ H v u Q I r h
  exact wpAny_assign_Name (store_ok I hN hi hx r (fun s' I'=>⟨_,H,I',h⟩) hf)
def gNil:TGs:=fun vs σ H Q=>vs=[]/\Q σ H
def gCons (t:TG) (u:TGs):TGs:=fun vs σ H Q=>∃ v r,vs=v :: r/\t v σ H fun σ' H'=>u r σ' H' Q
theorem pgs_nil:PGs X [] gNil:=by
  intro pins s σ H vs us Q I r h
  obtain ⟨e,h⟩:=h
  subst e
  cases r
  exact assignInOrder_nil ⟨σ,H,I,h⟩
theorem pgs_cons {e:Expr} {es:List Expr} {t:TG} {u:TGs} (h1:PG X e t) (h2:PGs X es u)
    (hs:(assignEach (e :: es) X.env).map (·.2)=assign e X.env :: (assignEach es X.env).map (·.2):=by rfl):PGs X (e :: es) (gCons t u):=by
  intro pins s σ H vs us Q I r h
  obtain ⟨v,vr,e1,h⟩:=h
  subst e1
  cases r with
  | cons r rr =>
    rw [hs]
    refine assignInOrder_cons (thn (h1 pins s σ H _ _ _ I r h) fun _ s1 ⟨σ1,H1,I1,q1⟩=>?_)
    exact h2 pins s1 σ1 H1 _ _ Q I1 rr q1
def gTup (K:PySem.W.Frag) (n:Nat) (t:TGs):TG:=fun v σ H Q=>∃ a xs,v=.ref a/\SqT K H a xs/\xs.length=n/\t xs σ H Q
theorem pg_tup {es:List Expr} {k:Nat} {t:TGs} {n:Nat} (hc:X.calm=true) (h:PGs X es t)
    (hn:(assignEach es X.env).length=n:=by rfl) (hst:(assignEach es X.env).findIdx? (·.1)=none:=by rfl):PG X (.Tuple es k pos) (gTup X.K n t):=by
  intro pins s σ H v u Q I r hw
  obtain ⟨a,xs,e1,hq,hl,hw⟩:=hw
  subst e1
  cases r
  obtain ⟨its,rv,ht,hz⟩:=I.tuple hq
  refine assign_Tuple_tuple (I.ok.hd hc) ht (by simp [hn,<- hl,rv.length]) hst fun h' hx=>?_
  have I1:Inv X pins σ H { s with heap:=h' }:=I.kept (t':=s.toks) fun b o e=>hx b o (Nat.ne_of_lt (Heap.lt_size e)) e
  exact h pins _ σ H xs _ Q I1 (by simpa using rv) hw
def gSub (to ti:TE) (t:TSet):TG:=fun v σ H Q=>to σ H fun o H1=>ti σ H1 fun i H2=>t o i v H2 fun H3=>Q σ H3
theorem pg_sub {o i:Expr} {to ti:TE} {t:TSet} (ho:PE X o to) (hi:PE X i ti) (hs:PSet X t)
    (ha : ∀ v,assign (.Subscript o i pos) X.env v=(do
      let ov <- holding [v] (eval o X.env)
      let iv <- holding [v,ov] (eval i X.env)
      standAt pos
      holding [v,ov,iv] (setItem ov iv v)
      release [v,ov,iv] []):=by intro _; rfl):PG X (.Subscript o i pos) (gSub to ti t):=by
  intro pins s σ H v u Q I r h
  rw [ha]
  refine wpAny_bind (wpAny_holding (thn (ho pins s σ H _ I h) fun ov s1 ⟨x,H1,I1,r1,q1⟩=>?_))
  refine wpAny_bind (wpAny_holding (thn (hi pins s1 σ H1 _ I1 q1) fun iv s2 ⟨y,H2,I2,r2,q2⟩=>?_))
  refine wpAny_bind (wpAny_standAt (wpAny_bind (wpAny_holding (thn (hs pins s2 σ H2 x y v ov iv u _ I2 r1 r2 r q2) fun _ s3 ⟨H3,I3,q3⟩=>?_))))
  exact wpAny_release ⟨σ,H3,I3,q3⟩
def tAsg (te:TE) (g:TG):TS:=fun D σ H=>te σ H fun x H1=>g x σ H1 D.nx
theorem ps_asg {tg e:Expr} {te:TE} {g:TG} (he:PE X e te) (hg:PG X tg g) (hs:swapsWithSole [tg] e pos.line X.env=pure false:=by rfl) (hw:swappedStores [tg] e X.env=pure none:=by rfl)
    (h1:(assignEach [tg] X.env).map (·.2)=[assign tg X.env]:=by rfl):PS X (.Assign [tg] e pos) (tAsg te g):=by
  intro pins s σ H D I h
  refine wpAny_Assign_stores (thn (he pins s σ H _ I h) fun v s1 ⟨x,H1,I1,r1,q1⟩=>?_) hs hw
  rw [h1]
  exact thn (hg pins s1 σ H1 x v _ I1 r1 q1) fun _ s2 q=>q
theorem ps_set {i:Nat} {x:Str} {e:Expr} {te:TE} {pos':Pos} (hN:X.N.Nodup) (hi:X.N[i]? = some x) (hx:Loc X.env.scope x) (he:PE X e te) (hs:swapsWith e (some (.Name x pos')) pos.line X.env=pure false:=by rfl) (hf:X.fn x=true\/X.env.scope.names.lookup x=some .local:=by first | exact .inl rfl | exact .inr rfl | assumption) :
    PS X (.Assign [.Name x pos'] e pos) (tAsg te (gName i)):=by
  intro pins s σ H D I h
  refine wpAny_Assign_Name (thn (he pins s σ H _ I h) fun v s1 ⟨y,H1,I1,r1,q1⟩=>?_) hs
  exact store_ok I1 hN hi hx r1 (fun s2 I2=>⟨_,H1,I2,q1⟩) hf
end
section
variable {X:Cx} {pos:Pos}
def tWhile (c:TT) (tb:TS):TS:=fun D σ H=>∃ W:Nat->St->Hp->Prop,(∃ m,W m σ H)/\∀ m σ H,W m σ H ->
  c σ H fun b H1=>if b=true then ∃ N:St->Hp->Prop,(∀ σ' H',N σ' H'->∃ m',m' < m/\W m' σ' H')/\tb { D with nx:=N,ct:=N,bk:=D.nx } σ H1 else D.nx σ H1
theorem ps_while {c:Expr} {body:List Stmt} {tc:TT} {tb:TS} (hp:PassesOwn (model X.prog X.w) X.A X.env X.xe) (hc:PT X c tc) (hb:PSs X body tb):PS X (.While c body [] pos) (tWhile tc tb):=by
  intro pins s σ H D I h
  obtain ⟨W,⟨m0,w0⟩,turn⟩:=h
  refine wpAny_While (codeAny_whileLoop (fun n s'=>∃ σ' H',Inv X pins σ' H' s'/\W n σ' H') ?_ m0 ⟨σ,H,I,w0⟩)
  rintro n s1 ⟨σ1,H1,I1,w1⟩
  refine wpAny_passesOwn hp (thn (hc pins s1 σ1 H1 _ I1 (turn n σ1 H1 w1)) fun b s2 ⟨H2,I2,q2⟩=>?_)
  cases b with
  | true =>
    obtain ⟨N,hN,q2⟩:=q2
    rw [if_pos rfl]
    refine wpAny_passesOwn hp (thn (hb pins s2 σ1 H2 _ I2 q2) fun f s3 q3=>?_)
    cases f with
    | next =>
      obtain ⟨σ3,H3,I3,n3⟩:=q3
      obtain ⟨m',hm,w3⟩:=hN σ3 H3 n3
      exact ⟨m',hm,σ3,H3,I3,w3⟩
    | cont =>
      obtain ⟨σ3,H3,I3,n3⟩:=q3
      obtain ⟨m',hm,w3⟩:=hN σ3 H3 n3
      exact ⟨m',hm,σ3,H3,I3,w3⟩
    | brk=>exact q3
    | ret v=>exact q3
  | false =>
    rw [if_neg Bool.false_ne_true]
    exact wpAny_execs_nil ⟨σ1,H2,I2,q2⟩
end
structure It where
  go:Nat->Hp->Prop
  yld:Nat->Hp->V->Hp->Prop
  stop:Nat->Hp->Prop
def FpOk (X:Cx) (pins:List (Addr × Obj)) (H:Hp) (b:Addr):Prop :=
  H b=none/\b≠X.env.locals/\b∉X.fs/\(b∈X.ex\/X.s₀.heap.objs.size<=b)/\(∀ x c,X.env.cells.lookup x=some c->c≠b)/\∀ p∈X.pn++pins,p.1≠b
theorem Inv.fpOk {X:Cx} {pins:List (Addr × Obj)} {σ:St} {H H':Hp} {s:Shared} {b:Addr} (I:Inv X pins σ H s) (hb:s.heap.objs.size<=b) (hn:H' b=none):FpOk X pins H' b:=by
  refine ⟨hn,Nat.ne_of_gt (Nat.lt_of_lt_of_le I.lt hb),I.nofs hb,.inr (Nat.le_trans I.sz hb),fun x c e z=>?_,fun p hp z=>?_⟩
  · obtain ⟨v,q⟩:=I.cell x c e
    exact absurd (Nat.lt_of_lt_of_le q.lt (by rw [z]; exact hb)) (Nat.lt_irrefl _)
  · exact absurd (Nat.lt_of_lt_of_le (Heap.lt_size (I.pin p hp).1) (by rw [z]; exact hb)) (Nat.lt_irrefl _)
structure Turn (P:Program) (w:World) (K:PySem.W.Frag) (tg:Expr) (J:It) (fp:List Addr) (it:Addr) (tn:Nat->Heap->Prop):Prop where
  mem:it∈fp
  obj : ∀ i h,tn i h->∀ b∈fp,∃ o,h.get? b=some o/\∀ v,o.data ≠ .cell v
  keep : ∀ i h h',tn i h->(∀ b∈fp,∀ o,h.get? b=some o->h'.get? b=some o)->tn i h'
  item : ∀ (X:Cx),X.prog=P->X.w=w->X.K=K->X.calm=true->∀ (i:Nat) (pins:List (Addr × Obj)) (s:Shared) (σ:St) (H:Hp) (E:Value->Shared->Prop),Inv X pins σ H s->(∀ b∈fp,FpOk X pins H b)->tn i s.heap->J.go i H ->
    wpAny (model P w) X.A (pyNext (.ref it)) (fun r s1=>∃ u,r=some u /\
      wpAny (model P w) X.A (letOwnedTupleGo tg (.ref it) u) (fun _ s2=>∃ x H',Inv X pins σ H' s2/\RelV x u/\J.yld i H x H'/\tn (i+1) s2.heap/\∀ b∈fp,H' b=none) E s1) E s
  done : ∀ (X:Cx),X.prog=P->X.w=w->X.K=K->X.calm=true->∀ (i:Nat) (pins:List (Addr × Obj)) (s:Shared) (σ:St) (H:Hp) (E:Value->Shared->Prop),Inv X pins σ H s->(∀ b∈fp,FpOk X pins H b)->tn i s.heap->J.stop i H ->
    wpAny (model P w) X.A (pyNext (.ref it)) (fun r s1=>r=none/\Inv X pins σ H s1) E s
  self : ∀ (A:Around) (i:Nat) (s:Shared) (Q:Value->Shared->Prop) (E:Value->Shared->Prop),tn i s.heap->Q (.ref it) s->wpAny (model P w) A (pyIter (.ref it)) Q E s
abbrev TI:=St->Hp->(It->Hp->Prop)->Prop
def PIE (X:Cx) (pins:List (Addr × Obj)) (σ:St) (tg:Expr) (R:It->Hp->Prop) (itv:Value) (s2:Shared):Prop :=
  ∃ (it:Addr) (fp:List Addr) (tn:Nat->Heap->Prop) (J:It) (H':Hp),itv=.ref it/\Inv X pins σ H' s2/\Turn X.prog X.w X.K tg J fp it tn/\tn 0 s2.heap/\(∀ b∈fp,FpOk X pins H' b)/\R J H'
def PI (X:Cx) (tg iter:Expr) (wi:TI):Prop :=
  ∀ (pins:List (Addr × Obj)) (s:Shared) (σ:St) (H:Hp) (R:It->Hp->Prop),Inv X pins σ H s->wi σ H R ->
    wpAny (model X.prog X.w) X.A (eval iter X.env) (fun v s1=>wpAny (model X.prog X.w) X.A (pyIter v) (PIE X pins σ tg R) X.xe s1) X.xe s
theorem go_of {M:Model} {A:Around} {E:Value->Shared->Prop} {s:Shared} {tg:Expr} {it:Addr} {u:Value} {o:Obj} {n:String} {vs:Array Value} {Q:Unit->Shared->Prop} (ho:s.heap.get? it=some o) (hc:o.cls=.type n) (hd:o.data=.fields vs)
    (hn:["enumerate", "zip", "dict_itemiterator", "dict_reverseitemiterator", "odict_iterator", "itertools.zip_longest", "itertools.pairwise"].contains n=false) (hQ:Q () s):wpAny M A (letOwnedTupleGo tg (.ref it) u) Q E s:=by
  unfold letOwnedTupleGo
  cases tg <;> first
    | exact wpAny_pure hQ
    | (cases u <;> first
        | exact wpAny_pure hQ
        | (refine wpAny_bind (wpAny_load ho ?_)
           rw [hc,hd]
           show wpAny M A (if (["enumerate", "zip", "dict_itemiterator", "dict_reverseitemiterator", "odict_iterator", "itertools.zip_longest", "itertools.pairwise"].contains n && vs[0]? == some (rawInt _))=true then _ else _) Q E s
           rw [if_neg (by intro h; rw [hn,Bool.false_and] at h; cases h)]
           exact wpAny_pure hQ))
def Itl (K:PySem.W.Frag) (a:Addr):It :=
  ⟨fun i H=>∃ xs x,SqL K H a xs/\xs[i]? = some x,fun i H x H'=>H'=H/\∀ xs,SqL K H a xs->xs[i]? = some x,fun i H=>∃ xs,SqL K H a xs/\xs.length<=i⟩
def Itt (K:PySem.W.Frag) (a:Addr):It :=
  ⟨fun i H=>∃ xs x,SqT K H a xs/\xs[i]? = some x,fun i H x H'=>H'=H/\∀ xs,SqT K H a xs->xs[i]? = some x,fun i H=>∃ xs,SqT K H a xs/\xs.length<=i⟩
def Itr (lo:Int) (n:Nat):It:=⟨fun i _=>i < n,fun i H x H'=>H'=H/\x=.int (lo+i),fun i _=>n<=i⟩
theorem turn_list {P:Program} {w:World} {K:PySem.W.Frag} {tg:Expr} (a it:Addr):Turn P w K tg (Itl K a) [it] it (fun i h=>h.IsListIter it a i) where
  mem:=by simp
  obj:=fun i h st b hb=>by
    have e:b=it:=by simpa using hb
    subst e
    obtain ⟨o,e,c,d⟩:=st
    exact ⟨o,e,fun v z=>by rw [d] at z; cases z⟩
  keep:=fun i h h' st k=>st.at fun o e=>k it (by simp) o e
  item:=by
    intro X hP hw hK hc i pins s σ H E I hf st hg
    subst hP hw hK
    obtain ⟨xs,x,hq,hx⟩:=hg
    obtain ⟨its,rv,p,hz⟩:=I.list hq
    obtain ⟨u,hu,ru⟩:=rv.get hx
    obtain ⟨f0,f1,f2,f3,f4,f5⟩:=hf it (by simp)
    refine wpAny_pyNext_list_item st p.isList (x:=u) (by simpa using hu) fun h' st' sb=>?_
    have I1:Inv X pins σ H { s with heap:=h' }:=I.turned (t':=s.toks) (fun b o hb e=>(sb.2 b hb).trans e) f0 f1 f3 f4 f5
    obtain ⟨o,e,c,d⟩:=id st'
    exact ⟨u,rfl,go_of (s:={ s with heap:=h' }) e c d (by decide) ⟨x,H,I1,ru,⟨rfl,fun ys hy=>by rw [I.list_inj hy hq]; exact hx⟩,st',fun b hb=>(hf b hb).1⟩⟩
  done:=by
    intro X hP hw hK hc i pins s σ H E I hf st hg
    subst hP hw hK
    obtain ⟨xs,hq,hx⟩:=hg
    obtain ⟨its,rv,p,hz⟩:=I.list hq
    obtain ⟨f0,f1,f2,f3,f4,f5⟩:=hf it (by simp)
    have hl:=rv.length
    exact wpAny_pyNext_list_end (I.ok.hd hc) st p.isList (by simp; omega) fun h' eb=>⟨rfl,I.turned (t':=s.toks) (fun b o hb e=>eb b o hb e) f0 f1 f3 f4 f5⟩
  self:=fun _ _ _ _ _ st h=>wpAny_pyIter_listiter st h
theorem turn_tuple {P:Program} {w:World} {K:PySem.W.Frag} {tg:Expr} (a it:Addr):Turn P w K tg (Itt K a) [it] it (fun i h=>h.IsTupleIter it a i) where
  mem:=by simp
  obj:=fun i h st b hb=>by
    have e:b=it:=by simpa using hb
    subst e
    obtain ⟨o,e,c,d⟩:=st
    exact ⟨o,e,fun v z=>by rw [d] at z; cases z⟩
  keep:=fun i h h' st k=>st.at fun o e=>k it (by simp) o e
  item:=by
    intro X hP hw hK hc i pins s σ H E I hf st hg
    subst hP hw hK
    obtain ⟨xs,x,hq,hx⟩:=hg
    obtain ⟨its,rv,p,hz⟩:=I.tuple hq
    obtain ⟨u,hu,ru⟩:=rv.get hx
    obtain ⟨f0,f1,f2,f3,f4,f5⟩:=hf it (by simp)
    refine wpAny_pyNext_tuple_item st (show s.heap.IsTuple a its.toArray from p) (x:=u) (by simpa using hu) fun h' st' sb=>?_
    have I1:Inv X pins σ H { s with heap:=h' }:=I.turned (t':=s.toks) (fun b o hb e=>(sb.2 b hb).trans e) f0 f1 f3 f4 f5
    obtain ⟨o,e,c,d⟩:=id st'
    exact ⟨u,rfl,go_of (s:={ s with heap:=h' }) e c d (by decide) ⟨x,H,I1,ru,⟨rfl,fun ys hy=>by rw [I.tuple_inj hy hq]; exact hx⟩,st',fun b hb=>(hf b hb).1⟩⟩
  done:=by
    intro X hP hw hK hc i pins s σ H E I hf st hg
    subst hP hw hK
    obtain ⟨xs,hq,hx⟩:=hg
    obtain ⟨its,rv,p,hz⟩:=I.tuple hq
    obtain ⟨f0,f1,f2,f3,f4,f5⟩:=hf it (by simp)
    have hl:=rv.length
    exact wpAny_pyNext_tuple_end (I.ok.hd hc) st (show s.heap.IsTuple a its.toArray from p) (by simp; omega) fun h' eb=>⟨rfl,I.turned (t':=s.toks) (fun b o hb e=>eb b o hb e) f0 f1 f3 f4 f5⟩
  self:=fun _ _ _ _ _ st h=>wpAny_pyIter_tupleiter st h
theorem turn_range {P:Program} {w:World} {K:PySem.W.Frag} {tg:Expr} (it:Addr) (lo:Int) (n:Nat):Turn P w K tg (Itr lo n) [it] it (fun i h=>IsRangeIter h it (lo+(i:Nat)*1) ((n:Int) - (i:Nat)) 1) where
  mem:=by simp
  obj:=fun i h st b hb=>by
    have e:b=it:=by simpa using hb
    subst e
    exact ⟨_,st,fun v z=>by
      have z':Data.fields _=Data.cell v:=z
      cases z'⟩
  keep:=fun i h h' st k=>k it (by simp) _ st
  item:=by
    intro X hP hw hK hc i pins s σ H E I hf st hg
    subst hP hw hK
    obtain ⟨f0,f1,f2,f3,f4,f5⟩:=hf it (by simp)
    have W:=Walks.range (prog:=X.prog) (w:=X.w) (I.ok.hd hc) it lo 1 n
    refine W.item i s _ _ hg st fun v h' tk hv st' kk=>?_
    obtain ⟨t,rfl⟩:=hv
    have I1:Inv X pins σ H { s with heap:=h',toks:=tk }:=I.turned (fun b o hb e=>kk b o (by simpa using hb) e) f0 f1 f3 f4 f5
    refine ⟨_,rfl,go_of (s:={ s with heap:=h',toks:=tk }) (n := "range_iterator") st' rfl rfl (by decide) ⟨.int (lo+i),H,I1,⟨t,?_⟩,⟨rfl,rfl⟩,st',fun b hb=>(hf b hb).1⟩⟩
    rw [Int.mul_one]
  done:=by
    intro X hP hw hK hc i pins s σ H E I hf st hg
    subst hP hw hK
    obtain ⟨f0,f1,f2,f3,f4,f5⟩:=hf it (by simp)
    exact wpAny_pyNext_range_end (I.ok.hd hc) st (by have:n<=i:=hg; omega) fun h' eb=>⟨rfl,I.turned (t':=s.toks) (fun b o hb e=>eb b o hb e) f0 f1 f3 f4 f5⟩
  self:=fun _ _ _ _ _ st h=>wpAny_pyIter_rangeiter st h
end L2
namespace L2
open PySem PySem.Spec PyProof.Rows
section
variable {X:Cx} {tg:Expr}
def iList (K:PySem.W.Frag) (tl:TE):TI:=fun σ H R=>tl σ H fun x H1=>∃ a,x=.ref a/\(∃ xs,SqL K H1 a xs)/\R (Itl K a) H1
def iTup (K:PySem.W.Frag) (tl:TE):TI:=fun σ H R=>tl σ H fun x H1=>∃ a,x=.ref a/\(∃ xs,SqT K H1 a xs)/\R (Itt K a) H1
theorem pi_list {l:Expr} {tl:TE} (hl:PE X l tl):PI X tg l (iList X.K tl):=by
  intro pins s σ H R I h
  refine thn (hl pins s σ H _ I h) fun v s1 ⟨x,H1,I1,r1,q1⟩=>?_
  obtain ⟨a,e,⟨xs,hq⟩,q⟩:=q1
  subst e
  cases r1
  obtain ⟨its,rv,p,hz⟩:=I1.list hq
  refine wpAny_pyIter_list p.isList ?_
  refine ⟨s1.heap.objs.size,[s1.heap.objs.size],_,_,H1,rfl,I1.kept (t':=s1.toks) fun b o e=>Heap.get?_push_of_some _ e,turn_list a _,⟨_,Heap.get?_push_size _ rfl,rfl,rfl⟩,fun b hb=>?_,q⟩
  have e:b=s1.heap.objs.size:=by simpa using hb
  subst e
  exact I1.fpOk (Nat.le_refl _) (I1.hok.fresh (Nat.le_refl _))
theorem pi_tup {l:Expr} {tl:TE} (hl:PE X l tl):PI X tg l (iTup X.K tl):=by
  intro pins s σ H R I h
  refine thn (hl pins s σ H _ I h) fun v s1 ⟨x,H1,I1,r1,q1⟩=>?_
  obtain ⟨a,e,⟨xs,hq⟩,q⟩:=q1
  subst e
  cases r1
  obtain ⟨its,rv,p,hz⟩:=I1.tuple hq
  refine wpAny_pyIter_tuple (show s1.heap.IsTuple a its.toArray from p) ?_
  refine ⟨s1.heap.objs.size,[s1.heap.objs.size],_,_,H1,rfl,I1.kept (t':=s1.toks) fun b o e=>Heap.get?_push_of_some _ e,turn_tuple a _,⟨_,Heap.get?_push_size _ rfl,rfl,rfl⟩,fun b hb=>?_,q⟩
  have e:b=s1.heap.objs.size:=by simpa using hb
  subst e
  exact I1.fpOk (Nat.le_refl _) (I1.hok.fresh (Nat.le_refl _))
theorem range_it {pins:List (Addr × Obj)} {σ:St} {H:Hp} {s:Shared} {R:It->Hp->Prop} {E:Value->Shared->Prop} {lo hi:Int} {t u v:Tok} {tk:Nat} (I:Inv X pins σ H s) (h1 : -(2 ^ 62)<=lo) (h2:lo < 2 ^ 62) (h3 : -(2 ^ 62)<=hi) (h4:hi < 2 ^ 62)
    (q:R (Itr lo (hi - lo).toNat) H):wpAny (model X.prog X.w) X.A (pyIter (.ref s.heap.objs.size)) (PIE X pins σ tg R) E { s with heap:=s.heap.push { cls:=.type "range",data:=.fields #[.int lo t,.int hi u,.int 1 v] },toks:=tk }:=by
  refine wpAny_pyIter_range (IsRange.new ..) (small_one h1 h2 h3 h4) ?_
  have I1:Inv X pins σ H { s with heap:=s.heap.push { cls:=.type "range",data:=.fields #[.int lo t,.int hi u,.int 1 v] },toks:=tk }:=I.kept fun b o e=>Heap.get?_push_of_some _ e
  refine ⟨(s.heap.push { cls:=.type "range",data:=.fields #[.int lo t,.int hi u,.int 1 v] }).objs.size,[(s.heap.push { cls:=.type "range",data:=.fields #[.int lo t,.int hi u,.int 1 v] }).objs.size],_,_,H,rfl,
    I1.kept (t':=tk) fun b o e=>Heap.get?_push_of_some _ e,turn_range _ lo (hi - lo).toNat,?_,fun b hb=>?_,q⟩
  · have e1:lo+((0:Nat):Int)*1=lo:=by simp
    have e2:(((hi - lo).toNat:Nat):Int) - ((0:Nat):Int)=Builtin.Range.rangeSize lo hi 1:=by rw [rangeSize_one]; split <;> omega
    show IsRangeIter _ _ (lo+((0:Nat):Int)*1) ((((hi - lo).toNat:Nat):Int) - ((0:Nat):Int)) 1
    rw [e1,e2]
    exact Heap.get?_push_size _ rfl
  · have e:b=(s.heap.push { cls:=.type "range",data:=.fields #[.int lo t,.int hi u,.int 1 v] }).objs.size:=by simpa using hb
    subst e
    exact I1.fpOk (Nat.le_refl _) (I1.hok.fresh (Nat.le_refl _))
def iRng1 (ta:TA):TI:=fun σ H R=>ta σ H fun vs H1=>∃ j:Int,vs=[.int j]/\-(2 ^ 62)<=j/\j < 2 ^ 62/\R (Itr 0 j.toNat) H1
def iRng2 (ta:TA):TI:=fun σ H R=>ta σ H fun vs H1=>∃ i j:Int,vs=[.int i,.int j]/\(-(2 ^ 62)<=i/\i < 2 ^ 62/\-(2 ^ 62)<=j/\j < 2 ^ 62)/\R (Itr i (j - i).toNat) H1
theorem pi_range1 {a:Expr} {ta:TA} {p pos:Pos} (hg:Gl X "range") (hm:X.mg "range" = none) (ha:PA X [a] ta) (hs:starEach [a] X.env=[(false,eval a X.env)]:=by rfl):PI X tg (.Call (.Name "range" p) [a] [] pos) (iRng1 ta):=by
  intro pins s σ H R I h
  refine Call_ (ld_blt I hg hm boot_range (PyProof.Rows.callWith_type1 (thn (ha pos pins s σ H _ I h) fun us s1 ⟨vs,H1,I1,r1,q1⟩=>?_) hs rfl))
  obtain ⟨j,e,q1,q2,q⟩:=q1
  subst e
  cases r1 with
  | cons r rr =>
    cases rr
    obtain ⟨t,rfl⟩:=r
    exact call_range_1 (range_it I1 (by omega) (by omega) q1 q2 (by simpa using q))
theorem pi_range2 {a b:Expr} {ta:TA} {p pos:Pos} (hg:Gl X "range") (hm:X.mg "range" = none) (ha:PA X [a,b] ta) (hs:starEach [a,b] X.env=[(false,eval a X.env),(false,eval b X.env)]:=by rfl) (hs2:starEach [b] X.env=[(false,eval b X.env)]:=by rfl) :
    PI X tg (.Call (.Name "range" p) [a,b] [] pos) (iRng2 ta):=by
  intro pins s σ H R I h
  refine Call_ (ld_blt I hg hm boot_range (PyProof.Rows.callWith_type1 (thn (ha pos pins s σ H _ I h) fun us s1 ⟨vs,H1,I1,r1,q1⟩=>?_) (by rw [hs,hs2]) (by rw [hs2]; rfl)))
  obtain ⟨i,j,e,⟨q1,q2,q3,q4⟩,q⟩:=q1
  subst e
  cases r1 with
  | cons r rr =>
    cases rr with
    | cons r' rr =>
      cases rr
      obtain ⟨t,rfl⟩:=r
      obtain ⟨t',rfl⟩:=r'
      exact call_range_2 (range_it I1 q1 q2 q3 q4 q)
def tFor (wi:TI) (g:TG) (tb:TS):TS:=fun D σ H=>wi σ H fun J H1=>∃ W:Nat->Nat->St->Hp->Prop,(∃ m,W 0 m σ H1)/\∀ i m σ H,W i m σ H ->
  (J.stop i H/\D.nx σ H)\/(J.go i H/\∃ N:St->Hp->Prop,(∀ σ' H',N σ' H'->∃ m',m' < m/\W (i+1) m' σ' H')/\∀ x H',J.yld i H x H'->g x σ H' fun σ2 H2=>tb { D with nx:=N,ct:=N,bk:=D.nx } σ2 H2)
def pinsAt (fp:List Addr) (h:Heap):List (Addr × Obj):=fp.filterMap fun b=>(h.get? b).map fun o=>(b,o)
theorem mem_pinsAt {fp:List Addr} {h:Heap} {b:Addr} {o:Obj} (hb:b∈fp) (e:h.get? b=some o):(b,o)∈pinsAt fp h:=List.mem_filterMap.mpr ⟨b,hb,by rw [e]; rfl⟩
theorem of_pinsAt {fp:List Addr} {h:Heap} {p:Addr × Obj} (hp:p∈pinsAt fp h):p.1∈fp/\h.get? p.1=some p.2:=by
  obtain ⟨b,hb,e⟩:=List.mem_filterMap.mp hp
  cases q:h.get? b with
  | none=>rw [q] at e; cases e
  | some o =>
    rw [q] at e
    have e':(b,o)=p:=Option.some.inj e
    subst e'
    exact ⟨hb,q⟩
theorem Inv.pinned {pins:List (Addr × Obj)} {σ:St} {H:Hp} {s:Shared} {fp:List Addr} (I:Inv X pins σ H s) (hf : ∀ b∈fp,FpOk X pins H b) (ho : ∀ b∈fp,∃ o,s.heap.get? b=some o/\∀ v,o.data ≠ .cell v):Inv X (pins++pinsAt fp s.heap) σ H s :=
  I.pins_of fun p hp=>(List.mem_append.mp hp).elim (fun z=>I.pin p (List.mem_append_right _ z)) fun z=>by
    obtain ⟨hb,e⟩:=of_pinsAt z
    obtain ⟨f0,f1,f2,_⟩:=hf p.1 hb
    obtain ⟨o,e',d⟩:=ho p.1 hb
    rw [e] at e'; cases e'
    exact ⟨e,f0,f1,f2,d⟩
theorem Inv.unpinned {pins pl:List (Addr × Obj)} {σ:St} {H:Hp} {s:Shared} (I:Inv X (pins++pl) σ H s):Inv X pins σ H s:=I.pins_of fun p hp=>I.pin p (List.mem_append_right _ (List.mem_append_left _ hp))
theorem ps_for {iter:Expr} {body:List Stmt} {wi:TI} {g:TG} {tb:TS} {pos:Pos} (hp:PassesOwn (model X.prog X.w) X.A X.env X.xe) (hc:X.calm=true) (hi:PI X tg iter wi) (hg:PG X tg g) (hb:PSs X body tb)
    (hs : ∀ x,foldedSetIterable iter X.env x=pure x:=by intro _; rfl):PS X (.For tg iter body [] pos) (tFor wi g tb):=by
  intro pins s σ H D I h
  refine wpAny_For (thn (hi pins s σ H _ I h) fun v s1 h1=>thn h1 fun itv s2 h2=>?_) hs
  obtain ⟨it,fp,tn,J,H2,e,I2,T,st2,f2,W,⟨m0,w0⟩,turn⟩:=h2
  subst e
  have stat : ∀ {H':Hp},(∀ b∈fp,H' b=none)->∀ b∈fp,FpOk X pins H' b:=fun hn b hb=>⟨hn b hb,(f2 b hb).2⟩
  refine codeAny_forLoop_any (fun n s'=>∃ i σ' H',Inv X pins σ' H' s'/\tn i s'.heap/\(∀ b∈fp,H' b=none)/\W i n σ' H') ?_ m0 ⟨0,σ,H2,I2,st2,fun b hb=>(f2 b hb).1,w0⟩
  rintro n s3 ⟨i,σ3,H3,I3,st3,fr3,w3⟩
  rcases turn i n σ3 H3 w3 with ⟨stop,qn⟩ | ⟨go,N,hN,step⟩
  · refine wpAny_passesOwn hp (thn (T.done X rfl rfl rfl hc i pins s3 σ3 H3 X.xe I3 (stat fr3) st3 stop) fun r s4 ⟨hr,I4⟩=>?_)
    subst hr
    exact wpAny_execs_nil ⟨σ3,H3,I4,qn⟩
  · refine wpAny_passesOwn hp (thn (T.item X rfl rfl rfl hc i pins s3 σ3 H3 X.xe I3 (stat fr3) st3 go) fun r s4 ⟨u,hr,h4⟩=>?_)
    subst hr
    refine wpAny_passesOwn hp (thn h4 fun _ s5 ⟨x,H5,I5,r5,y5,st5,fr5⟩=>?_)
    have I5':=I5.pinned (stat fr5) (T.obj _ _ st5)
    refine wpAny_passesOwn hp (thn (hg _ s5 σ3 H5 x u _ I5' r5 (step x H5 y5)) fun _ s6 ⟨σ6,H6,I6,q6⟩=>?_)
    refine wpAny_passesOwn hp (thn (hb _ s6 σ6 H6 _ I6 q6) fun f s7 q7=>?_)
    have again : ∀ {σ7:St} {H7:Hp},Inv X (pins++pinsAt fp s5.heap) σ7 H7 s7->N σ7 H7->∃ m,m < n/\∃ i σ' H',Inv X pins σ' H' s7/\tn i s7.heap/\(∀ b∈fp,H' b=none)/\W i m σ' H':=fun {σ7 H7} I7 n7=>by
      obtain ⟨m',hm,w7⟩:=hN σ7 H7 n7
      refine ⟨m',hm,i+1,σ7,H7,I7.unpinned,T.keep _ _ _ st5 fun b hb o e=>(I7.pin (b,o) (List.mem_append_right _ (List.mem_append_right _ (mem_pinsAt hb e)))).1,fun b hb=>?_,w7⟩
      obtain ⟨o,e,d⟩:=T.obj _ _ st5 b hb
      exact (I7.pin (b,o) (List.mem_append_right _ (List.mem_append_right _ (mem_pinsAt hb e)))).2.1
    cases f with
    | next=>obtain ⟨σ7,H7,I7,n7⟩:=q7; exact again I7 n7
    | cont=>obtain ⟨σ7,H7,I7,n7⟩:=q7; exact again I7 n7
    | brk=>obtain ⟨σ7,H7,I7,q7⟩:=q7; exact ⟨σ7,H7,I7.unpinned,q7⟩
    | ret v=>obtain ⟨x7,σ7,H7,I7,r7,q7⟩:=q7; exact ⟨x7,σ7,H7,I7.unpinned,r7,q7⟩
end
theorem for_list {K:PySem.W.Frag} {a:Addr} {xs:List V} {g:TG} {tb:TS} {D:Ends} {σ:St} {H:Hp} (Pv:Nat->St->Hp->Prop) (h0:Pv 0 σ H) (hl : ∀ i σ H,i<=xs.length->Pv i σ H->SqL K H a xs)
    (hs : ∀ i x σ H,xs[i]? = some x->Pv i σ H->g x σ H fun σ2 H2=>tb { D with nx:=Pv (i+1),ct:=Pv (i+1),bk:=D.nx } σ2 H2) (hd : ∀ σ H,Pv xs.length σ H->D.nx σ H) :
    ∃ W:Nat->Nat->St->Hp->Prop,(∃ m,W 0 m σ H)/\∀ i m σ H,W i m σ H ->
      ((Itl K a).stop i H/\D.nx σ H)\/((Itl K a).go i H/\∃ N:St->Hp->Prop,(∀ σ' H',N σ' H'->∃ m',m' < m/\W (i+1) m' σ' H')/\∀ x H',(Itl K a).yld i H x H'->g x σ H' fun σ2 H2=>tb { D with nx:=N,ct:=N,bk:=D.nx } σ2 H2):=by
  refine ⟨fun i m σ H=>m=xs.length - i/\i<=xs.length/\Pv i σ H,⟨xs.length,by simp,Nat.zero_le _,h0⟩,?_⟩
  rintro i m σ H ⟨rfl,hi,p⟩
  have q:=hl i σ H hi p
  by_cases hlt:i < xs.length
  · refine .inr ⟨⟨xs,xs[i],q,by simp [hlt]⟩,Pv (i+1),fun σ' H' p'=>⟨xs.length - (i+1),by omega,rfl,hlt,p'⟩,fun x H' y=>?_⟩
    obtain ⟨e,y⟩:=y
    subst e
    exact hs i x σ _ (y xs q) p
  · have e:i=xs.length:=by omega
    subst e
    exact .inl ⟨⟨xs,q,Nat.le_refl _⟩,hd σ H p⟩
theorem for_tup {K:PySem.W.Frag} {a:Addr} {xs:List V} {g:TG} {tb:TS} {D:Ends} {σ:St} {H:Hp} (Pv:Nat->St->Hp->Prop) (h0:Pv 0 σ H) (hl : ∀ i σ H,i<=xs.length->Pv i σ H->SqT K H a xs)
    (hs : ∀ i x σ H,xs[i]? = some x->Pv i σ H->g x σ H fun σ2 H2=>tb { D with nx:=Pv (i+1),ct:=Pv (i+1),bk:=D.nx } σ2 H2) (hd : ∀ σ H,Pv xs.length σ H->D.nx σ H) :
    ∃ W:Nat->Nat->St->Hp->Prop,(∃ m,W 0 m σ H)/\∀ i m σ H,W i m σ H ->
      ((Itt K a).stop i H/\D.nx σ H)\/((Itt K a).go i H/\∃ N:St->Hp->Prop,(∀ σ' H',N σ' H'->∃ m',m' < m/\W (i+1) m' σ' H')/\∀ x H',(Itt K a).yld i H x H'->g x σ H' fun σ2 H2=>tb { D with nx:=N,ct:=N,bk:=D.nx } σ2 H2):=by
  refine ⟨fun i m σ H=>m=xs.length - i/\i<=xs.length/\Pv i σ H,⟨xs.length,by simp,Nat.zero_le _,h0⟩,?_⟩
  rintro i m σ H ⟨rfl,hi,p⟩
  have q:=hl i σ H hi p
  by_cases hlt:i < xs.length
  · refine .inr ⟨⟨xs,xs[i],q,by simp [hlt]⟩,Pv (i+1),fun σ' H' p'=>⟨xs.length - (i+1),by omega,rfl,hlt,p'⟩,fun x H' y=>?_⟩
    obtain ⟨e,y⟩:=y
    subst e
    exact hs i x σ _ (y xs q) p
  · have e:i=xs.length:=by omega
    subst e
    exact .inl ⟨⟨xs,q,Nat.le_refl _⟩,hd σ H p⟩
theorem for_range {lo:Int} {n:Nat} {g:TG} {tb:TS} {D:Ends} {σ:St} {H:Hp} (Pv:Nat->St->Hp->Prop) (h0:Pv 0 σ H)
    (hs : ∀ i σ H,i < n->Pv i σ H->g (.int (lo+i)) σ H fun σ2 H2=>tb { D with nx:=Pv (i+1),ct:=Pv (i+1),bk:=D.nx } σ2 H2) (hd : ∀ σ H,Pv n σ H->D.nx σ H) :
    ∃ W:Nat->Nat->St->Hp->Prop,(∃ m,W 0 m σ H)/\∀ i m σ H,W i m σ H ->
      ((Itr lo n).stop i H/\D.nx σ H)\/((Itr lo n).go i H/\∃ N:St->Hp->Prop,(∀ σ' H',N σ' H'->∃ m',m' < m/\W (i+1) m' σ' H')/\∀ x H',(Itr lo n).yld i H x H'->g x σ H' fun σ2 H2=>tb { D with nx:=N,ct:=N,bk:=D.nx } σ2 H2):=by
  refine ⟨fun i m σ H=>m=n - i/\i<=n/\Pv i σ H,⟨n,by simp,Nat.zero_le _,h0⟩,?_⟩
  rintro i m σ H ⟨rfl,hi,p⟩
  by_cases hlt:i < n
  · refine .inr ⟨hlt,Pv (i+1),fun σ' H' p'=>⟨n - (i+1),by omega,rfl,hlt,p'⟩,fun x H' y=>?_⟩
    obtain ⟨e,y⟩:=y
    subst e y
    exact hs i σ _ hlt p
  · have e:i=n:=by omega
    subst e
    exact .inl ⟨Nat.le_refl _,hd σ H p⟩
end L2
namespace L2
open PySem PySem.Spec PyProof.Rows
abbrev R2:=V->V->Hp->VK->Prop
def OpR (X:Cx) (f:Value->Value->Sem Value) (r:R2):Prop :=
  ∀ (pins:List (Addr × Obj)) (s:Shared) (σ:St) (H:Hp) (x y:V) (v u:Value) (Q:VK),Inv X pins σ H s->RelV x v->RelV y u->r x y H Q ->
    wpAny (model X.prog X.w) X.A (f v u) (EP X pins σ Q) X.xe s
def UnR (X:Cx) (f:Value->Sem Value) (r:V->Hp->VK->Prop):Prop :=
  ∀ (pins:List (Addr × Obj)) (s:Shared) (σ:St) (H:Hp) (x:V) (v:Value) (Q:VK),Inv X pins σ H s->RelV x v->r x H Q ->
    wpAny (model X.prog X.w) X.A (f v) (EP X pins σ Q) X.xe s
def CallR (X:Cx) (f:Value) (r:List V->Hp->VK->Prop):Prop :=
  ∀ (pins:List (Addr × Obj)) (s:Shared) (σ:St) (H:Hp) (xs:List V) (us:List Value) (Q:VK),Inv X pins σ H s->Vals xs us->r xs H Q ->
    wpAny (model X.prog X.w) X.A (call f us) (EP X pins σ Q) X.xe s
def TruR (X:Cx) (r:V->Hp->(Bool->Hp->Prop)->Prop):Prop :=
  ∀ (pins:List (Addr × Obj)) (s:Shared) (σ:St) (H:Hp) (x:V) (v:Value) (Q:Bool->Hp->Prop),Inv X pins σ H s->RelV x v->r x H Q ->
    wpAny (model X.prog X.w) X.A (truthy v) (TP X pins σ Q) X.xe s
def tOp (r:R2) (ta tb:TE):TE:=fun σ H Q=>ta σ H fun x H1=>tb σ H1 fun y H2=>r x y H2 Q
def tUn (r:V->Hp->VK->Prop) (ta:TE):TE:=fun σ H Q=>ta σ H fun x H1=>r x H1 Q
def rI (C:Int->Int->Prop) (g:Int->Int->V):R2:=fun x y H Q=>∃ i j,x=.int i/\y=.int j/\C i j/\Q (g i j) H
def rI0 (g:Int->Int->V):R2:=fun x y H Q=>∃ i j,x=.int i/\y=.int j/\Q (g i j) H
def rU (g:Int->V):V->Hp->VK->Prop:=fun x H Q=>∃ i,x=.int i/\Q (g i) H
section
variable {X:Cx} {a b c:Expr} {ta tb tc:TE} {pos:Pos}
theorem binT (ha:PE X a ta) (hb:PE X b tb) {pins:List (Addr × Obj)} {s:Shared} {σ:St} {H:Hp} {R:V->V->Hp->Prop} (I:Inv X pins σ H s)
    (h:ta σ H fun x H1=>tb σ H1 fun y H2=>R x y H2) {Q:Value->Shared->Prop} {f:Value->Value->Sem Value}
    (hf : ∀ v u s2 x y H2,Inv X pins σ H2 s2->RelV x v->RelV y u->R x y H2->wpAny (model X.prog X.w) X.A (f v u) Q X.xe s2) :
    wpAny (model X.prog X.w) X.A (eval a X.env) (fun v s₁=>wpAny (model X.prog X.w) X.A (eval b X.env) (fun u s₂=>wpAny (model X.prog X.w) X.A (f v u) Q X.xe s₂) X.xe s₁) X.xe s:=by
  refine thn (ha pins s σ H _ I h) fun v s1 ⟨x,H1,I1,r1,q1⟩=>?_
  refine thn (hb pins s1 σ H1 _ I1 q1) fun u s2 ⟨y,H2,I2,r2,q2⟩=>?_
  exact hf v u s2 x y H2 I2 r1 r2 q2
theorem pe_op {op:Operator} {r:R2} (ho:OpR X (binaryOp op) r) (ha:PE X a ta) (hb:PE X b tb):PE X (.BinOp a op b pos) (tOp r ta tb):=by
  intro pins s σ H Q I h
  exact wpAny_BinOp (binT ha hb I h fun v u s2 x y H2 I2 rx ry q=>ho pins s2 σ H2 x y v u Q I2 rx ry q)
theorem pe_un {op:UnaryOp} {r:V->Hp->VK->Prop} (ho:UnR X (unaryOp op) r) (ha:PE X a ta):PE X (.UnaryOp op a pos) (tUn r ta):=by
  intro pins s σ H Q I h
  exact UnaryOp_ (thn (ha pins s σ H _ I h) fun v s1 ⟨x,H1,I1,r1,q1⟩=>ho pins s1 σ H1 x v Q I1 r1 q1)
theorem opI {f:Value->Value->Sem Value} {C:Int->Int->Prop} {g:Int->Int->Int}
    (rule : ∀ (i j:Int) (t u:Tok) (s:Shared) (Q:Value->Shared->Prop) (E:Value->Shared->Prop),C i j->Q (.int (g i j) s.toks) { s with toks:=s.toks+1 }->wpAny (model X.prog X.w) X.A (f (.int i t) (.int j u)) Q E s) :
    OpR X f (rI C fun i j=>.int (g i j)):=by
  intro pins s σ H x y v u Q I rx ry h
  obtain ⟨i,j,rfl,rfl,hc,q⟩:=h
  obtain ⟨t,rfl⟩:=rx
  obtain ⟨t',rfl⟩:=ry
  exact rule i j t t' s _ _ hc ⟨.int (g i j),H,I.tok _,⟨_,rfl⟩,q⟩
theorem opI0 {f:Value->Value->Sem Value} {g:Int->Int->Int}
    (rule : ∀ (i j:Int) (t u:Tok) (s:Shared) (Q:Value->Shared->Prop) (E:Value->Shared->Prop),Q (.int (g i j) s.toks) { s with toks:=s.toks+1 }->wpAny (model X.prog X.w) X.A (f (.int i t) (.int j u)) Q E s) :
    OpR X f (rI0 fun i j=>.int (g i j)):=by
  intro pins s σ H x y v u Q I rx ry h
  obtain ⟨i,j,rfl,rfl,q⟩:=h
  obtain ⟨t,rfl⟩:=rx
  obtain ⟨t',rfl⟩:=ry
  exact rule i j t t' s _ _ ⟨.int (g i j),H,I.tok _,⟨_,rfl⟩,q⟩
theorem opB0 {f:Value->Value->Sem Value} {g:Int->Int->Bool}
    (rule : ∀ (i j:Int) (t u:Tok) (s:Shared) (Q:Value->Shared->Prop) (E:Value->Shared->Prop),Q (.bool (g i j)) s->wpAny (model X.prog X.w) X.A (f (.int i t) (.int j u)) Q E s) :
    OpR X f (rI0 fun i j=>.bl (g i j)):=by
  intro pins s σ H x y v u Q I rx ry h
  obtain ⟨i,j,rfl,rfl,q⟩:=h
  obtain ⟨t,rfl⟩:=rx
  obtain ⟨t',rfl⟩:=ry
  exact rule i j t t' s _ _ ⟨.bl (g i j),H,I,rfl,q⟩
def CDiv (i j:Int):Prop:=0 < j/\j < 1073741824
def CPow (i j:Int):Prop:=0<=j/\j<=1000000/\i.natAbs < 2 ^ 64
def CMul (i j:Int):Prop:=(-(2 ^ 64) < i/\i < 2 ^ 64)\/(-(2 ^ 64) < j/\j < 2 ^ 64)
theorem CMul.ok {i j:Int} (h:CMul i j):IntMulOk i j:=by
  rcases h with ⟨h1,h2⟩ | ⟨h1,h2⟩
  · exact .of_left (intBits_le_64 h1 h2)
  · exact .of_right (intBits_le_64 h1 h2)
theorem op_add:OpR X (binaryOp .Add) (rI0 fun i j=>.int (i+j)):=opI0 fun _ _ _ _ _ _ _ q=>add_int q
theorem op_sub:OpR X (binaryOp .Sub) (rI0 fun i j=>.int (i - j)):=opI0 fun _ _ _ _ _ _ _ q=>sub_int q
theorem op_mul:OpR X (binaryOp .Mult) (rI CMul fun i j=>.int (i*j)):=opI fun _ _ _ _ _ _ _ hc q=>mul_int q hc.ok
theorem op_fdiv:OpR X (binaryOp .FloorDiv) (rI CDiv fun i j=>.int (i / j)):=opI fun i j _ _ _ _ _ hc q=>by
  have h1:(0:Int) < j:=hc.1
  have h2:j < 1073741824:=hc.2
  exact floordiv_int (by omega) (by rw [Int.fdiv_eq_ediv_of_nonneg i (by omega)]; exact q) (.inl (PyProof.noPylong_small (by omega)))
theorem op_mod:OpR X (binaryOp .Mod) (rI (fun _ j=>0 < j) fun i j=>.int (i%j)):=opI fun i j _ _ _ _ _ hc q=>by
  have h1:(0:Int) < j:=hc
  exact mod_int' (by omega) (by rw [Int.fmod_eq_emod_of_nonneg i (by omega)]; exact q)
theorem op_pow:OpR X (binaryOp .Pow) (rI CPow fun i j=>.int (i ^ j.toNat)):=opI fun _ _ _ _ _ _ _ hc q=>pow_int_small hc.1 hc.2.1 hc.2.2 q
theorem unI {f:Value->Sem Value} {g:Int->Int}
    (rule : ∀ (i:Int) (t:Tok) (s:Shared) (Q:Value->Shared->Prop) (E:Value->Shared->Prop),Q (.int (g i) s.toks) { s with toks:=s.toks+1 }->wpAny (model X.prog X.w) X.A (f (.int i t)) Q E s) :
    UnR X f (rU fun i=>.int (g i)):=by
  intro pins s σ H x v Q I rx h
  obtain ⟨i,rfl,q⟩:=h
  obtain ⟨t,rfl⟩:=rx
  exact rule i t s _ _ ⟨.int (g i),H,I.tok _,⟨_,rfl⟩,q⟩
theorem un_neg:UnR X (unaryOp .USub) (rU fun i=>.int (-i)):=unI fun _ _ _ _ _ q=>neg_int q
end
def scal:V->V->Bool
  | .non,.non=>true | .non,.int _=>true | .int _,.non=>true | .non,.bl _=>true | .bl _,.non=>true | .non,.str _=>true | .str _,.non=>true
  | .int _,.int _=>true | .bl _,.bl _=>true | .str _,.str _=>true | .byt _,.byt _=>true
  | .int _,.str _=>true | .str _,.int _=>true | .bl _,.str _=>true | .str _,.bl _=>true
  | _,_=>false
def rEq:R2:=fun x y H Q=>scal x y=true/\Q (.bl (decide (x=y))) H
def rNe:R2:=fun x y H Q=>scal x y=true/\Q (.bl (!decide (x=y))) H
theorem dec_int {i j:Int}:decide (V.int i=V.int j)=(i == j):=by
  rw [Bool.eq_iff_iff]
  simp
theorem dec_bl {i j:Bool}:decide (V.bl i=V.bl j)=(i == j):=by
  rw [Bool.eq_iff_iff]
  simp
theorem dec_str {i j:Str}:decide (V.str i=V.str j)=(i == j):=by
  rw [Bool.eq_iff_iff]
  simp
theorem dec_byt {i j:Array UInt8}:decide (V.byt i=V.byt j)=(i.toList == j.toList):=by
  rw [Bool.eq_iff_iff]
  cases i
  cases j
  simp
section
variable {X:Cx} {a b c:Expr} {ta tb tc:TE} {pos:Pos}
theorem fin_bl {pins:List (Addr × Obj)} {σ:St} {H:Hp} {s:Shared} {Q:VK} {k k':Bool} (I:Inv X pins σ H s) (q:Q (.bl k) H) (e:k=k'):EP X pins σ Q (.bool k') s:=by
  subst e
  exact ⟨.bl k,H,I,rfl,q⟩
theorem op_eq:OpR X (compareOp .Eq) rEq:=by
  intro pins s σ H x y v u Q I rx ry h
  obtain ⟨hs,q⟩:=h
  cases x with
  | non =>
    cases rx
    cases y with
    | non=>cases ry; exact PySem.EqNone.eq_none_none (fin_bl I q (by simp))
    | bl j=>cases ry; exact PySem.EqNone.eq_none_bool (fin_bl I q (by simp))
    | int j=>obtain ⟨t',rfl⟩:=ry; exact PySem.EqNone.eq_none_int (fin_bl I q (by simp))
    | str j=>obtain ⟨t',rfl⟩:=ry; exact PySem.EqNone.eq_none_str (fin_bl I q (by simp))
    | _=>exact absurd (show false=true from hs) Bool.false_ne_true
  | bl i =>
    cases rx
    cases y with
    | non=>cases ry; exact PySem.EqNone.eq_bool_none (fin_bl I q (by simp))
    | bl j=>cases ry; exact eq_bool (fin_bl I q dec_bl)
    | str j=>obtain ⟨t',rfl⟩:=ry; exact PySem.EqMixed.eq_bool_str (fin_bl I q (by simp))
    | _=>exact absurd (show false=true from hs) Bool.false_ne_true
  | int i =>
    obtain ⟨t,rfl⟩:=rx
    cases y with
    | non=>cases ry; exact PySem.EqNone.eq_int_none (fin_bl I q (by simp))
    | int j=>obtain ⟨t',rfl⟩:=ry; exact eq_int (fin_bl I q dec_int)
    | str j=>obtain ⟨t',rfl⟩:=ry; exact PySem.EqMixed.eq_int_str (fin_bl I q (by simp))
    | _=>exact absurd (show false=true from hs) Bool.false_ne_true
  | str i =>
    obtain ⟨t,rfl⟩:=rx
    cases y with
    | non=>cases ry; exact PySem.EqNone.eq_str_none (fin_bl I q (by simp))
    | bl j=>cases ry; exact PySem.EqMixed.eq_str_bool (fin_bl I q (by simp))
    | int j=>obtain ⟨t',rfl⟩:=ry; exact PySem.EqMixed.eq_str_int (fin_bl I q (by simp))
    | str j=>obtain ⟨t',rfl⟩:=ry; exact eq_str (fin_bl I q dec_str)
    | _=>exact absurd (show false=true from hs) Bool.false_ne_true
  | byt i =>
    obtain ⟨t,rfl⟩:=rx
    cases y with
    | byt j=>obtain ⟨t',rfl⟩:=ry; exact PySem.W.eq_bytes (fin_bl I q dec_byt)
    | _=>exact absurd (show false=true from hs) Bool.false_ne_true
  | _=>cases y <;> exact absurd (show false=true from hs) Bool.false_ne_true
theorem op_ne:OpR X (compareOp .NotEq) rNe:=by
  intro pins s σ H x y v u Q I rx ry h
  obtain ⟨hs,q⟩:=h
  cases x with
  | non =>
    cases rx
    cases y with
    | non=>cases ry; exact PySem.EqNone.ne_none_none (fin_bl I q (by simp))
    | bl j=>cases ry; exact PySem.EqNone.ne_none_bool (fin_bl I q (by simp))
    | int j=>obtain ⟨t',rfl⟩:=ry; exact PySem.EqNone.ne_none_int (fin_bl I q (by simp))
    | str j=>obtain ⟨t',rfl⟩:=ry; exact PySem.EqNone.ne_none_str (fin_bl I q (by simp))
    | _=>exact absurd (show false=true from hs) Bool.false_ne_true
  | bl i =>
    cases rx
    cases y with
    | non=>cases ry; exact PySem.EqNone.ne_bool_none (fin_bl I q (by simp))
    | bl j=>cases ry; exact ne_bool (fin_bl I q (congrArg not dec_bl))
    | str j=>obtain ⟨t',rfl⟩:=ry; exact PySem.EqMixed.ne_bool_str (fin_bl I q (by simp))
    | _=>exact absurd (show false=true from hs) Bool.false_ne_true
  | int i =>
    obtain ⟨t,rfl⟩:=rx
    cases y with
    | non=>cases ry; exact PySem.EqNone.ne_int_none (fin_bl I q (by simp))
    | int j=>obtain ⟨t',rfl⟩:=ry; exact ne_int (fin_bl I q (congrArg not dec_int))
    | str j=>obtain ⟨t',rfl⟩:=ry; exact PySem.EqMixed.ne_int_str (fin_bl I q (by simp))
    | _=>exact absurd (show false=true from hs) Bool.false_ne_true
  | str i =>
    obtain ⟨t,rfl⟩:=rx
    cases y with
    | non=>cases ry; exact PySem.EqNone.ne_str_none (fin_bl I q (by simp))
    | bl j=>cases ry; exact PySem.EqMixed.ne_str_bool (fin_bl I q (by simp))
    | int j=>obtain ⟨t',rfl⟩:=ry; exact PySem.EqMixed.ne_str_int (fin_bl I q (by simp))
    | str j=>obtain ⟨t',rfl⟩:=ry; exact ne_str (fin_bl I q (congrArg not dec_str))
    | _=>exact absurd (show false=true from hs) Bool.false_ne_true
  | byt i =>
    obtain ⟨t,rfl⟩:=rx
    cases y with
    | byt j=>obtain ⟨t',rfl⟩:=ry; exact PySem.W.ne_bytes (fin_bl I q (congrArg not dec_byt))
    | _=>exact absurd (show false=true from hs) Bool.false_ne_true
  | _=>cases y <;> exact absurd (show false=true from hs) Bool.false_ne_true
theorem op_lt:OpR X (compareOp .Lt) (rI0 fun i j=>.bl (decide (i < j))):=opB0 fun _ _ _ _ _ _ _ q=>lt_int q
theorem op_le:OpR X (compareOp .LtE) (rI0 fun i j=>.bl (decide (i<=j))):=opB0 fun _ _ _ _ _ _ _ q=>le_int q
theorem op_gt:OpR X (compareOp .Gt) (rI0 fun i j=>.bl (decide (j < i))):=opB0 fun _ _ _ _ _ _ _ q=>gt_int q
theorem op_ge:OpR X (compareOp .GtE) (rI0 fun i j=>.bl (decide (j<=i))):=opB0 fun _ _ _ _ _ _ _ q=>ge_int q
theorem op_isN:OpR X (compareOp .Is) (fun x y H Q=>y=.non/\Q (.bl (decide (x=.non))) H):=by
  intro pins s σ H x y v u Q I rx ry h
  obtain ⟨rfl,q⟩:=h
  cases ry
  refine is_none_gen (fin_bl I q ?_)
  cases x <;> first
    | (cases rx; rfl)
    | (obtain ⟨t,rfl⟩:=rx; rfl)
theorem op_notN:OpR X (compareOp .IsNot) (fun x y H Q=>y=.non/\Q (.bl (!decide (x=.non))) H):=by
  intro pins s σ H x y v u Q I rx ry h
  obtain ⟨rfl,q⟩:=h
  cases ry
  refine isnot_none_gen (fin_bl I q ?_)
  cases x <;> first
    | (cases rx; rfl)
    | (obtain ⟨t,rfl⟩:=rx; rfl)
theorem nomark (b:Expr) {op:CmpOp} (h:op ≠ .In:=by decide) (h2:op ≠ .NotIn:=by decide):behindInMarks op b=false:=by
  have e1:(op == CmpOp.In)=false:=by cases op <;> first | rfl | exact absurd rfl h
  have e2:(op == CmpOp.NotIn)=false:=by cases op <;> first | rfl | exact absurd rfl h2
  cases b <;> simp [behindInMarks,e1,e2]
theorem pe_cmpR {op:CmpOp} {r:R2} (ho:OpR X (compareOp op) r) (ha:PE X a ta) (hb:PE X b tb) (hm:behindInMarks op b=false):PE X (.Compare a [op] [b] pos) (tOp r ta tb):=by
  intro pins s σ H Q I h
  exact wpAny_Compare1 (binT ha hb I h fun v u s2 x y H2 I2 rx ry q=>ho pins s2 σ H2 x y v u Q I2 rx ry q) hm
def TruV (K:PySem.W.Frag) (x:V) (H:Hp) (k:Bool):Prop :=
  match x with
  | .non=>k=false
  | .bl b=>k=b
  | .int i=>k=(i != 0)
  | .str y=>y.length<=sizeLine/\k=((y.length:Int) != 0)
  | .byt y=>y.size<=sizeLine/\k=((y.size:Int) != 0)
  | .ref p=>(∃ xs,SqL K H p xs/\k = !xs.isEmpty)\/(∃ xs,SqT K H p xs/\k = !xs.isEmpty)\/∃ kvs,H p=some (.dK kvs)/\k = !kvs.isEmpty
  | _=>False
theorem isEmpty_kv {κ:Type} {kvs:List (κ × V)} {vs:List (κ × Value)} (r:KV kvs vs):(!vs.isEmpty) = !kvs.isEmpty:=by
  cases r <;> rfl
theorem isEmpty_of {xs:List V} {its:List Value} (r:Vals xs its):(!its.toArray.isEmpty) = !xs.isEmpty:=by
  cases r <;> simp
theorem line63:(sizeLine:Nat) < 2 ^ 63:=by rw [sizeLine_eq]; decide
theorem tru_ok:TruR X (fun x H Q=>∃ k,TruV X.K x H k/\Q k H):=by
  intro pins s σ H x v Q I rx h
  obtain ⟨k,e,q⟩:=h
  have hl:=line63
  have hs:sizeLine=16777216:=sizeLine_eq
  cases x with
  | non =>
    cases rx
    have e':k=false:=e
    subst e'
    exact truthy_none ⟨H,I,q⟩
  | bl b =>
    cases rx
    have e':k=b:=e
    subst e'
    exact wpAny_truthy_bool ⟨H,I,q⟩
  | int i =>
    obtain ⟨t,rfl⟩:=rx
    have e':k=(i != 0):=e
    subst e'
    exact PySem.P.truthy_int ⟨H,I,q⟩
  | str y =>
    obtain ⟨t,rfl⟩:=rx
    obtain ⟨hy,e'⟩:y.length<=sizeLine/\k=((y.length:Int) != 0):=e
    subst e'
    exact PySem.P.truthy_str (by omega) ⟨H,I.tok _,q⟩
  | byt y =>
    obtain ⟨t,rfl⟩:=rx
    obtain ⟨hy,e'⟩:y.size<=sizeLine/\k=((y.size:Int) != 0):=e
    subst e'
    exact PySem.W.truthy_bytes (by omega) ⟨H,I.tok _,q⟩
  | ref p =>
    cases rx
    have e':(∃ xs,SqL X.K H p xs/\k = !xs.isEmpty)\/(∃ xs,SqT X.K H p xs/\k = !xs.isEmpty)\/∃ kvs,H p=some (.dK kvs)/\k = !kvs.isEmpty:=e
    rcases e' with ⟨xs,hx,e'⟩ | ⟨xs,hx,e'⟩ | ⟨kvs,hx,e'⟩
    · subst e'
      obtain ⟨its,r,pl,hz⟩:=I.list hx
      have hlen:=r.length
      exact wpAny_truthy_list pl.isList (by simp only [List.size_toArray]; omega) ⟨H,I.tok _,by rw [isEmpty_of r]; exact q⟩
    · subst e'
      obtain ⟨its,r,pl,hz⟩:=I.tuple hx
      have hlen:=r.length
      exact truthy_tuple pl (by simp only [List.size_toArray]; omega) ⟨H,I.tok _,by rw [isEmpty_of r]; exact q⟩
    · subst e'
      obtain ⟨hz,hS,vs,r,m⟩:kvs.length<=sizeLine/\(p == sysModules)=false/\∃ vs,KV kvs vs/\s.heap.DictOf (mixKind X.prog X.w) p vs:=I.hok p _ hx
      have hlen:kvs.length=vs.length:=Paired.length r
      exact wpAny_truthy_dict hS m (by omega) ⟨H,I.tok _,by rw [isEmpty_kv r]; exact q⟩
  | _=>exact (show False from e).elim
theorem vals1 {x:V} {us:List Value} (r:Vals [x] us) : ∃ u,us=[u]/\RelV x u:=by
  cases r with
  | cons r1 r2=>cases r2; exact ⟨_,rfl,r1⟩
theorem vals2 {x y:V} {us:List Value} (r:Vals [x,y] us) : ∃ u w',us=[u,w']/\RelV x u/\RelV y w':=by
  cases r with
  | cons r1 r2 =>
    cases r2 with
    | cons r3 r4=>cases r4; exact ⟨_,_,rfl,r1,r3⟩
theorem call_max2 (hc:X.calm=true):CallR X (.builtin "max") (fun xs H Q=>∃ i j,xs=[.int i,.int j]/\Q (.int (if j > i then j else i)) H):=by
  intro pins s σ H xs us Q I r h
  obtain ⟨i,j,rfl,q⟩:=h
  obtain ⟨u,w',rfl,⟨t,rfl⟩,⟨t',rfl⟩⟩:=vals2 r
  refine max_two_ints (I.ok.hd hc) fun h' tk k=>⟨_,H,I.kept k,?_,q⟩
  by_cases hj:j > i
  · rw [if_pos hj,if_pos hj]; exact ⟨_,rfl⟩
  · rw [if_neg hj,if_neg hj]; exact ⟨_,rfl⟩
end
end L2
namespace L2
open PySem PySem.Spec PyProof.Rows
structure ObjM (h:Heap) (x dx C:Addr) (mA:Str->Option Value):Prop where
  obj:h.get? x=some (PySem.W.instObj C dx)
  ns:h.Ns1 dx mA
  ne:dx≠x
theorem lookIn_ns {h:Heap} {dx:Addr} {mA:Str->Option Value} (n:h.Ns1 dx mA) : ∃ od,h.get? dx=some od/\∀ name,PySem.W.lookIn name od=some (mA name):=by
  obtain ⟨o,es,ep,ho,hd,hk,_,hm⟩:=n
  refine ⟨o,ho,fun name=>?_⟩
  have e:=hm name
  unfold nsFind findBy at e
  rw [<- Array.find?_toList] at e
  unfold PySem.W.lookIn
  rw [hd]
  dsimp only
  split
  · rename_i y q
    rw [q] at e
    exact congrArg some e
  · rename_i q
    rw [q] at e
    have a:es.toList.any (·.refKey)=false:=by
      rw [List.any_eq_false]
      intro y hy
      obtain ⟨z,t,hkey⟩:=hk y (Array.mem_toList_iff.mp hy)
      simp [DictEntry.refKey,hkey]
    have a' : ¬ es.toList.any (·.refKey)=true:=by rw [a]; exact Bool.false_ne_true
    rw [if_neg a']
    exact congrArg some e
theorem ObjM.look {h:Heap} {x dx C:Addr} {mA:Str->Option Value} (I:ObjM h x dx C mA) : ∃ od,PySem.W.InstAt h x (PySem.W.instObj C dx) C (some od)/\∀ name,PySem.W.lookIn name od=some (mA name) :=
  let ⟨od,ho,hl⟩:=lookIn_ns I.ns
  ⟨od,⟨I.obj,rfl,rfl,ho⟩,hl⟩
section
variable {prog:Program} {w:World} {A:Around} {E:Value->Shared->Prop} {s:Shared} {K:PySem.W.Frag} {x dx C f:Addr} {mA:Str->Option Value} {name:Str} {v:Value}
theorem get_map {expr:Bool} {Q:Value->Shared->Prop} (X:K.In s.heap) (I:ObjM s.heap x dx C mA) (hg:PySem.W.plainGet K C name=true) (hh:PySem.W.hasDictIn K C=true)
    (ha:PySem.W.findIn K (.ref C) name=some none) (hv:mA name=some v) (hv':PySem.W.handedIn v=true) (h:Q v { s with toks:=s.toks+1 }) :
    wpAny (model prog w) A (getAttr (.ref x) name expr) Q E s:=by
  obtain ⟨od,J,hl⟩:=I.look
  exact PySem.W.get_value X J (PySem.W.plainGet_of hg).1 (PySem.W.findObj_own hh ha rfl (by rw [hl,hv])) hv' h
theorem get_meth {pl:Sem Bool} {Q:Value × List Value->Shared->Prop} (X:K.In s.heap) (I:ObjM s.heap x dx C mA) (hg:PySem.W.plainGet K C name=true)
    (hf:PySem.W.findIn K (.ref C) name=some (some (.ref f))) (ht:PySem.W.isFn K (.ref f)=true) (hv:mA name=none) (h:Q (.ref f,[.ref x]) s) :
    wpAny (model prog w) A (getMethod (.ref x) name pl) Q E s:=by
  obtain ⟨od,J,hl⟩:=I.look
  exact PySem.W.method_fn X J (PySem.W.plainGet_of hg).1 (PySem.W.plainGet_of hg).2 hf (beq_iff_eq.mp ht) (by show (PySem.W.lookIn name od).map (·.isSome)=some false; rw [hl,hv]; rfl) h
theorem set_map {ns:List Str} {Q:Unit->Shared->Prop} (X:K.In s.heap) (I:ObjM s.heap x dx C mA)
    (hs:PySem.W.findIn K (.ref C) "__setattr__" = some (some (.builtin "object.__setattr__"))) (hp:PySem.W.plainOver K C=true) (ht:PySem.W.takerIn K C name=some none) (hh:PySem.W.hasDictIn K C=true)
    (hw:PySem.Within mA ns) (hsz:ns.length<=sizeLine)
    (h : ∀ h',ObjM h' x dx C (fun y=>if y=name then some v else mA y)->Heap.SameBut dx s.heap h'->Q () { s with heap:=h',toks:=s.toks+2 }) :
    wpAny (model prog w) A (setAttr (.ref x) name v) Q E s:=by
  obtain ⟨od,J,hl⟩:=I.look
  refine PySem.W.set_plain X J hs (PySem.W.osa_open (s:={ s with toks:=s.toks+1 }) (r:=none) X J hp ht fun b=>?_)
  obtain ⟨cd,hc,hd'⟩:=PySem.W.any_some hh
  have hx:s.heap.get? x=some ⟨.ref C,some dx,.plain,#[]⟩:=I.obj
  refine wpAny_bind (wpAny_pure (wpAny_bind (wpAny_bind (wpAny_loadPart hx (wpAny_bind (PySem.W.Looks.here (s:={ s with toks:=s.toks+1 }) (PySem.W.looks_clsIn X hc) ?_))))))
  rw [hd']
  refine wpAny_pure (a:=some dx) (wpAny_bind (wpAny_pure (wpAny_bind ?_)))
  refine wpAny_nsSet1 (s:={ s with toks:=s.toks+1 }) I.ns fun h' hn2 hs2=>?_
  obtain ⟨oD,esD,epD,hoD,hdD,hcD⟩:=hn2.count (PySem.Within.cons name v hw)
  refine wpAny_bind (wpAny_lookBehind hoD (by rw [hdD]; exact pastItsLine_dict (Nat.le_trans hcD (by rw [List.length_cons]; omega))) ?_)
  exact wpAny_pure (h _ ⟨(hs2.2 _ (Ne.symm I.ne)).trans I.obj,hn2,I.ne⟩ hs2)
theorem make_map {R:Result->Shared->Prop} {vs:List Value} {kw:List (Str × Value)} (X:K.In s.heap) (hm:PySem.W.makesIn K C=true)
    (hi:PySem.W.findIn K (.ref C) "__init__" = some (some (.ref f))) (hf:PySem.W.typeIn K (.ref f)=some (.type "function"))
    (h:codeAny (model prog w) (A.under (.builtin "type.__call__" ⟨.ref C :: vs,kw⟩)) (.call (.ref f) ⟨.ref (s.heap.objs.size+1) :: vs,kw⟩) (PySem.W.InitBack (s.heap.objs.size+1) R)
      { s with heap:=(s.heap.push PySem.W.emptyDict).push (PySem.W.instObj C s.heap.objs.size) }) :
    codeAny (model prog w) A (.call (.ref C) ⟨vs,kw⟩) R s:=by
  obtain ⟨hh,g,d,t,os⟩:=s
  exact PySem.W.make_core (PySem.W.makes_of X hm) (PySem.W.looks_findIn X hi) (fun self=>PySem.W.bind_fn X self hf) (.inl rfl) h
theorem make_map0 {R:Result->Shared->Prop} (X:K.In s.heap) (hm:PySem.W.makesIn K C=true)
    (hi:PySem.W.findIn K (.ref C) "__init__" = some (some (.builtin "object.__init__")))
    (hb : ∀ self,PySem.W.Looks (model prog w) s.heap (bindSpecial (.builtin "object.__init__") self) (.builtin "object.__init__",[self]))
    (h:codeAny (model prog w) (A.under (.builtin "type.__call__" ⟨[.ref C],[]⟩)) (.call (.builtin "object.__init__") ⟨[.ref (s.heap.objs.size+1)],[]⟩) (PySem.W.InitBack (s.heap.objs.size+1) R)
      { s with heap:=(s.heap.push PySem.W.emptyDict).push (PySem.W.instObj C s.heap.objs.size) }) :
    codeAny (model prog w) A (.call (.ref C) ⟨[],[]⟩) R s:=by
  obtain ⟨hh,g,d,t,os⟩:=s
  exact PySem.W.make_core (PySem.W.makes_of X hm) (PySem.W.looks_findIn X hi) hb (.inr ⟨rfl,rfl⟩) h
end
def putF (f:Str) (v:V):List (Str × V)->List (Str × V)
  | []=>[(f,v)]
  | (g,x) :: r=>if g=f then (g,v) :: r else (g,x) :: putF f v r
theorem lookup_putF (f g:Str) (v:V) : ∀ fs:List (Str × V),(putF f v fs).lookup g=if g=f then some v else fs.lookup g
  | []=>by
    show List.lookup g [(f,v)]=_
    by_cases h:g=f
    · have hb:(g == f)=true:=beq_iff_eq.mpr h
      simp only [List.lookup,hb,if_pos h]
    · have hb:(g == f)=false:=beq_eq_false_iff_ne.mpr h
      simp only [List.lookup,hb,if_neg h]
  | (k,x) :: r=>by
    have ih:=lookup_putF f g v r
    rw [show putF f v ((k,x) :: r)=(if k=f then (k,v) :: r else (k,x) :: putF f v r) from rfl]
    by_cases hk:k=f
    · rw [if_pos hk]
      by_cases h:g=k
      · have hb:(g == k)=true:=beq_iff_eq.mpr h
        simp only [List.lookup,hb,if_pos (h.trans hk)]
      · have hb:(g == k)=false:=beq_eq_false_iff_ne.mpr h
        simp only [List.lookup,hb,if_neg (fun e:g=f=>h (e.trans hk.symm))]
    · rw [if_neg hk]
      by_cases h:g=k
      · have hb:(g == k)=true:=beq_iff_eq.mpr h
        simp only [List.lookup,hb,if_neg (fun e:g=f=>hk (h.symm.trans e))]
      · have hb:(g == k)=false:=beq_eq_false_iff_ne.mpr h
        simp only [List.lookup,hb]
        exact ih
theorem keys_putF (f:Str) (v:V) : ∀ fs:List (Str × V),f∈(putF f v fs).map (·.1)/\∀ g,g∈fs.map (·.1)->g∈(putF f v fs).map (·.1)
  | []=>⟨by simp [putF],fun g h=>by simp at h⟩
  | (k,x) :: r=>by
    obtain ⟨i1,i2⟩:=keys_putF f v r
    rw [show putF f v ((k,x) :: r)=(if k=f then (k,v) :: r else (k,x) :: putF f v r) from rfl]
    by_cases hk:k=f
    · rw [if_pos hk]
      subst hk
      exact ⟨by simp,fun g h=>by simpa using h⟩
    · rw [if_neg hk]
      refine ⟨?_,fun g h=>?_⟩
      · rw [List.map_cons]
        exact List.mem_cons_of_mem _ i1
      · rw [List.map_cons] at h ⊢
        rcases List.mem_cons.mp h with e | e
        · exact List.mem_cons.mpr (.inl e)
        · exact List.mem_cons_of_mem _ (i2 g e)
theorem length_putF (f:Str) (v:V) : ∀ fs:List (Str × V),(putF f v fs).length<=fs.length+1
  | []=>by simp [putF]
  | (k,x) :: r=>by
    have ih:=length_putF f v r
    rw [show putF f v ((k,x) :: r)=(if k=f then (k,v) :: r else (k,x) :: putF f v r) from rfl]
    by_cases hk:k=f
    · rw [if_pos hk,List.length_cons,List.length_cons]; omega
    · rw [if_neg hk,List.length_cons,List.length_cons]; omega
theorem RelO.some_of {v:V} {o:Option Value} (r:RelO (some v) o) : ∃ u,o=some u/\RelV v u:=by
  cases o with
  | none=>exact (show False from r).elim
  | some u=>exact ⟨u,rfl,r⟩
theorem RelO.none_of {o:Option Value} (r:RelO none o):o=none:=by
  cases o with
  | none=>rfl
  | some u=>exact (show False from r).elim
theorem handed_of {v:V} {u:Value} (r:RelV v u):PySem.W.handedIn u=true:=by
  cases v with
  | non=>cases (show u=Value.none from r); rfl
  | bl b=>cases (show u=Value.bool b from r); rfl
  | int i=>obtain ⟨t,e⟩:=(show ∃ t,u=Value.int i t from r); cases e; rfl
  | str x=>obtain ⟨t,e⟩:=(show ∃ t,u=Value.str x t from r); cases e; rfl
  | byt b=>obtain ⟨t,e⟩:=(show ∃ t,u=Value.bytes b t from r); cases e; rfl
  | flt b=>obtain ⟨t,e⟩:=(show ∃ t,u=Value.float b t from r); cases e; rfl
  | ref a=>cases (show u=Value.ref a from r); rfl
  | ty n=>cases (show u=Value.type n from r); rfl
section
variable {P:Program} {w:World} {H H':Hp} {h h':Heap} {a C dx:Addr} {fs fs':List (Str × V)}
theorem ins_get (hok:HOk P w H h) (e:H a=some (.ins C dx fs)) : ∃ mA,ObjM h a dx C mA/\(∀ f,RelO (fs.lookup f) (mA f))/\PySem.Within mA (fs.map (·.1))/\fs.length<=1000/\H dx=some (.own a):=by
  obtain ⟨d,z,ne,ob,mA,n,r,q⟩:=(show ObjOk P w H h a (.ins C dx fs) from hok a _ e)
  exact ⟨mA,⟨ob,n,ne⟩,r,q,z,d⟩
end
structure Cls (K:PySem.W.Frag) (C:Addr):Prop where
  pg:PySem.W.plainGet K C Str.empty=true
  hd:PySem.W.hasDictIn K C=true
  po:PySem.W.plainOver K C=true
  sa:PySem.W.findIn K (.ref C) "__setattr__" = some (some (.builtin "object.__setattr__"))
theorem Cls.get {K:PySem.W.Frag} {C:Addr} (c:Cls K C) (f:Str):PySem.W.plainGet K C f=true:=c.pg
def NoAttr (K:PySem.W.Frag) (C:Addr) (f:Str):Prop:=PySem.W.findIn K (.ref C) f=some none
theorem NoAttr.taker {K:PySem.W.Frag} {C:Addr} {f:Str} (n:NoAttr K C f):PySem.W.takerIn K C f=some none:=by
  unfold PySem.W.takerIn
  rw [show PySem.W.findIn K (.ref C) f=some none from n]
  rfl
structure Con (K:PySem.W.Frag) (C:Addr) (f:Str) (v:V) (u:Value):Prop where
  at_:PySem.W.findIn K (.ref C) f=some (some u)
  rel:RelV v u
  get:PySem.W.specialIn K u "__get__" = some none
  cp:PySem.W.copiedNames.contains f=false
structure Meth (K:PySem.W.Frag) (C:Addr) (m:Str) (f:Addr):Prop where
  at_:PySem.W.findIn K (.ref C) m=some (some (.ref f))
  fn:PySem.W.isFn K (.ref f)=true
  kp:PySem.W.keepIn K (.ref f)=true
section
variable {X:Cx} {pins:List (Addr × Obj)} {σ:St} {H:Hp} {s:Shared} {a C dx:Addr} {fs:List (Str × V)} {f:Str} {v:V} {A:Around} {E:Value->Shared->Prop}
theorem getattr_ok {b:Bool} {Q:Value->Shared->Prop} (I:Inv X pins σ H s) (e:H a=some (.ins C dx fs)) (c:Cls X.K C) (n:NoAttr X.K C f) (l:fs.lookup f=some v)
    (h : ∀ u s',Inv X pins σ H s'->RelV v u->Q u s'):wpAny (model X.prog X.w) A (getAttr (.ref a) f b) Q E s:=by
  obtain ⟨mA,O,r,_,_,_⟩:=ins_get I.hok e
  obtain ⟨u,hu,ru⟩:=RelO.some_of (v:=v) (o:=mA f) (by rw [<- l]; exact r f)
  exact get_map I.kIn O (c.get f) c.hd n hu (handed_of ru) (h u _ (I.tok _) ru)
theorem getmeth_ok {m:Str} {g:Addr} {pl:Sem Bool} {Q:Value × List Value->Shared->Prop} (I:Inv X pins σ H s) (e:H a=some (.ins C dx fs)) (c:Cls X.K C) (k:Meth X.K C m g) (l:fs.lookup m=none)
    (h:Q (.ref g,[.ref a]) s):wpAny (model X.prog X.w) A (getMethod (.ref a) m pl) Q E s:=by
  obtain ⟨mA,O,r,_,_,_⟩:=ins_get I.hok e
  have hn:mA m=none:=RelO.none_of (by rw [<- l]; exact r m)
  exact get_meth I.kIn O (c.get m) k.at_ k.fn hn h
theorem setattr_ok {y:V} {u:Value} {Q:Unit->Shared->Prop} (I:Inv X pins σ H s) (e:H a=some (.ins C dx fs)) (c:Cls X.K C) (n:NoAttr X.K C f) (hl:fs.length < 1000) (ry:RelV y u)
    (h : ∀ s',Inv X pins σ (upd H a (.ins C dx (putF f y fs))) s'->Q () s'):wpAny (model X.prog X.w) A (setAttr (.ref a) f u) Q E s:=by
  obtain ⟨mA,O,r,wi,_,ho⟩:=ins_get I.hok e
  have hz:(fs.map (·.1)).length<=sizeLine:=by rw [List.length_map,sizeLine_eq]; omega
  refine set_map I.kIn O c.sa c.po n.taker c.hd wi hz fun h' O' sb=>h _ ?_
  have hd : ∃ o,h'.get? dx=some o:=let ⟨o,_,_,e',_⟩:=O'.ns; ⟨o,e'⟩
  refine I.write (x:=a) (e:=dx) (by rw [e]; exact True.intro) (.inr ho) (fun b q hb z=>(sb.2 b hb).trans z) hd ?_
  refine ⟨by rw [upd_ne O.ne]; exact ho,?_,O.ne,O'.obj,_,O'.ns,fun g=>?_,fun g hg=>?_⟩
  · have:=length_putF f y fs; omega
  · show RelO ((putF f y fs).lookup g) (if g=f then some u else mA g)
    rw [lookup_putF]
    by_cases q:g=f
    · rw [if_pos q,if_pos q]; exact ry
    · rw [if_neg q,if_neg q]; exact r g
  · by_cases q:g=f
    · rw [q]; exact (keys_putF f y fs).1
    · refine (keys_putF f y fs).2 g (wi g fun z=>hg ?_)
      show (if g=f then some u else mA g)=none
      rw [if_neg q]; exact z
theorem Inv.made (I:Inv X pins σ H s):Inv X pins σ (upd (upd H s.heap.objs.size (.own (s.heap.objs.size+1))) (s.heap.objs.size+1) (.ins C s.heap.objs.size []))
    { s with heap:=(s.heap.push PySem.W.emptyDict).push (PySem.W.instObj C s.heap.objs.size) }:=by
  have e1:(s.heap.push PySem.W.emptyDict).get? s.heap.objs.size=some PySem.W.emptyDict:=Heap.get?_push_size s.heap rfl
  have e2:((s.heap.push PySem.W.emptyDict).push (PySem.W.instObj C s.heap.objs.size)).get? (s.heap.objs.size+1)=some (PySem.W.instObj C s.heap.objs.size):=by
    have:=Heap.get?_push_size (s.heap.push PySem.W.emptyDict) (o:=PySem.W.instObj C s.heap.objs.size) rfl
    rwa [Heap.size_push] at this
  have e3:(s.heap.push PySem.W.emptyDict).Ns s.heap.objs.size (fun _=>none):=⟨PySem.W.emptyDict,#[],_,e1,rfl,(fun e he=>absurd he (by simp)),fun _=>rfl⟩
  have I1:=I.laid (a:=s.heap.objs.size) (o:=.own (s.heap.objs.size+1)) (h':=s.heap.push PySem.W.emptyDict) (t':=s.toks) (fun b u q=>Heap.get?_push_of_some _ q) (Nat.le_refl _) ⟨_,e1⟩
  refine I1.laid (a:=s.heap.objs.size+1) (o:=.ins C s.heap.objs.size []) (t':=s.toks) (fun b u q=>Heap.get?_push_of_some _ q) (Nat.le_of_eq (Heap.size_push _ _)) ?_
  have ne:s.heap.objs.size≠s.heap.objs.size+1:=Nat.ne_of_lt (Nat.lt_succ_self _)
  refine ⟨by rw [upd_ne ne,upd_same],Nat.zero_le _,ne,e2,fun _=>none,(Heap.Ns1.of_empty e3).at fun o q=>Heap.get?_push_of_some _ q,fun _=>True.intro,fun y hy=>absurd rfl hy⟩
theorem attr_of {prog:Program} {w:World} {env:Env} {e:Expr} {f:Str} {pos:Pos} {s:Shared} {Q:Value->Shared->Prop} (hb:attributeBase e f env (eval e env)=eval e env)
    (h:wpAny (model prog w) A (eval e env) (fun o s₁=>wpAny (model prog w) A (getAttr o f true) Q E s₁) E s):wpAny (model prog w) A (eval (.Attribute e f pos) env) Q E s :=
  Attribute_any_ h (by rw [arm_eval_Attribute,hb])
end
def tFld (K:PySem.W.Frag) (ta:TE) (f:Str):TE:=fun σ H Q=>ta σ H fun x H1=>∃ a C dx fs v,x=.ref a/\H1 a=some (.ins C dx fs)/\Cls K C/\NoAttr K C f/\fs.lookup f=some v/\Q v H1
def sFld (K:PySem.W.Frag) (ta tv:TE) (f:Str):TS:=fun D σ H=>tv σ H fun y H1=>ta σ H1 fun x H2=>∃ a C dx fs,x=.ref a/\H2 a=some (.ins C dx fs)/\Cls K C/\NoAttr K C f/\fs.length < 1000 /\
  D.nx σ (upd H2 a (.ins C dx (putF f y fs)))
def InOp (X:Cx) (op:Operator) (rd:V->V->Hp->VK->Prop):Prop :=
  ∀ (pins:List (Addr × Obj)) (s:Shared) (σ:St) (H:Hp) (x y:V) (u v:Value) (Q:VK),Inv X pins σ H s->RelV x u->RelV y v->rd x y H Q->wpAny (model X.prog X.w) X.A (inplaceOp op u v) (EP X pins σ Q) X.xe s
def sFldAug (K:PySem.W.Frag) (ta tv:TE) (rd:V->V->Hp->VK->Prop) (f:Str):TS:=fun D σ H=>ta σ H fun x H1=>∃ a C dx fs v,x=.ref a/\H1 a=some (.ins C dx fs)/\Cls K C/\NoAttr K C f/\fs.lookup f=some v /\
  tv σ H1 fun y H2=>rd v y H2 fun z H3=>∃ dx' fs',H3 a=some (.ins C dx' fs')/\fs'.length < 1000/\D.nx σ (upd H3 a (.ins C dx' (putF f z fs')))
section
variable {X:Cx} {o e value:Expr} {f:Str} {pos pos' tpos:Pos} {ta tv:TE}
theorem pe_fld (he:PE X e ta) (hb:attributeBase e f X.env (eval e X.env)=eval e X.env):PE X (.Attribute e f pos) (tFld X.K ta f):=by
  intro pins s σ H Q I h
  refine attr_of hb (thn (he pins s σ H _ I h) fun u s1 ⟨x,H1,I1,rx,a,C,dx,fs,v,ex,ea,c,n,l,q⟩=>?_)
  subst ex
  obtain rfl:u=Value.ref a:=rx
  exact getattr_ok I1 ea c n l fun u' s2 I2 ru=>⟨v,H1,I2,ru,q⟩
theorem ps_fld (ha:PE X o ta) (hv:PE X value tv) (hs:swapsWith value (some (.Attribute o f pos')) pos.line X.env=pure false):PS X (.Assign [.Attribute o f pos'] value pos) (sFld X.K ta tv f):=by
  intro pins s σ H D I h
  refine plainObj_wpAny_Assign_Attribute (thn (hv pins s σ H _ I h) fun u s1 ⟨y,H1,I1,ry,q⟩=>thn (ha pins s1 σ H1 _ I1 q) fun ov s2 ⟨x,H2,I2,rx,a,C,dx,fs,ex,ea,c,n,l,q2⟩=>?_) hs
  subst ex
  obtain rfl:ov=Value.ref a:=rx
  exact setattr_ok I2 ea c n l ry fun s3 I3=>⟨σ,_,I3,q2⟩
theorem ps_fldaug {op:Operator} {rd:V->V->Hp->VK->Prop} (ha:PE X o ta) (hv:PE X value tv) (hop:InOp X op rd):PS X (.AugAssign (.Attribute o f tpos) op value pos) (sFldAug X.K ta tv rd f):=by
  intro pins s σ H D I h
  refine wpAny_AugAssign_AttributeAny (thn (ha pins s σ H _ I h) fun ov s1 ⟨x,H1,I1,rx,a,C,dx,fs,v,ex,ea,c,n,l,q⟩=>?_)
  subst ex
  obtain rfl:ov=Value.ref a:=rx
  refine getattr_ok I1 ea c n l fun u s2 I2 ru=>thn (hv pins s2 σ H1 _ I2 q) fun w3 s3 ⟨y,H2,I3,ry,q3⟩=>thn (hop pins s3 σ H2 v y u w3 _ I3 ru ry q3) fun w4 s4 ⟨z,H3,I4,rz,dx',fs',ea',l',q4⟩=>?_
  exact setattr_ok I4 ea' c n l' rz fun s5 I5=>⟨σ,_,I5,q4⟩
def rAdd:V->V->Hp->VK->Prop:=fun x y H Q=>∃ i j,x=.int i/\y=.int j/\Q (.int (i+j)) H
theorem in_add:InOp X .Add rAdd:=by
  rintro pins s σ H x y u v Q I rx ry ⟨i,j,rfl,rfl,q⟩
  obtain ⟨t,rfl⟩:=(show ∃ t,u=Value.int i t from rx)
  obtain ⟨t',rfl⟩:=(show ∃ t',v=Value.int j t' from ry)
  exact PyProof.Rows.iadd_int ⟨.int (i+j),H,I.tok _,⟨_,rfl⟩,q⟩
end
section
variable {X:Cx} {pins:List (Addr × Obj)} {σ:St} {H:Hp} {s:Shared} {A:Around} {E:Value->Shared->Prop} {Q:Value->Shared->Prop} {c:Value} {b:Bool}
inductive TyOf (K:PySem.W.Frag) (H:Hp):V->Value->Prop where
  | non:TyOf K H .non (.type "NoneType")
  | bl (x:Bool):TyOf K H (.bl x) (.type "bool")
  | int (i:Int):TyOf K H (.int i) (.type "int")
  | str (x:Str):TyOf K H (.str x) (.type "str")
  | flt (x:UInt64):TyOf K H (.flt x) (.type "float")
  | lst {a:Addr} {xs:List V} (e:H a=some (.lst xs)):TyOf K H (.ref a) (.type "list")
  | frz {a:Addr} {o:Obj} {xs:List V} (e:H a=some (.frz o (.lst xs))):TyOf K H (.ref a) (.type "list")
  | tup {a:Addr} {xs:List V} (e:H a=some (.tup xs)):TyOf K H (.ref a) (.type "tuple")
  | dK {a:Addr} {kvs:List (Key × V)} (e:H a=some (.dK kvs)):TyOf K H (.ref a) (.type "dict")
  | dT {a:Addr} {kvs:List (List Key × V)} (e:H a=some (.dT kvs)):TyOf K H (.ref a) (.type "dict")
  | ins {a C dx:Addr} {fs:List (Str × V)} (e:H a=some (.ins C dx fs)) (cl:Cls K C) (ha:PySem.W.findIn K (.ref C) "__class__" = some (some (.builtin "object.__class__")))
      (hn:PySem.W.specialIn K (.builtin "object.__class__") "__get__" = some (some (.builtin "getset_descriptor.__get__"))) (htk:PySem.W.takesIn K (.builtin "object.__class__")=some true)
      (hm:PySem.W.mroIn K C (.type "object")=some true):TyOf K H (.ref a) (.ref C)
theorem isinst_ok {x:V} {u t:Value} (I:Inv X pins σ H s) (rx:RelV x u) (ty:TyOf X.K H x t) (e:PySem.W.kitOne X.K t c=some b) (h : ∀ tk,Q (.bool b) { s with toks:=tk }) :
    wpAny (model X.prog X.w) A (call (.builtin "isinstance") [u,c]) Q E s:=by
  cases ty with
  | non=>cases (show u=Value.none from rx); exact PySem.W.kia_one PySem.W.kitx_none I.kIn True.intro e (fun z=>nomatch z) h
  | bl y=>cases (show u=Value.bool y from rx); exact PySem.W.kia_one PySem.W.kitx_bool I.kIn True.intro e (fun z=>nomatch z) h
  | int i=>obtain ⟨t,q⟩:=(show ∃ t,u=Value.int i t from rx); cases q; exact PySem.W.kia_one PySem.W.kitx_int I.kIn True.intro e (fun z=>nomatch z) h
  | str y=>obtain ⟨t,q⟩:=(show ∃ t,u=Value.str y t from rx); cases q; exact PySem.W.kia_one PySem.W.kitx_str I.kIn True.intro e (fun z=>nomatch z) h
  | flt y=>obtain ⟨t,q⟩:=(show ∃ t,u=Value.float y t from rx); cases q; exact PySem.W.kia_one PySem.W.kitx_float I.kIn True.intro e (fun z=>nomatch z) h
  | @lst a xs ea =>
    cases (show u=Value.ref a from rx)
    obtain ⟨_,_,n,_,h1⟩:=(show ObjOk X.prog X.w H s.heap a (.lst xs) from I.hok a _ ea)
    exact PySem.W.kia_one PySem.W.kitx_list I.kIn ⟨_,h1,rfl⟩ e (fun z=>nomatch z) h
  | @frz a ob xs ea =>
    cases (show u=Value.ref a from rx)
    obtain ⟨_,_,_,n,_,h1⟩:=(show ObjOk X.prog X.w H s.heap a (.frz ob (.lst xs)) from I.hok a _ ea)
    exact PySem.W.kia_one PySem.W.kitx_list I.kIn ⟨_,h1,rfl⟩ e (fun z=>nomatch z) h
  | @tup a xs ea =>
    cases (show u=Value.ref a from rx)
    obtain ⟨_,_,_,p⟩:=(show ObjOk X.prog X.w H s.heap a (.tup xs) from I.hok a _ ea)
    obtain ⟨o,h1,h2,_⟩:=p
    exact PySem.W.kia_one PySem.W.kitx_tuple I.kIn ⟨o,h1,h2⟩ e (fun z=>nomatch z) h
  | @dK a kvs ea =>
    cases (show u=Value.ref a from rx)
    obtain ⟨_,_,vs,_,p⟩:=(show ObjOk X.prog X.w H s.heap a (.dK kvs) from I.hok a _ ea)
    obtain ⟨o,es,ep,h1,h2,_⟩:=p
    exact PySem.W.kia_one PySem.W.kitx_dict I.kIn ⟨o,h1,h2.1⟩ e (fun z=>nomatch z) h
  | @dT a kvs ea =>
    cases (show u=Value.ref a from rx)
    obtain ⟨_,_,xs,_,o,es,ep,h1,h2,_⟩:=(show ObjOk X.prog X.w H s.heap a (.dT kvs) from I.hok a _ ea)
    exact PySem.W.kia_one PySem.W.kitx_dict I.kIn ⟨o,h1,h2.1⟩ e (fun z=>nomatch z) h
  | @ins a C dx fs ea cl ha hn htk hm =>
    cases (show u=Value.ref a from rx)
    obtain ⟨mA,O,_⟩:=ins_get I.hok ea
    obtain ⟨od,J,_⟩:=O.look
    exact PySem.W.kia_one (PySem.W.kitx_own (cl.get _) cl.hd ha hn htk hm) I.kIn J e (fun z=>nomatch z) h
end
end L2
namespace L2
open PySem PySem.Spec PyProof.Rows
structure Room (k:Nat) (A:Around):Prop where
  hd:A.handled=none
  dp:A.depth+3*k+5 < recursionLimit
  un:A.units+16*k+200 < cLine
theorem Room.mono {j k:Nat} {A:Around} (r:Room k A) (h:j<=k):Room j A:=⟨r.hd,by have:=r.dp; omega,by have:=r.un; omega⟩
theorem Room.deeper {k:Nat} {A:Around} (r:Room (k+1) A) (env:Env):Room k (A.deeper env) :=
  ⟨r.hd,by have:=r.dp; show A.depth+1+3*k+5 < _; omega,by have:=r.un; show A.units+3+16*k+200 < _; omega⟩
theorem make_depth {A:Around} {C:Addr} {us:List Value} {kw:List (Str × Value)}:(A.under (.builtin "type.__call__" ⟨.ref C :: us,kw⟩)).depth=A.depth+1:=by
  first | rfl | simp [Around.under,Code.weight,Code.isCreation,Code.isGuard,Code.isCaller,Code.frames,Code.isFrame,guardIds]
theorem make_units {A:Around} {C:Addr} {us:List Value} {kw:List (Str × Value)}:(A.under (.builtin "type.__call__" ⟨.ref C :: us,kw⟩)).units=A.units+1:=by
  first | rfl | simp [Around.under,Code.cUnits,Code.frames,Code.isFrame]
theorem Room.make {k:Nat} {A:Around} (r:Room (k+1) A) (C:Addr) (us:List Value) (kw:List (Str × Value)):Room k (A.under (.builtin "type.__call__" ⟨.ref C :: us,kw⟩)) :=
  ⟨r.hd,by have:=r.dp; rw [make_depth]; omega,by have:=r.un; rw [make_units]; omega⟩
theorem Room.depth {k:Nat} {A:Around} (r:Room k A):A.depth < recursionLimit:=by have:=r.dp; omega
theorem Room.units {k:Nat} {A:Around} (r:Room k A):A.units+64 < cLine:=by have:=r.un; omega
def tNil:TA:=fun _ H Q=>Q [] H
def tCons (ta:TE) (tr:TA):TA:=fun σ H Q=>ta σ H fun x H1=>tr σ H1 fun xs H2=>Q (x :: xs) H2
section
variable {X:Cx} {e:Expr} {es:List Expr} {te:TE} {t:TA} {pos:Pos}
theorem pa_nil:PA X [] tNil:=fun _ _ _ _ H Q I h=>Calls.spliced_nil ⟨[],H,I,.nil,h⟩
theorem pa_cons (ha:PE X e te) (hr:PA X es t) (hs:starEach (e :: es) X.env=(false,eval e X.env) :: starEach es X.env:=by rfl):PA X (e :: es) (tCons te t):=by
  intro pos pins s σ H Q I h
  rw [hs]
  show wpAny _ _ (spliced ((false,eval e X.env) :: backTo pos (starEach es X.env))) _ _ s
  refine Calls.spliced_cons (thn (ha pins s σ H _ I h) fun u s1 ⟨x,H1,I1,r1,q1⟩=>?_)
  exact thn (hr pos pins s1 σ H1 _ I1 q1) fun us s2 ⟨xs,H2,I2,r2,q2⟩=>⟨x :: xs,H2,I2,.cons r1 r2,q2⟩
end
abbrev Sp:=List V->Hp->VK->XK->Prop
abbrev CXT:=List Env->Hp->Shared->XK->Value->Shared->Prop
structure Env0 (P:Program) (w:World) (K:PySem.W.Frag) (mg:Str->Option Value) (base:Heap) (A:Around) (outer:List Env) (s:Shared) (H:Hp):Prop where
  frames:A.frames=some outer
  mod:Mod K mg base
  bs : ∀ b o,base.get? b=some o->s.heap.get? b=some o/\H b=none
  bsz:base.objs.size<=s.heap.objs.size
  funs:s.heap.FunFrames base outer
  frf : ∀ b∈frs outer,H b=none
  hok:HOk P w H s.heap
  bare:AllBare s.gens
def CE (outer:List Env) (P:Program) (w:World) (H:Hp) (s:Shared) (Q:VK) (u:Value) (s':Shared):Prop :=
  ∃ v H',s'.os=s.os/\AllBare s'.gens/\Un (frs outer) [] H H' s.heap s'.heap/\HOk P w H' s'.heap/\RelV v u/\Q v H'
def CR (CX:CXT) (outer:List Env) (P:Program) (w:World) (H:Hp) (s:Shared) (Q:VK) (E:XK) (r:Result) (s':Shared):Prop :=
  match r with
  | .ok (.ret u)=>CE outer P w H s Q u s'
  | .ok _=>False
  | .error e=>CX outer H s E e s'
structure FnOk (P:Program) (w:World) (K:PySem.W.Frag) (mg:Str->Option Value) (base:Heap) (CX:CXT) (k:Nat) (f:Addr) (fd:FuncData) (ps:List Str) (sp:Sp):Prop where
  len : ∀ vs H Q E,sp vs H Q E->vs.length=ps.length
  run : ∀ (A:Around) (outer:List Env) (s:Shared) (H:Hp) (args:Args) (us:List Value) (vs:List V) (Q:VK) (E:XK),Room k A->Env0 P w K mg base A outer s H->BindsTo s fd args (ps.zip us)->Vals vs us->sp vs H Q E ->
    codeAny (model P w) A (.call (.ref f) args) (CR CX outer P w H s Q E) s
theorem Env0.make {P:Program} {w:World} {K:PySem.W.Frag} {mg:Str->Option Value} {base:Heap} {A:Around} {outer:List Env} {s:Shared} {H:Hp} (e:Env0 P w K mg base A outer s H) (C:Addr) (us:List Value) (kw:List (Str × Value)) :
    Env0 P w K mg base (A.under (.builtin "type.__call__" ⟨.ref C :: us,kw⟩)) outer s H:=⟨by first | exact e.frames | (simpa [Around.under,Code.envs,Code.isFrame,pushEnvs] using e.frames),e.mod,e.bs,e.bsz,e.funs,e.frf,e.hok,e.bare⟩
section
variable {X:Cx} {pins:List (Addr × Obj)} {σ:St} {H:Hp} {s s':Shared}
theorem Inv.env0 (I:Inv X pins σ H s):Env0 X.prog X.w X.K X.mg X.base X.A X.stack s H :=
  ⟨I.ok.frames,I.ok.mod,I.bs,Nat.le_trans I.ok.bsz I.sz,I.stack,I.stkFree,I.hok,I.bare⟩
theorem Inv.after {Q:VK} {u:Value} (I:Inv X pins σ H s) (h:CE X.stack X.prog X.w H s Q u s'):EP X pins σ Q u s':=by
  obtain ⟨v,H',os,bare,un,hok,r,q⟩:=h
  obtain ⟨hh,g,d,t,os'⟩:=s'
  obtain rfl:os'=s.os:=os
  exact ⟨v,H',I.call (h':=hh) (g':=g) (d':=d) (t':=t) (ch:=[]) un hok bare (fun b z=>absurd z (by simp)),r,q⟩
end
def tCall (sp:Sp) (dvs:List V) (E:XK) (t:TA):TE:=fun σ H Q=>t σ H fun vs H1=>sp (vs++dvs) H1 Q E
def tMeth (C:Addr) (m:Str) (sp:Sp) (dvs:List V) (E:XK) (ta:TE) (t:TA):TE:=fun σ H Q=>ta σ H fun x H1=>∃ a dx fs,x=.ref a/\H1 a=some (.ins C dx fs)/\fs.lookup m=none /\
  t σ H1 fun vs H2=>sp (x :: (vs++dvs)) H2 Q E
def tMake (C:Addr) (sp:Sp) (dvs:List V) (E:XK) (t:TA):TE:=fun σ H Q=>t σ H fun vs H1=>∀ x dx,H1 x=none->H1 dx=none->dx≠x ->
  sp (.ref x :: (vs++dvs)) (upd (upd H1 dx (.own x)) x (.ins C dx [])) (fun v H2=>v=.non/\Q (.ref x) H2) E
def Binds (K:PySem.W.Frag) (fd:FuncData) (ps:List Str) (ds:List Value):Prop :=
  ∀ (s:Shared) (us:List Value),K.In s.heap->(us++ds).length=ps.length->BindsTo s fd ⟨us,[]⟩ (ps.zip (us++ds))
theorem Binds.all {K:PySem.W.Frag} {fd:FuncData} {ps:List Str} (h : ∀ us:List Value,us.length=ps.length->bindArgs fd ⟨us,[]⟩=pure (ps.zip us)):Binds K fd ps []:=fun s us _ hl=>by
  rw [List.append_nil] at hl ⊢
  exact .of_eq (h us hl)
def Passes (CX:CXT) (X:Cx) (E:XK):Prop:=∀ (pins:List (Addr × Obj)) (σ:St) (H:Hp) (s:Shared) (e:Value) (s':Shared),Inv X pins σ H s->CX X.stack H s E e s'->X.xe e s'
section
variable {X:Cx} {CX:CXT} {k:Nat} {f C:Addr} {fd:FuncData} {ps:List Str} {sp:Sp} {dvs:List V} {ds:List Value} {E:XK} {x m:Str} {p pos apos:Pos} {e o:Expr} {es:List Expr} {ta:TE} {t:TA}
theorem run_fn {pins:List (Addr × Obj)} {σ:St} {H:Hp} {s:Shared} {Q:VK} {us:List Value} {vs:List V} (F:FnOk X.prog X.w X.K X.mg X.base CX k f fd ps sp) (hr:Room k X.A) (hb:Binds X.K fd ps ds) (hd:Vals dvs ds) (hx:Passes CX X E)
    (I:Inv X pins σ H s) (r:Vals vs us) (h:sp (vs++dvs) H Q E):wpAny (model X.prog X.w) X.A (call (.ref f) us) (EP X pins σ Q) X.xe s:=by
  have r2:Vals (vs++dvs) (us++ds):=r.append hd
  have hl:(us++ds).length=ps.length:=by rw [<- r2.length]; exact F.len _ _ _ _ h
  refine wpAny_call (codeAny_mono (F.run X.A X.stack s H ⟨us,[]⟩ (us++ds) (vs++dvs) Q E hr I.env0 (hb s us I.kIn hl) r2 h) fun r s' hq=>?_)
  cases r with
  | error e=>exact hx pins σ H s e s' I hq
  | ok fl =>
    cases fl with
    | ret u=>exact I.after hq
    | next=>exact False.elim hq
    | brk=>exact False.elim hq
    | cont=>exact False.elim hq
theorem pe_call (F:FnOk X.prog X.w X.K X.mg X.base CX k f fd ps sp) (hr:Room k X.A) (hg:Gl X x) (hm:X.mg x=some (.ref f)) (hk:PySem.W.keepIn X.K (.ref f)=true) (hb:Binds X.K fd ps ds) (hd:Vals dvs ds) (hx:Passes CX X E)
    (ha:PA X (e :: es) t) (hdb:(x == ("__debug__" : Str))=false:=by decide) (he:starEach (e :: es) X.env=(false,eval e X.env) :: starEach es X.env:=by rfl) (hpl:(backTo pos (starEach es X.env)).any (·.1)=false:=by rfl) :
    PE X (.Call (.Name x p) (e :: es) [] pos) (tCall sp dvs E t):=by
  intro pins s σ H Q I h
  refine wpAny_Call_Name_kw (ld_glob I hg hm ?_ hdb)
  refine PySem.W.callWith_K (h₀:=X.base) I.ok.mod.kin hk (thn (ha pos pins s σ H _ I h) fun us s1 ⟨vs,H1,I1,r,q⟩=>⟨I1.kIn,?_⟩) he hpl
  exact run_fn F hr hb hd hx I1 r q
theorem pe_meth {pl:Sem Bool} (he:PE X o ta) (c:Cls X.K C) (hm:Meth X.K C m f) (F:FnOk X.prog X.w X.K X.mg X.base CX k f fd ps sp) (hr:Room k X.A) (hb:Binds X.K fd ps ds) (hd:Vals dvs ds) (hx:Passes CX X E) (ha:PA X (e :: es) t)
    (hst:starEach (e :: es) X.env=(false,eval e X.env) :: starEach es X.env:=by rfl) (hpl:(backTo pos (starEach es X.env)).any (·.1)=false:=by rfl)
    (ht:eval (.Call (.Attribute o m apos) (e :: es) [] pos) X.env=(do
      let ov <- eval o X.env
      standAt apos.atName
      let (f,first) <- holding [ov] (getMethod ov m pl)
      callWith pos f first (backTo pos (starEach (e :: es) X.env)) (backToKw pos (keywordEach [] X.env))):=by rfl) :
    PE X (.Call (.Attribute o m apos) (e :: es) [] pos) (tMeth C m sp dvs E ta t):=by
  intro pins s σ H Q I h
  refine PySem.W.methodCall_KW (pl:=pl) (thn (he pins s σ H _ I h) fun u s1 ⟨x,H1,I1,rx,a,dx,fs,ex,ea,l,q⟩=>?_) ht
  subst ex
  obtain rfl:u=Value.ref a:=rx
  refine getmeth_ok I1 ea c hm l ?_
  refine PySem.W.callWith_K (first:=[.ref a]) (h₀:=X.base) I.ok.mod.kin hm.kp (thn (ha pos pins s1 σ H1 _ I1 q) fun us s2 ⟨vs,H2,I2,r,q2⟩=>⟨I2.kIn,?_⟩) hst hpl
  exact run_fn (us:=.ref a :: us) (vs:=.ref a :: vs) F hr hb hd hx I2 (.cons rfl r) q2
theorem pe_meth0 {pl:Sem Bool} (he:PE X o ta) (c:Cls X.K C) (hm:Meth X.K C m f) (F:FnOk X.prog X.w X.K X.mg X.base CX k f fd ps sp) (hr:Room k X.A) (hb:Binds X.K fd ps ds) (hd:Vals dvs ds) (hx:Passes CX X E)
    (ht:eval (.Call (.Attribute o m apos) [] [] pos) X.env=(do
      let ov <- eval o X.env
      standAt apos.atName
      let (f,first) <- holding [ov] (getMethod ov m pl)
      callWith pos f first (backTo pos (starEach [] X.env)) (backToKw pos (keywordEach [] X.env))):=by rfl) :
    PE X (.Call (.Attribute o m apos) [] [] pos) (tMeth C m sp dvs E ta tNil):=by
  intro pins s σ H Q I h
  refine PySem.W.methodCall_KW (pl:=pl) (thn (he pins s σ H _ I h) fun u s1 ⟨x,H1,I1,rx,a,dx,fs,ex,ea,l,q⟩=>?_) ht
  subst ex
  obtain rfl:u=Value.ref a:=rx
  refine getmeth_ok I1 ea c hm l ?_
  exact PySem.W.callWith_K0 (first:=[.ref a]) I1.kIn hm.kp (run_fn (us:=[.ref a]) (vs:=[.ref a]) F hr hb hd hx I1 (.cons rfl .nil) q)
structure Mk (K:PySem.W.Frag) (C f:Addr):Prop where
  makes:PySem.W.makesIn K C=true
  init:PySem.W.findIn K (.ref C) "__init__" = some (some (.ref f))
  fn:PySem.W.isFn K (.ref f)=true
  kp:PySem.W.keepIn K (.ref C)=true
theorem run_make {pins:List (Addr × Obj)} {σ:St} {H:Hp} {s:Shared} {Q:VK} {us:List Value} {vs:List V} (M:Mk X.K C f) (F:FnOk X.prog X.w X.K X.mg X.base CX k f fd ps sp) (hr:Room (k+1) X.A) (hb:Binds X.K fd ps ds) (hd:Vals dvs ds)
    (hx:Passes CX X E) (I:Inv X pins σ H s) (r:Vals vs us)
    (h : ∀ x dx,H x=none->H dx=none->dx≠x->sp (.ref x :: (vs++dvs)) (upd (upd H dx (.own x)) x (.ins C dx [])) (fun v H2=>v=.non/\Q (.ref x) H2) E) :
    wpAny (model X.prog X.w) X.A (call (.ref C) us) (EP X pins σ Q) X.xe s:=by
  have hq:=h (s.heap.objs.size+1) s.heap.objs.size (I.hok.fresh (Nat.le_succ _)) (I.hok.fresh (Nat.le_refl _)) (Nat.ne_of_lt (Nat.lt_succ_self _))
  have I2:=Inv.made (C:=C) I
  have r2:Vals (V.ref (s.heap.objs.size+1) :: (vs++dvs)) (Value.ref (s.heap.objs.size+1) :: (us++ds)):=.cons rfl (r.append hd)
  have hl:(Value.ref (s.heap.objs.size+1) :: us++ds).length=ps.length:=by
    have e:=r2.length
    rw [F.len _ _ _ _ hq] at e
    exact e.symm
  refine wpAny_call (make_map (f:=f) I.kIn M.makes M.init (beq_iff_eq.mp M.fn) (codeAny_mono (F.run _ X.stack _ _ ⟨Value.ref (s.heap.objs.size+1) :: us,[]⟩ (Value.ref (s.heap.objs.size+1) :: (us++ds)) _ _ E (hr.make C us [])
    (I2.env0.make C us []) (hb _ (Value.ref (s.heap.objs.size+1) :: us) I2.kIn hl) r2 hq) fun r s' hq'=>?_))
  cases r with
  | error e=>exact hx pins σ _ _ e s' I2 hq'
  | ok fl =>
    cases fl with
    | ret u =>
      obtain ⟨v,H',I3,rv,ev,q3⟩:=I2.after hq'
      subst ev
      exact ⟨rv,⟨V.ref (s.heap.objs.size+1),H',I3,rfl,q3⟩⟩
    | next=>exact False.elim hq'
    | brk=>exact False.elim hq'
    | cont=>exact False.elim hq'
theorem pe_make (M:Mk X.K C f) (F:FnOk X.prog X.w X.K X.mg X.base CX k f fd ps sp) (hr:Room (k+1) X.A) (hg:Gl X x) (hm:X.mg x=some (.ref C)) (hb:Binds X.K fd ps ds) (hd:Vals dvs ds) (hx:Passes CX X E)
    (ha:PA X (e :: es) t) (hdb:(x == ("__debug__" : Str))=false:=by decide) (he:starEach (e :: es) X.env=(false,eval e X.env) :: starEach es X.env:=by rfl) (hpl:(backTo pos (starEach es X.env)).any (·.1)=false:=by rfl) :
    PE X (.Call (.Name x p) (e :: es) [] pos) (tMake C sp dvs E t):=by
  intro pins s σ H Q I h
  refine wpAny_Call_Name_kw (ld_glob I hg hm ?_ hdb)
  refine PySem.W.callWith_K (h₀:=X.base) I.ok.mod.kin M.kp (thn (ha pos pins s σ H _ I h) fun us s1 ⟨vs,H1,I1,r,q⟩=>⟨I1.kIn,?_⟩) he hpl
  exact run_make M F hr hb hd hx I1 r q
end
section
variable {X:Cx} {CX:CXT} {k:Nat} {f C:Addr} {fd:FuncData} {ps ks:List Str} {sp:Sp} {E:XK} {x m:Str} {p pos apos kpos:Pos} {e o:Expr} {es:List Expr} {kws:List Keyword} {te ta:TE} {t tk:TA} {nm:Option Str}
structure KBinds (K:PySem.W.Frag) (fd:FuncData) (ps ks:List Str) (g:List Value->List Value->List Value) (gV:List V->List V->List V):Prop where
  to : ∀ (s:Shared) (us ws:List Value),K.In s.heap->(g us ws).length=ps.length->BindsTo s fd ⟨us,ks.zip ws⟩ (ps.zip (g us ws))
  rel : ∀ {vs:List V} {us:List Value} {zs:List V} {ws:List Value},Vals vs us->Vals zs ws->Vals (gV vs zs) (g us ws)
variable {g:List Value->List Value->List Value} {gV:List V->List V->List V}
end
structure FnScope (N P:List Str) (sc:Scope):Prop where
  kind:sc.kind=.function
  co:sc.isCoroutine=false
  gen:sc.isGenerator=false
  nd:N.Nodup
  pre:N.take P.length=P
  par : ∀ x∈P,sc.names.lookup x=some .local\/sc.names.lookup x=some .cell
  nofree : ∀ y∈sc.names,y.2 ≠ .free
theorem bindL_out {kindOf:Str->Option NameKind} {x:Str} : ∀ {binds:List (Str × Value)} {m:Str->Option Value},(∀ v,(x,v)∉binds)->bindL kindOf binds m x=m x
  | [],_,_=>rfl
  | (n,v) :: r,m,h=>by
    unfold bindL
    rw [bindL_out fun w hw=>h w (List.mem_cons_of_mem _ hw)]
    split
    · have:x≠n:=by rintro rfl; exact h v List.mem_cons_self
      simp [this]
    · rfl
theorem bindC_out {kindOf:Str->Option NameKind} {x:Str} : ∀ {binds:List (Str × Value)} {m:Str->Option Value},(∀ v,(x,v)∉binds)->bindC kindOf binds m x=m x
  | [],_,_=>rfl
  | (n,v) :: r,m,h=>by
    unfold bindC
    rw [bindC_out fun w hw=>h w (List.mem_cons_of_mem _ hw)]
    split
    · rfl
    · have:x≠n:=by rintro rfl; exact h v List.mem_cons_self
      simp [this]
theorem bindL_get {kindOf:Str->Option NameKind} {x:Str} {v:Value} : ∀ {P:List Str} {vs:List Value} {i:Nat} {m:Str->Option Value},P.Nodup->P[i]? = some x->vs[i]? = some v->kindOf x=some .local ->
    bindL kindOf (P.zip vs) m x=some v
  | [],_,_,_,_,h,_,_=>by simp at h
  | _ :: _,[],_,_,_,_,h,_=>by simp at h
  | p :: P,w :: vs,0,m,nd,h1,h2,hk=>by
    simp at h1 h2; subst h1; subst h2
    show bindL kindOf ((p,w) :: P.zip vs) m p=_
    unfold bindL
    rw [bindL_out fun v hv=>(List.nodup_cons.mp nd).1 (List.of_mem_zip hv).1,if_pos hk]
    simp
  | p :: P,w :: vs,i+1,m,nd,h1,h2,hk=>by
    show bindL kindOf ((p,w) :: P.zip vs) m x=_
    unfold bindL
    exact bindL_get (i:=i) (List.nodup_cons.mp nd).2 (by simpa using h1) (by simpa using h2) hk
theorem bindC_get {kindOf:Str->Option NameKind} {x:Str} {v:Value} : ∀ {P:List Str} {vs:List Value} {i:Nat} {m:Str->Option Value},P.Nodup->P[i]? = some x->vs[i]? = some v->kindOf x≠some .local ->
    bindC kindOf (P.zip vs) m x=some v
  | [],_,_,_,_,h,_,_=>by simp at h
  | _ :: _,[],_,_,_,_,h,_=>by simp at h
  | p :: P,w :: vs,0,m,nd,h1,h2,hk=>by
    simp at h1 h2; subst h1; subst h2
    show bindC kindOf ((p,w) :: P.zip vs) m p=_
    unfold bindC
    rw [bindC_out fun v hv=>(List.nodup_cons.mp nd).1 (List.of_mem_zip hv).1,if_neg hk]
    simp
  | p :: P,w :: vs,i+1,m,nd,h1,h2,hk=>by
    show bindC kindOf ((p,w) :: P.zip vs) m x=_
    unfold bindC
    exact bindC_get (i:=i) (List.nodup_cons.mp nd).2 (by simpa using h1) (by simpa using h2) hk
def start (N:List Str) (vs:List V):St:=vs.map some++List.replicate (N.length - vs.length) none
def cxOf (CX:CXT) (P:Program) (w:World) (K:PySem.W.Frag) (mg:Str->Option Value) (base:Heap) (N:List Str) (qual:Str) (scope:Scope) (f:Addr) (cd:Value) (A:Around) (outer:List Env) (s:Shared) (H:Hp) (E:XK):Cx where
  prog:=P
  w:=w
  K:=K
  mg:=mg
  base:=base
  A:=A.deeper (envOfC qual scope s.heap.objs.size f cd)
  N:=N
  s₀:=s
  H₀:=H
  env:=envOfC qual scope s.heap.objs.size f cd
  outer:=outer
  stack:=envOfC qual scope s.heap.objs.size f cd :: outer
  ex:=[]
  calm:=true
  fn:=fun _=>true
  pn:=[]
  xe:=fun e s'=>wpAny (model P w) (A.deeper (envOfC qual scope s.heap.objs.size f cd)) (leaving (envOfC qual scope s.heap.objs.size f cd) e) (fun _ s''=>CX outer H s E e s'') (fun e' s''=>CX outer H s E e' s'') s'
theorem cell_has {sc:Scope} {n:Nat} {x:Str} (h:sc.names.lookup x=some .cell) : ∃ c,(cellsFrom n sc.names []).lookup x=some c:=by
  have q:=PySem.W.cellsFrom_some sc.names n [] (.inl h)
  exact Option.isSome_iff_exists.mp q
theorem inv_start {CX:CXT} {P:Program} {w:World} {K:PySem.W.Frag} {mg:Str->Option Value} {base:Heap} {N ps:List Str} {qual:Str} {scope:Scope} {f:Addr} {cd:Value} {A:Around} {outer:List Env} {s s1:Shared} {H:Hp} {E:XK} {us:List Value} {vs:List V}
    (S:FnScope N ps scope) (hd:A.handled=none) (e0:Env0 P w K mg base A outer s H) (hl:vs.length=ps.length) (r:Vals vs us)
    (x:InCallC s s.heap.objs.size (bindL (envOfC qual scope s.heap.objs.size f cd).kindOf (ps.zip us) fun _=>none) (cellsFrom (s.heap.objs.size+1) scope.names []) (bindC (envOfC qual scope s.heap.objs.size f cd).kindOf (ps.zip us) fun _=>none) s1) :
    Inv (cxOf CX P w K mg base N qual scope f cd A outer s H E) [] (start N vs) H s1:=by
  have hpl:ps.length<=N.length:=by have:=congrArg List.length S.pre; rw [List.length_take] at this; omega
  obtain ⟨h1,tk,rfl,hk⟩:=x.done
  have noA : ∀ b:Addr,b∉(cxOf CX P w K mg base N qual scope f cd A outer s H E).ex:=fun b z=>absurd (show b∈([]:List Addr) from z) (by simp)
  refine ⟨⟨e0.mod,S.kind,rfl,rfl,Nat.le_refl _,fun y z c h1 h2=>?_,fun y hy=>?_,fun y c _ h=>?_,fun _=>hd,Around.frames_deeper e0.frames,.inr ⟨rfl,rfl⟩,fun b z=>absurd z (noA b),e0.bs,e0.bsz,fun b _ _=>noA b,fun b z=>absurd z (noA b),e0.funs,e0.frf⟩,
    rfl,e0.bare,Un.kept hk,⟨_,x.toInCall.ns,fun i y v h1 h2 h3=>?_⟩,fun y c h=>⟨_,x.cell y c h⟩,e0.hok.fresh (Nat.le_refl _),fun y c h=>?_,fun p hp=>absurd (show p∈([]:List (Addr × Obj)) from hp) (by simp),e0.hok.kept hk,?_⟩
  · exact name_of_addr x.apart (PySem.mem_of_lookup h1) (PySem.mem_of_lookup h2)
  · have hy:scope.names.lookup y=some .cell\/scope.names.lookup y=some .free:=hy
    rcases hy with hy | hy
    · exact cell_has hy
    · exact absurd rfl (S.nofree _ (PySem.mem_of_lookup hy))
  · exact Nat.le_of_lt (x.above y c (PySem.mem_of_lookup h))
  · have hi:i < vs.length:=by
      unfold start at h2
      by_cases hi:i < vs.length
      · exact hi
      · rw [List.getElem?_append_right (by simpa using hi)] at h2
        rw [List.getElem?_replicate] at h2
        split at h2 <;> cases h2
    have ha:vs[i]? = some v:=by
      unfold start at h2
      rw [List.getElem?_append_left (by simpa using hi),List.getElem?_map] at h2
      cases e:vs[i]? with
      | none=>rw [e] at h2; cases h2
      | some a=>rw [e] at h2; cases h2; rfl
    obtain ⟨u,hu,rv⟩:=r.get ha
    have hp:ps[i]? = some y:=by
      rw [<- S.pre,List.getElem?_take_of_lt (by omega)]; exact h1
    have ndP:ps.Nodup:=by rw [<- S.pre]; exact S.nd.sublist (List.take_sublist _ _)
    refine ⟨u,rv,?_⟩
    rcases S.par y (List.mem_of_getElem? hp) with k | k
    · exact .inl ⟨k,bindL_get ndP hp hu k⟩
    · obtain ⟨c,e⟩:=cell_has (n:=s.heap.objs.size+1) k
      refine .inr ⟨.inl k,c,e,?_⟩
      have q:=x.cell y c e
      rw [bindC_get ndP hp hu (by show scope.names.lookup y≠_; rw [k]; decide)] at q
      exact q
  · exact e0.hok.fresh (Nat.le_of_lt (x.above y c (PySem.mem_of_lookup h)))
  · unfold start
    show _=N.length
    rw [List.length_append,List.length_map,List.length_replicate]
    omega
theorem fn_of {CX:CXT} {P:Program} {w:World} {K:PySem.W.Frag} {mg:Str->Option Value} {base:Heap} {k:Nat} {f:Addr} {name qual:Str} {params:Arguments} {body:List Stmt} {scope:Scope} {dV kV doc pm cdv ct oc:Value} {an od:Option Addr}
    {osl:Array (Option Value)} {N ps:List Str} {sp:Sp} (lk:K.lookup f=some ⟨oc,od,.func (PySem.W.fnOf name qual params body scope dV kV doc pm an cdv ct),osl⟩) (hcd:PySem.W.codeIn K cdv qual=true) (S:FnScope N ps scope)
    (len : ∀ vs H Q E,sp vs H Q E->vs.length=ps.length)
    (hbody : ∀ (A:Around) (outer:List Env) (s:Shared) (H:Hp) (vs:List V) (Q:VK) (E:XK),Room k (A.deeper (envOfC qual scope s.heap.objs.size f cdv))->sp vs H Q E ->
      ∃ t,PSs (cxOf CX P w K mg base N qual scope f cdv A outer s H E) body t/\t { nx:=fun _ H'=>Q .non H',rt:=Q } (start N vs) H) :
    FnOk P w K mg base CX (k+1) f (PySem.W.fnOf name qual params body scope dV kV doc pm an cdv ct) ps sp:=by
  refine ⟨len,fun A outer s H args us vs Q E hr e0 hb r hsp=>?_⟩
  have hl:=len _ _ _ _ hsp
  have KX:K.In s.heap:=e0.mod.kin.keeps fun b o e=>(e0.bs b o e).1
  have lim:s.heap.NoLimit:=e0.mod.nolimit.keeps fun b o e=>(e0.bs b o e).1
  have hkind : ∀ y∈ps.zip us,scope.names.lookup y.1=some .local\/(scope.names.lookup y.1=some .cell/\((cellsFrom (s.heap.objs.size+1) scope.names []).lookup y.1).isSome=true):=fun ⟨n,v⟩ hy=>by
    rcases S.par n (List.of_mem_zip hy).1 with q | q
    · exact .inl q
    · exact .inr ⟨q,PySem.W.cellsFrom_some _ _ _ (.inl q)⟩
  refine codeAny_call_function hr.depth (KX _ _ lk) rfl S.co S.gen rfl (PySem.W.codeRec_of KX hcd) (hb _ _ _ _ ?_)
  refine wpAny_newFunctionEnv_cells S.kind hkind fun env he s1 x=>?_
  subst he
  refine ⟨lim.keeps x.toInCall.keep,codeAny_func ?_⟩
  obtain ⟨t,ht,hq⟩:=hbody A outer s H vs Q E (hr.deeper _) hsp
  have I:Inv (cxOf CX P w K mg base N qual scope f cdv A outer s H E) [] (start N vs) H s1:=inv_start S hr.hd e0 hl r x
  refine wpAny_mono (ht [] s1 (start N vs) H _ I hq) (fun fl s' hs=>?_) fun e s' hs=>hs
  have fin : ∀ {σ':St} {H':Hp} {v:V} {u:Value},Inv (cxOf CX P w K mg base N qual scope f cdv A outer s H E) [] σ' H' s'->RelV v u->Q v H'->CE outer P w H s Q u s' :=
    fun {σ' H' v u} J rv q=>⟨v,H',J.os,J.bare,J.base,J.hok,rv,q⟩
  cases fl with
  | ret u =>
    obtain ⟨v,σ',H',J,rv,q⟩:=hs
    exact fin J rv q
  | next =>
    obtain ⟨σ',H',J,q⟩:=hs
    exact fin (v:=V.non) (u:=Value.none) J rfl q
  | brk =>
    obtain ⟨_,_,_,q⟩:=hs
    exact False.elim q
  | cont =>
    obtain ⟨_,_,_,q⟩:=hs
    exact False.elim q
end L2
namespace L2
open PySem PySem.Spec PyProof.Rows
section
variable {X:Cx} {x:Str} {p pos:Pos} {e:Expr} {es:List Expr} {t:TA} {id T:String} {r:List V->Hp->VK->Prop}
def tCB (r:List V->Hp->VK->Prop) (t:TA):TE:=fun σ H Q=>t σ H fun vs H1=>r vs H1 Q
theorem pe_callB (hc:CallR X (.builtin id) r) (hg:Gl X x) (hm:X.mg x=none) (hv:bootBuiltins x=some (.builtin id)) (ha:PA X (e :: es) t) (hn:x ≠ "__name__":=by decide) (hdb:(x == ("__debug__" : Str))=false:=by decide)
    (he:starEach (e :: es) X.env=(false,eval e X.env) :: starEach es X.env:=by rfl) (hpl:(backTo pos (starEach es X.env)).any (·.1)=false:=by rfl):PE X (.Call (.Name x p) (e :: es) [] pos) (tCB r t):=by
  intro pins s σ H Q I h
  refine wpAny_Call_Name_kw (ld_blt I hg hm hv ?_ hn hdb)
  exact PyProof.Rows.callWith_builtin1 (thn (ha pos pins s σ H _ I h) fun us s1 ⟨vs,H1,I1,r1,q1⟩=>hc pins s1 σ H1 vs us Q I1 r1 q1) he hpl
theorem pe_callTy (hc:CallR X (.type T) r) (hg:Gl X x) (hm:X.mg x=none) (hv:bootBuiltins x=some (.type T)) (ha:PA X (e :: es) t) (hn:x ≠ "__name__":=by decide) (hdb:(x == ("__debug__" : Str))=false:=by decide)
    (he:starEach (e :: es) X.env=(false,eval e X.env) :: starEach es X.env:=by rfl) (hpl:(backTo pos (starEach es X.env)).any (·.1)=false:=by rfl):PE X (.Call (.Name x p) (e :: es) [] pos) (tCB r t):=by
  intro pins s σ H Q I h
  refine wpAny_Call_Name_kw (ld_blt I hg hm hv ?_ hn hdb)
  exact PyProof.Rows.callWith_type1 (thn (ha pos pins s σ H _ I h) fun us s1 ⟨vs,H1,I1,r1,q1⟩=>hc pins s1 σ H1 vs us Q I1 r1 q1) he hpl
end
end L2
namespace L2
open PySem PySem.Spec PyProof.Rows
section
variable {κ:Type} [DecidableEq κ]
def valV (kvs:List (κ × V)) (k:κ):Option V:=(kvs.find? fun kv=>decide (kv.1=k)).map (·.2)
def putK (kvs:List (κ × V)) (k:κ) (v:V):List (κ × V) :=
  if (kvs.any fun kv=>decide (kv.1=k))=true then kvs.map (fun kv=>if kv.1=k then (kv.1,v) else kv) else kvs++[(k,v)]
theorem valV_pos {p:κ × V} {r:List (κ × V)} {k:κ} (e:p.1=k):valV (p :: r) k=some p.2:=by simp [valV,List.find?_cons,e]
theorem valV_neg {p:κ × V} {r:List (κ × V)} {k:κ} (e : ¬ p.1=k):valV (p :: r) k=valV r k:=by simp [valV,List.find?_cons,e]
theorem valV_any (k:κ) : ∀ kvs:List (κ × V),(kvs.any fun kv=>decide (kv.1=k))=(valV kvs k).isSome
  | []=>rfl
  | p :: r=>by
    rw [List.any_cons]
    by_cases e:p.1=k
    · simp only [valV_pos e,decide_eq_true e,Bool.true_or,Option.isSome_some]
    · rw [valV_neg e,decide_eq_false e,Bool.false_or]; exact valV_any k r
theorem valV_map (k j:κ) (y:V) : ∀ kvs:List (κ × V),valV (kvs.map fun kv=>if kv.1=k then (kv.1,y) else kv) j=(valV kvs j).map fun x=>if j=k then y else x
  | []=>rfl
  | p :: r=>by
    have ih:=valV_map k j y r
    rw [List.map_cons]
    by_cases h:p.1=k
    · rw [if_pos h]
      by_cases e:p.1=j
      · rw [valV_pos (p:=(p.1,y)) e,valV_pos e,Option.map_some,if_pos (e.symm.trans h)]
      · rw [valV_neg (p:=(p.1,y)) e,valV_neg e,ih]
    · rw [if_neg h]
      by_cases e:p.1=j
      · rw [valV_pos (p:=p) e,valV_pos e,Option.map_some,if_neg (fun z=>h (e.trans z))]
      · rw [valV_neg (p:=p) e,valV_neg e,ih]
theorem valV_snoc (k j:κ) (y:V) : ∀ kvs:List (κ × V),valV kvs k=none->valV (kvs++[(k,y)]) j=if j=k then some y else valV kvs j
  | [],_=>by
    by_cases e:k=j
    · rw [if_pos e.symm]; exact valV_pos (p:=(k,y)) e
    · rw [if_neg (fun z=>e z.symm)]; exact valV_neg (p:=(k,y)) e
  | p :: r,hn=>by
    rw [List.cons_append]
    have hk : ¬ p.1=k:=fun z=>by rw [valV_pos z] at hn; cases hn
    rw [valV_neg hk] at hn
    have ih:=valV_snoc k j y r hn
    by_cases e:p.1=j
    · rw [valV_pos e,valV_pos e,if_neg (fun z=>hk (e.trans z))]
    · rw [valV_neg e,valV_neg e,ih]
theorem valV_put (kvs:List (κ × V)) (k j:κ) (y:V):valV (putK kvs k y) j=if j=k then some y else valV kvs j:=by
  unfold putK
  by_cases a:(kvs.any fun kv=>decide (kv.1=k))=true
  · rw [if_pos a,valV_map]
    rw [valV_any] at a
    by_cases e:j=k
    · obtain ⟨x,hx⟩:=Option.isSome_iff_exists.mp a
      rw [if_pos e,e,hx,Option.map_some,if_pos rfl]
    · rw [if_neg e]
      cases valV kvs j with
      | none=>rfl
      | some x=>rw [Option.map_some,if_neg e]
  · rw [if_neg a]
    refine valV_snoc k j y kvs ?_
    rw [valV_any] at a
    cases q:valV kvs k with
    | none=>rfl
    | some x=>rw [q] at a; exact (a rfl).elim
theorem length_putK (kvs:List (κ × V)) (k:κ) (v:V):(putK kvs k v).length<=kvs.length+1:=by
  unfold putK
  split
  · rw [List.length_map]; omega
  · rw [List.length_append,List.length_cons,List.length_nil]; omega
theorem putK_new {kvs:List (κ × V)} {k:κ} (v:V) (h:valV kvs k=none):putK kvs k v=kvs++[(k,v)]:=by
  unfold putK
  rw [valV_any,h]
  exact if_neg (by decide)
theorem RelO.isSome_eq {o:Option V} {u:Option Value} (r:RelO o u):o.isSome=u.isSome:=by
  cases o with
  | none=>cases u with
    | none=>rfl
    | some _=>exact (show False from r).elim
  | some _=>cases u with
    | none=>exact (show False from r).elim
    | some _=>rfl
theorem RelO.getD {o:Option V} {u:Option Value} {d:V} {d':Value} (r:RelO o u) (rd:RelV d d'):RelV (o.getD d) (u.getD d'):=by
  cases o with
  | none=>cases u with
    | none=>exact rd
    | some _=>exact (show False from r).elim
  | some _=>cases u with
    | none=>exact (show False from r).elim
    | some _=>exact r
theorem KV.val {kvs:List (κ × V)} {vs:List (κ × Value)} (r:KV kvs vs) (k:κ):RelO (valV kvs k) (valueAt vs k):=by
  unfold KV at r
  induction r with
  | nil=>exact True.intro
  | @cons p q ps qs h t ih =>
    obtain ⟨h1,h2⟩:=h
    by_cases e:p.1=k
    · have e':q.1=k:=h1.symm.trans e
      have b:valueAt (q :: qs) k=some q.2:=by simp [valueAt,List.find?_cons,e']
      rw [valV_pos e,b]; exact h2
    · have e' : ¬ q.1=k:=fun z=>e (h1.trans z)
      have b:valueAt (q :: qs) k=valueAt qs k:=by simp [valueAt,List.find?_cons,e']
      rw [valV_neg e,b]; exact ih
theorem KV.any {kvs:List (κ × V)} {vs:List (κ × Value)} (r:KV kvs vs) (k:κ):(kvs.any fun kv=>decide (kv.1=k))=vs.any fun kv=>decide (kv.1=k):=by
  unfold KV at r
  induction r with
  | nil=>rfl
  | cons h t ih=>rw [List.any_cons,List.any_cons,ih,h.1]
theorem KV.repl {kvs:List (κ × V)} {vs:List (κ × Value)} (r:KV kvs vs) (k:κ) {y:V} {u:Value} (ry:RelV y u) :
    KV (kvs.map fun kv=>if kv.1=k then (kv.1,y) else kv) (vs.map fun kv=>if kv.1=k then (kv.1,u) else kv):=by
  unfold KV at r ⊢
  induction r with
  | nil=>exact .nil
  | @cons p q ps qs h t ih =>
    rw [List.map_cons,List.map_cons]
    refine .cons ?_ ih
    obtain ⟨h1,h2⟩:=h
    by_cases e:p.1=k
    · rw [if_pos e,if_pos (h1.symm.trans e)]; exact ⟨h1,ry⟩
    · rw [if_neg e,if_neg (fun z=>e (h1.trans z))]; exact ⟨h1,h2⟩
theorem KV.put {kvs:List (κ × V)} {vs:List (κ × Value)} (r:KV kvs vs) (k:κ) {y:V} {u:Value} (ry:RelV y u):KV (putK kvs k y) (stored vs k u):=by
  unfold putK stored
  rw [r.any k]
  by_cases e:(vs.any fun kv=>decide (kv.1=k))=true
  · rw [if_pos e,if_pos e]; exact r.repl k ry
  · rw [if_neg e,if_neg e]; exact Paired.snoc r ⟨rfl,ry⟩
theorem KV.length {kvs:List (κ × V)} {vs:List (κ × Value)} (r:KV kvs vs):kvs.length=vs.length:=Paired.length r
end
theorem kV_is {P:Program} {w:World} {k:Key} {u:Value} (r:RelV (kV k) u):(mixKind P w).is k u=true:=by
  cases k with
  | inl i=>obtain ⟨t,e⟩:=(show ∃ t,u=Value.int i t from r); subst e; exact mixKind_int P w i t
  | inr x=>obtain ⟨t,e⟩:=(show ∃ t,u=Value.str x t from r); subst e; exact mixKind_str P w x t
theorem items_are {P:Program} {w:World} : ∀ {ks:List Key} {us:List Value},Vals (ks.map kV) us->ItemsAre (mixKind P w) ks us
  | [],_,r=>by rw [List.map_nil] at r; cases r; exact .nil
  | k :: ks,_,r=>by
    rw [List.map_cons] at r
    cases r with
    | cons h t=>exact .cons (kV_is h) (items_are t)
abbrev KT (H:Hp):List (List Key × V)->List (List Key × Addr × Value)->Prop:=Paired fun p q=>p.1=q.1/\H q.2.1=some (.tup (p.1.map kV))/\RelV p.2 q.2.2
theorem KT.val {H:Hp} {kvs:List (List Key × V)} {xs:List (List Key × Addr × Value)} (r:KT H kvs xs) (k:List Key):RelO (valV kvs k) ((atKey xs k).map (·.2)):=by
  induction r with
  | nil=>exact True.intro
  | @cons p q ps qs h t ih =>
    obtain ⟨h1,_,h2⟩:=h
    by_cases e:p.1=k
    · have e':q.1=k:=h1.symm.trans e
      have b:atKey (q :: qs) k=some q.2:=by simp [atKey,List.find?_cons,e']
      rw [valV_pos e,b]; exact h2
    · have e' : ¬ q.1=k:=fun z=>e (h1.trans z)
      have b:atKey (q :: qs) k=atKey qs k:=by simp [atKey,List.find?_cons,e']
      rw [valV_neg e,b]; exact ih
theorem KT.repl {H:Hp} {kvs:List (List Key × V)} {xs:List (List Key × Addr × Value)} (r:KT H kvs xs) (k:List Key) {y:V} {u:Value} (ry:RelV y u) :
    KT H (kvs.map fun kv=>if kv.1=k then (kv.1,y) else kv) (xs.map (putAt k u)):=by
  induction r with
  | nil=>exact .nil
  | @cons p q ps qs h t ih =>
    rw [List.map_cons,List.map_cons]
    refine .cons ?_ ih
    obtain ⟨h1,h2,h3⟩:=h
    unfold putAt
    by_cases e:p.1=k
    · rw [if_pos e,if_pos (h1.symm.trans e)]; exact ⟨h1,h2,ry⟩
    · rw [if_neg e,if_neg (fun z=>e (h1.trans z))]; exact ⟨h1,h2,h3⟩
theorem KT.put {H:Hp} {kvs:List (List Key × V)} {xs:List (List Key × Addr × Value)} (r:KT H kvs xs) (k:List Key) {b:Addr} {y:V} {u:Value} (hb:H b=some (.tup (k.map kV))) (ry:RelV y u) :
    KT H (putK kvs k y) (storedH xs k b u):=by
  have e:(kvs.any fun kv=>decide (kv.1=k))=(atKey xs k).isSome:=by
    rw [valV_any,(r.val k).isSome_eq,Option.isSome_map]
  unfold putK storedH
  rw [e]
  by_cases q:(atKey xs k).isSome=true
  · rw [if_pos q,if_pos q]; exact r.repl k ry
  · rw [if_neg q,if_neg q]; exact Paired.snoc r ⟨rfl,hb,ry⟩
theorem KT.keeps {H H':Hp} {kvs:List (List Key × V)} {xs:List (List Key × Addr × Value)} (r:KT H kvs xs) (ht : ∀ b ys,H b=some (.tup ys)->H' b=some (.tup ys)):KT H' kvs xs :=
  Paired.mapP r fun _ _ z=>⟨z.1,ht _ _ z.2.1,z.2.2⟩
section
variable {P:Program} {w:World} {H:Hp} {h:Heap} {a:Addr}
theorem rd_of {u:HO} (ok:HOk P w H h) (e:Rd H a u):ObjOk P w H h a u:=e.ok ok
theorem dk_rd {kvs:List (Key × V)} (ok:HOk P w H h) (e:Rd H a (.dK kvs)):kvs.length<=sizeLine/\(a == sysModules)=false/\∃ vs,KV kvs vs/\h.DictOf (mixKind P w) a vs :=
  show ObjOk P w H h a (.dK kvs) from rd_of ok e
theorem dk_of {kvs:List (Key × V)} (ok:HOk P w H h) (e:H a=some (.dK kvs)):kvs.length<=sizeLine/\(a == sysModules)=false/\∃ vs,KV kvs vs/\h.DictOf (mixKind P w) a vs:=dk_rd ok (.inl e)
theorem key_of {ks:List Key} (ok:HOk P w H h) (e:H a=some (.tup (ks.map kV))):(tupleKind (mixKind P w)).is h ks a:=by
  obtain ⟨_,its,r,o,h1,h2,n,h3⟩:=(show ObjOk P w H h a (.tup (ks.map kV)) from ok a _ e)
  exact ⟨o,its.toArray,n,h1,h2,h3,by simpa using items_are r⟩
theorem dt_rd {kvs:List (List Key × V)} (ok:HOk P w H h) (e:Rd H a (.dT kvs)):kvs.length<=sizeLine/\(a == sysModules)=false /\
    ∃ xs,KT H kvs xs/\h.DictOfH (tupleKind (mixKind P w)) a xs:=by
  obtain ⟨z,y,xs,r,o,es,ep,h1,h2,h3,h4,h5⟩:=(show ObjOk P w H h a (.dT kvs) from rd_of ok e)
  refine ⟨z,y,xs,r,o,es,ep,h1,h2,h3,h4,fun x hx=>?_,h5⟩
  have all : ∀ {l:List (List Key × V)} {m:List (List Key × Addr × Value)},KT H l m->∀ x∈m,(tupleKind (mixKind P w)).is h x.1 x.2.1:=by
    intro l m q
    induction q with
    | nil=>intro x hx; exact nomatch hx
    | @cons p q ps qs hq t ih =>
      intro x hx
      rcases List.mem_cons.mp hx with e | hx
      · subst e
        exact key_of ok (by rw [<- hq.1]; exact hq.2.1)
      · exact ih x hx
  exact all r x hx
theorem dt_of {kvs:List (List Key × V)} (ok:HOk P w H h) (e:H a=some (.dT kvs)):kvs.length<=sizeLine/\(a == sysModules)=false /\
    ∃ xs,KT H kvs xs/\h.DictOfH (tupleKind (mixKind P w)) a xs:=dt_rd ok (.inl e)
end
def DGet (H:Hp) (a:Addr) (y:V) (r:Option V):Prop :=
  (∃ kvs k,Rd H a (.dK kvs)/\y=kV k/\r=valV kvs k)\/∃ kvs k b,Rd H a (.dT kvs)/\y=.ref b/\H b=some (.tup (k.map kV))/\r=valV kvs k
def DPut (H:Hp) (a:Addr) (y v:V) (H':Hp):Prop :=
  (∃ kvs k,H a=some (.dK kvs)/\y=kV k/\kvs.length < sizeLine/\H'=upd H a (.dK (putK kvs k v))) \/
  ∃ kvs k b,H a=some (.dT kvs)/\y=.ref b/\H b=some (.tup (k.map kV))/\kvs.length < sizeLine/\H'=upd H a (.dT (putK kvs k v))
theorem DGet.k {H:Hp} {a:Addr} {kvs:List (Key × V)} {k:Key} (e:H a=some (.dK kvs)):DGet H a (kV k) (valV kvs k):=.inl ⟨kvs,k,.inl e,rfl,rfl⟩
theorem DGet.t {H:Hp} {a b:Addr} {kvs:List (List Key × V)} {k:List Key} (e:H a=some (.dT kvs)) (eb:H b=some (.tup (k.map kV))):DGet H a (.ref b) (valV kvs k):=.inr ⟨kvs,k,b,.inl e,rfl,eb,rfl⟩
theorem DPut.k {H:Hp} {a:Addr} {kvs:List (Key × V)} {k:Key} {v:V} (e:H a=some (.dK kvs)) (hl:kvs.length < sizeLine):DPut H a (kV k) v (upd H a (.dK (putK kvs k v))):=.inl ⟨kvs,k,e,rfl,hl,rfl⟩
theorem DPut.t {H:Hp} {a b:Addr} {kvs:List (List Key × V)} {k:List Key} {v:V} (e:H a=some (.dT kvs)) (eb:H b=some (.tup (k.map kV))) (hl:kvs.length < sizeLine) :
    DPut H a (.ref b) v (upd H a (.dT (putK kvs k v))):=.inr ⟨kvs,k,b,e,rfl,eb,hl,rfl⟩
section
variable {X:Cx} {pins:List (Addr × Obj)} {σ:St} {H:Hp} {s:Shared} {a:Addr} {y v:V} {u r:Value} {o:Option V} {A:Around} {E:Value->Shared->Prop}
theorem Inv.big (I:Inv X pins σ H s):sysModules < s.heap.objs.size:=by
  have h:mainGlobals < s.heap.objs.size:=(I.mod.glob.keeps I.bk).lt
  exact Nat.lt_trans (by decide) h
theorem d_in {Q:Value->Shared->Prop} (hu:A.units+1 < cLine) (I:Inv X pins σ H s) (g:DGet H a y o) (ry:RelV y u) (h : ∀ s',Inv X pins σ H s'->Q (.bool o.isSome) s') :
    wpAny (model X.prog X.w) A (compareOp .In u (.ref a)) Q E s:=by
  rcases g with ⟨kvs,k,e,ey,l⟩ | ⟨kvs,k,b,e,ey,eb,l⟩
  · subst ey
    obtain ⟨z,hd,vs,rel,dd⟩:=dk_rd I.hok e
    refine wpAny_in_of (kV_is ry) hd dd.mapOf ?_
    rw [<- (rel.val k).isSome_eq,<- l]
    exact h _ (I.tok _)
  · subst ey
    cases (show u=Value.ref b from ry)
    obtain ⟨z,hd,xs,rel,dd⟩:=dt_rd I.hok e
    refine wpAny_in_heap (tupleKind_room_in1 hu) (key_of I.hok eb) hd dd ?_
    have q:=(rel.val k).isSome_eq
    rw [Option.isSome_map] at q
    rw [<- q,<- l]
    exact h _ (I.tok _)
theorem d_notIn {Q:Value->Shared->Prop} (hu:A.units+1 < cLine) (I:Inv X pins σ H s) (g:DGet H a y o) (ry:RelV y u) (h : ∀ s',Inv X pins σ H s'->Q (.bool (!o.isSome)) s') :
    wpAny (model X.prog X.w) A (compareOp .NotIn u (.ref a)) Q E s:=by
  rcases g with ⟨kvs,k,e,ey,l⟩ | ⟨kvs,k,b,e,ey,eb,l⟩
  · subst ey
    obtain ⟨z,hd,vs,rel,dd⟩:=dk_rd I.hok e
    refine wpAny_notIn_of (kV_is ry) hd dd.mapOf ?_
    rw [<- (rel.val k).isSome_eq,<- l]
    exact h _ (I.tok _)
  · subst ey
    cases (show u=Value.ref b from ry)
    obtain ⟨z,hd,xs,rel,dd⟩:=dt_rd I.hok e
    refine wpAny_notIn_heap (tupleKind_room_in1 hu) (key_of I.hok eb) hd dd ?_
    have q:=(rel.val k).isSome_eq
    rw [Option.isSome_map] at q
    rw [<- q,<- l]
    exact h _ (I.tok _)
theorem d_write {h':Heap} {t':Nat} {ob:HO} (I:Inv X pins σ H s) (mu:Mut (H a)) (hs:Heap.SameBut a s.heap h') (he : ∃ q,h'.get? a=some q) (new:ObjOk X.prog X.w (upd H a ob) h' a ob) :
    Inv X pins σ (upd H a ob) { s with heap:=h',toks:=t' } :=
  I.write (x:=a) (e:=a) mu (.inl rfl) (fun b q hb z=>(hs.2 b hb).trans z) he new
theorem dk_new {P:Program} {w:World} {H':Hp} {h':Heap} {kvs:List (Key × V)} {vs:List (Key × Value)} (z:kvs.length<=sizeLine) (hd:(a == sysModules)=false) (rel:KV kvs vs) (dd:h'.DictOf (mixKind P w) a vs) :
    ObjOk P w H' h' a (.dK kvs):=⟨z,hd,vs,rel,dd⟩
theorem d_setItem {H':Hp} {Q:Unit->Shared->Prop} (hu:A.units+1 < cLine) (I:Inv X pins σ H s) (g:DPut H a y v H') (ry:RelV y u) (rv:RelV v r) (h : ∀ s',Inv X pins σ H' s'->Q () s') :
    wpAny (model X.prog X.w) A (setItem (.ref a) u r) Q E s:=by
  rcases g with ⟨kvs,k,e,ey,l,eH⟩ | ⟨kvs,k,b,e,ey,eb,l,eH⟩
  · subst ey eH
    obtain ⟨z,hd,vs,rel,dd⟩:=dk_of I.hok e
    have hz:vs.length<=sizeLine:=by rw [<- rel.length]; exact z
    have hl:(putK kvs k v).length<=sizeLine:=by have:=length_putK kvs k v; omega
    refine wpAny_setItem_pairs (hsz:=hz) (kV_is ry) dd fun h' dd' hs=>h _ ?_
    have he : ∃ q,h'.get? a=some q:=let ⟨q,_,_,hq,_⟩:=dd'; ⟨q,hq⟩
    exact d_write I (by rw [e]; exact True.intro) hs he (dk_new hl hd (rel.put k rv) dd')
  · subst ey eH
    cases (show u=Value.ref b from ry)
    obtain ⟨z,hd,xs,rel,dd⟩:=dt_of I.hok e
    have hz:xs.length<=sizeLine:=by rw [<- Paired.length rel]; exact z
    have hl:(putK kvs k v).length<=sizeLine:=by have:=length_putK kvs k v; omega
    refine wpAny_setItem_heap (hsz:=hz) (tupleKind_room_in1 hu) (key_of I.hok eb) dd fun h' dd' hs=>h _ ?_
    obtain ⟨q,es,ep,hq,h2,h3,h4,_,h5⟩:=dd'
    refine d_write I (by rw [e]; exact True.intro) hs ⟨q,hq⟩ ⟨hl,hd,_,(rel.put k eb rv).keeps fun c ys ec=>?_,q,es,ep,hq,h2,h3,h4,h5⟩
    rw [upd_ne (ne_of ec e (fun z=>nomatch z))]
    exact ec
end
def NoSl (i:Expr):Prop:=∀ ov iv,subscripted i false ov iv=operate [ov,iv] (getItem ov iv)
theorem subD_of {prog:Program} {w:World} {A:Around} {E:Value->Shared->Prop} {s:Shared} {env:Env} {value slice:Expr} {pos:Pos} {T id:String} {Q:Value->Shared->Prop}
    (hl:typeLookup (.type T) "__getitem__" = pure (some (.builtin id))) (hs:NoSl slice)
    (h:wpAny (model prog w) A (eval value env) (fun o s₁=>wpAny (model prog w) A (eval slice env) (fun i s₂=>s₂.TypeIs o T/\wpAny (model prog w) A (getItem o i) Q E s₂) E s₁) E s) :
    wpAny (model prog w) A (eval (.Subscript value slice pos) env) Q E s:=by
  refine Subscript_ (wpAny_mono h (fun o s₁ h₁=>wpAny_mono h₁ (fun i s₂ h₂=>?_) fun _ _ x=>x) fun _ _ x=>x)
  obtain ⟨hT,h₂⟩:=h₂
  unfold subscriptTail
  refine wpAny_bind ?_
  rw [getitemInPython_of_ne hT.not_modules]
  refine wpAny_bind (wpAny_specialOf hT hl ?_)
  have fin:wpAny (model prog w) A (subscripted slice false o i) (fun r s₃=>wpAny (model prog w) A (letTemporaryGo value o r >>= fun _=>pure r) Q E s₃) E s₂:=by
    rw [hs o i]
    exact wpAny_operating (wpAny_mono h₂ (fun r s₃ h₃=>wpAny_bind (wpAny_letTemporaryGo (wpAny_pure h₃))) fun _ _ x=>x)
  first
    | exact wpAny_pure (wpAny_bind fin)
    | exact wpAny_bind (wpAny_pure (wpAny_bind fin))
    | exact wpAny_bind fin
def sDPut (td ty tv:TE):TS:=fun D σ H=>tv σ H fun v H1=>td σ H1 fun x H2=>ty σ H2 fun y H3=>∃ a H4,x=.ref a/\DPut H3 a y v H4/\D.nx σ H4
section
variable {X:Cx} {o i e value:Expr} {pos pos' tpos:Pos} {td ty tv:TE}
theorem ps_dput (hu:X.A.units+1 < cLine) (ho:PE X o td) (hi:PE X i ty) (hv:PE X value tv) (hs:swapsWith value (some (.Subscript o i pos')) pos.line X.env=pure false) :
    PS X (.Assign [.Subscript o i pos'] value pos) (sDPut td ty tv):=by
  intro pins s σ H D I h
  refine wpAny_Assign_Subscript (thn (hv pins s σ H _ I h) fun r s1 ⟨v,H1,I1,rv,q1⟩=>thn (ho pins s1 σ H1 _ I1 q1) fun u s2 ⟨x,H2,I2,rx,q2⟩=>thn (hi pins s2 σ H2 _ I2 q2) fun iv s3 ⟨y,H3,I3,ry,a,H4,ex,g,q3⟩=>?_) hs
  subst ex
  obtain rfl:u=Value.ref a:=rx
  exact d_setItem hu I3 g ry rv fun s4 I4=>⟨σ,H4,I4,q3⟩
end
theorem dk_empty {P:Program} {w:World} {H:Hp} (h:Heap) (hb:sysModules < h.objs.size):ObjOk P w H (h.push { cls:=.type "dict",data:=.dict #[] }) h.objs.size (.dK []) :=
  ⟨Nat.zero_le _,beq_eq_false_iff_ne.mpr (Ne.symm (Nat.ne_of_lt hb)),[],.nil,Heap.DictOf.new h⟩
theorem dt_empty {P:Program} {w:World} {H:Hp} (h:Heap) (hb:sysModules < h.objs.size):ObjOk P w H (h.push { cls:=.type "dict",data:=.dict #[] }) h.objs.size (.dT []) :=
  ⟨Nat.zero_le _,beq_eq_false_iff_ne.mpr (Ne.symm (Nat.ne_of_lt hb)),[],.nil,_,#[],0,Heap.get?_push_size _ rfl,⟨rfl,rfl,rfl⟩,rfl,rfl,List.nodup_nil⟩
def tDNewK:TE:=fun _ H Q=>∀ p,H p=none->Q (.ref p) (upd H p (.dK []))
def tDNewT:TE:=fun _ H Q=>∀ p,H p=none->Q (.ref p) (upd H p (.dT []))
section
variable {X:Cx} {pos:Pos}
theorem pe_dnewK:PE X (.Dict [] [] pos) tDNewK:=fun pins s σ H Q I h =>
  wpAny_Dict_empty ⟨.ref s.heap.objs.size,_,I.laid (a:=s.heap.objs.size) (o:=.dK []) (t':=s.toks) (fun _ _ q=>Heap.get?_push_of_some _ q) (Nat.le_refl _) (dk_empty s.heap I.big),rfl,h _ (I.hok.fresh (Nat.le_refl _))⟩
theorem pe_dnewT:PE X (.Dict [] [] pos) tDNewT:=fun pins s σ H Q I h =>
  wpAny_Dict_empty ⟨.ref s.heap.objs.size,_,I.laid (a:=s.heap.objs.size) (o:=.dT []) (t':=s.toks) (fun _ _ q=>Heap.get?_push_of_some _ q) (Nat.le_refl _) (dt_empty s.heap I.big),rfl,h _ (I.hok.fresh (Nat.le_refl _))⟩
end
structure M1 (X:Cx) (o:Expr) (m:Str) (apos:Pos) (e:Expr) (cpos:Pos):Prop where
  base:attributeBase o m X.env (eval o X.env)=eval o X.env
  few:((backTo cpos (starEach [e] X.env)).all (fun x=>!x.1) && (backToKw cpos (keywordEach [] X.env)).all (fun x=>x.1.isSome)
    && decide (([e]:List Expr).length+([]:List Keyword).length+(if ([]:List Keyword).isEmpty then 0 else 1) < 30))=true
  line:(apos.endLine == cpos.line)=true
  trees:backTo cpos (starEach [e] X.env)=[(false,eval e X.env)]
structure M2 (X:Cx) (o:Expr) (m:Str) (apos:Pos) (e f:Expr) (cpos:Pos):Prop where
  base:attributeBase o m X.env (eval o X.env)=eval o X.env
  few:((backTo cpos (starEach [e,f] X.env)).all (fun x=>!x.1) && (backToKw cpos (keywordEach [] X.env)).all (fun x=>x.1.isSome)
    && decide (([e,f]:List Expr).length+([]:List Keyword).length+(if ([]:List Keyword).isEmpty then 0 else 1) < 30))=true
  line:(apos.endLine == cpos.line)=true
  trees:backTo cpos (starEach [e,f] X.env)=[(false,eval e X.env),(false,eval f X.env)]
def IsD (H:Hp) (a:Addr):Prop:=(∃ kvs,Rd H a (.dK kvs))\/∃ kvs,Rd H a (.dT kvs)
theorem isD_at {X:Cx} {pins:List (Addr × Obj)} {σ:St} {H:Hp} {s:Shared} {a:Addr} (I:Inv X pins σ H s) (d:IsD H a) :
    s.TypeIs (.ref a) "dict"/\(∀ b,Value.ref a=.ref b->∃ ob,s.heap.get? b=some ob/\ob.dict=none)/\(a == sysModules)=false:=by
  rcases d with ⟨kvs,e⟩ | ⟨kvs,e⟩
  · obtain ⟨_,hd,vs,_,dd⟩:=dk_rd I.hok e
    refine ⟨dd.typeIs,fun b q=>?_,hd⟩
    cases q
    obtain ⟨ob,_,_,h1,h2,_⟩:=dd
    exact ⟨ob,h1,h2.2.1⟩
  · obtain ⟨_,hd,xs,_,dd⟩:=dt_rd I.hok e
    refine ⟨dd.typeIs,fun b q=>?_,hd⟩
    cases q
    obtain ⟨ob,_,_,h1,h2,_⟩:=dd
    exact ⟨ob,h1,h2.2.1⟩
section
variable {X:Cx} {pins:List (Addr × Obj)} {σ:St} {H:Hp} {s:Shared} {a:Addr} {y d:V} {u r:Value} {o:Option V} {A:Around} {E:Value->Shared->Prop}
theorem d_get1 {Q:Value->Shared->Prop} (hu:A.units+1 < cLine) (I:Inv X pins σ H s) (g:DGet H a y o) (ry:RelV y u) (h : ∀ w' s',Inv X pins σ H s'->RelV (o.getD .non) w'->Q w' s') :
    wpAny (model X.prog X.w) A (call (.builtin "dict.get") [.ref a,u]) Q E s:=by
  rcases g with ⟨kvs,k,e,ey,l⟩ | ⟨kvs,k,b,e,ey,eb,l⟩
  · subst ey
    obtain ⟨z,hd,vs,rel,dd⟩:=dk_rd I.hok e
    refine call_meetsIn PySem.F.slot_dict_get dd.typeIs PySem.F.entry_dict_get (PySem.F.args_dict_get_2 _ _) (meets_dict_get (mixKind X.prog X.w) a (kV_is ry) hd) ⟨_,dd.mapOf,h _ _ (I.tok _) ?_⟩
    rw [l]
    exact (rel.val k).getD rfl
  · subst ey
    cases (show u=Value.ref b from ry)
    obtain ⟨z,hd,xs,rel,dd⟩:=dt_rd I.hok e
    refine call_meetsIn PySem.F.slot_dict_get dd.typeIs PySem.F.entry_dict_get (PySem.F.args_dict_get_2 _ _) (meetsH_dict_get (tupleKind (mixKind X.prog X.w)) a b hd) ⟨tupleKind_room_in1 hu,k,xs,key_of I.hok eb,dd,h _ _ (I.tok _) ?_⟩
    rw [l]
    exact (rel.val k).getD rfl
end
def tDGet1 (td ty:TE):TE:=fun σ H Q=>td σ H fun x H1=>∃ a,x=.ref a/\IsD H1 a/\ty σ H1 fun y H2=>∃ o,DGet H2 a y o/\Q (o.getD .non) H2
section
variable {X:Cx} {o e f:Expr} {apos cpos:Pos} {td ty tx:TE}
theorem pe_dget1 (hu:X.A.units+1 < cLine) (ho:PE X o td) (he:PE X e ty) (m:M1 X o "get" apos e cpos):PE X (.Call (.Attribute o "get" apos) [e] [] cpos) (tDGet1 td ty):=by
  intro pins s σ H Q I h
  refine wpAny_Call_method m.base m.few m.line PySem.F.plainAttrs_dict PySem.F.slot_dict_get PySem.F.type_dict_get (thn (ho pins s σ H _ I h) fun u s1 ⟨x,H1,I1,rx,a,ex,d,q1⟩=>?_)
  subst ex
  obtain rfl:u=Value.ref a:=rx
  obtain ⟨t1,t2,_⟩:=isD_at I1 d
  refine ⟨t1,t2,?_⟩
  rw [m.trees]
  refine Calls.callWith_builtin rfl (Calls.evalArgs_plain (Calls.spliced_cons (thn (he pins s1 σ H1 _ I1 q1) fun iv s2 ⟨y,H2,I2,ry,ov,g,q2⟩=>Calls.spliced_nil ?_)))
  exact d_get1 hu I2 g ry fun w' s3 I3 rw'=>⟨_,H2,I3,rw',q2⟩
end
end L2
namespace HT
open PySem PyProof.Rows
section
variable {prog:Program} {w:World} {A:Around} {E:Value->Shared->Prop} {s:Shared}
def sIx (n d:Nat):Option Int->Nat
  | none=>d
  | some v=>if v < 0 then (v+(n:Int)).toNat else min v.toNat n
theorem sIx_le (n d:Nat) (hd:d<=n) (o:Option Int):sIx n d o<=n:=by
  cases o with
  | none=>exact hd
  | some v =>
    show (if v < 0 then (v+(n:Int)).toNat else min v.toNat n)<=n
    by_cases hv:v < 0
    · rw [if_pos hv]; omega
    · rw [if_neg hv]; exact Nat.min_le_right _ _
theorem clip_eq (v:Int) (n d:Nat):(if v < 0 then max (v+(n:Int)) 0 else min v (n:Int))=((sIx n d (some v):Nat):Int):=by
  show (if v < 0 then max (v+(n:Int)) 0 else min v (n:Int))=(((if v < 0 then (v+(n:Int)).toNat else min v.toNat n):Nat):Int)
  by_cases hv:v < 0
  · simp only [if_pos hv]; omega
  · simp only [if_neg hv]; omega
theorem adjust_gen (lo hi:Option Int) (n:Nat):Builtin.Slice.sliceAdjust lo hi 1 (n:Int)=(((sIx n 0 lo:Nat):Int),((sIx n n hi:Nat):Int)):=by
  have h1 : ¬ ((1:Int) < 0):=by omega
  unfold Builtin.Slice.sliceAdjust
  simp only [h1,if_false]
  refine Prod.ext ?_ ?_
  · cases lo with
    | none=>rfl
    | some v=>exact clip_eq v n 0
  · cases hi with
    | none=>rfl
    | some v=>exact clip_eq v n n
theorem places_gen (i j:Nat):Builtin.Slice.slicePlaces (i:Int) (j:Int) 1=j - i:=by
  unfold Builtin.Slice.slicePlaces
  have h1:(1:Int) > 0:=by omega
  simp only [h1,if_true,Int.ediv_one]
  split <;> omega
theorem slicePart_ {v:Value} {o:Option Int} {Q:Option Int->Shared->Prop} (p:IsPart v o) (h:Q o s):wpAny (model prog w) A (Builtin.Slice.slicePartIndex v) Q E s:=by
  cases p with
  | none=>exact slicePart_none h
  | int i t=>exact slicePart_int h
theorem sliceApplied_gen {sl:Addr} {vl vu:Value} {lo hi:Option Int} {n:Nat} {Q:Int × Int × Nat->Shared->Prop} (hs:s.heap.IsSliceOf sl vl vu .none) (pl:IsPart vl lo) (pu:IsPart vu hi)
    (h:Q (((sIx n 0 lo:Nat):Int),1,sIx n n hi - sIx n 0 lo) s):wpAny (model prog w) A (Builtin.Slice.sliceApplied (.ref sl) (pure (n:Int))) Q E s:=by
  obtain ⟨os,hos,hcs,hds⟩:=id hs
  unfold Builtin.Slice.sliceApplied Builtin.Slice.sliceFields
  refine wpAny_bind (wpAny_bind (wpAny_field hos hds (x:=vl) rfl (wpAny_bind (wpAny_field hos hds (x:=vu) rfl (wpAny_bind (wpAny_field hos hds (x:=.none) rfl (wpAny_pure ?_)))))))
  refine wpAny_bind (slicePart_none ?_)
  show wpAny _ _ (if ((1:Int) == 0)=true then _ else _) _ _ s
  rw [if_neg (by decide)]
  refine wpAny_bind (slicePart_ pl (wpAny_bind (slicePart_ pu (wpAny_bind (wpAny_pure ?_)))))
  show wpAny _ _ (match Builtin.Slice.sliceAdjust lo hi 1 (n:Int) with | (lo,hi)=>pure (lo,(1:Int),Builtin.Slice.slicePlaces lo hi 1)) _ _ s
  rw [adjust_gen lo hi n]
  show wpAny _ _ (pure (((sIx n 0 lo:Nat):Int),(1:Int),Builtin.Slice.slicePlaces ((sIx n 0 lo:Nat):Int) ((sIx n n hi:Nat):Int) 1)) _ _ s
  rw [places_gen]
  exact wpAny_pure h
theorem pick_gen (xs:Array Value) (i k:Nat):((List.range k).filterMap fun (m:Nat)=>xs[((i:Int)+(m:Int)*1).toNat]?).toArray=((xs.toList.drop i).take k).toArray:=by
  have e:(fun (m:Nat)=>xs[((i:Int)+(m:Int)*1).toNat]?)=fun m=>xs[i+m]?:=by
    funext m
    have:((i:Int)+(m:Int)*1).toNat=i+m:=by omega
    rw [this]
  rw [e]
  have:=pick_run xs i k
  rw [List.filterMap_map] at this
  have e2:((fun x=>xs[x]?) ∘ fun x=>i+x)=fun m=>xs[i+m]?:=rfl
  rw [e2] at this
  rw [this]
theorem getItem_tuple_cut {t sl:Addr} {items:Array Value} {vl vu:Value} {lo hi:Option Int} {Q:Value->Shared->Prop} (ht:IsTup s.heap t items) (hs:s.heap.IsSliceOf sl vl vu .none) (pl:IsPart vl lo) (pu:IsPart vu hi)
    (hw : ¬ (sIx items.size 0 lo=0/\sIx items.size items.size hi=items.size))
    (h:Q (.ref s.heap.objs.size) { s with heap:=s.heap.push { cls:=.type "tuple",data:=.seq ((items.toList.drop (sIx items.size 0 lo)).take (sIx items.size items.size hi - sIx items.size 0 lo)).toArray } })
    (hsz:items.size<=sizeLine):wpAny (model prog w) A (getItem (.ref t) (.ref sl)) Q E s:=by
  have htake:sizeOk (.seq ((items.toList.drop (sIx items.size 0 lo)).take (sIx items.size items.size hi - sIx items.size 0 lo)).toArray):=by
    show ((items.toList.drop (sIx items.size 0 lo)).take (sIx items.size items.size hi - sIx items.size 0 lo)).toArray.size<=sizeLine
    rw [List.size_toArray,List.length_take,List.length_drop,Array.length_toList]
    omega
  have hj:sIx items.size items.size hi<=items.size:=sIx_le _ _ (Nat.le_refl _) hi
  obtain ⟨os,hos,hcs,hds⟩:=id hs
  have hTs:s.TypeIs (.ref sl) "slice":=⟨os,hos,hcs⟩
  unfold getItem
  try with_reducible refine wpAny_holding ?_
  first | refine wpAny_bind (wpAny_pure ?_) | skip
  refine wpAny_bind (wpAny_sequenceKey ht.typeIs (by decide) ?_)
  refine wpAny_bind (wpAny_callSpecial?_slot (name:=Str.ofString "__getitem__") ht.typeIs PyProof.Rows.slot_tuple_getitem
    (wpAny_call_entry PyProof.Rows.slot_tuple_getitem ht.typeIs entry_tuple_getitem ?_ (args_tuple_getitem _ _)))
  show wpAny _ _ (Builtin.Tuple.tupleItemsOf (.ref t) >>= _) _ _ s
  refine wpAny_bind (tupleItemsOf_ ht ?_)
  refine wpAny_bind (wpAny_typeOf hTs ?_)
  rw [if_pos (by decide)]
  refine wpAny_bind (sliceApplied_gen hs pl pu ?_)
  have hno : ¬ ((((sIx items.size 0 lo:Nat):Int) == 0 && (1:Int) == 1 && (sIx items.size items.size hi - sIx items.size 0 lo) == items.size)=true):=by
    intro q
    rw [Bool.and_eq_true,Bool.and_eq_true] at q
    have q1:((sIx items.size 0 lo:Nat):Int)=0:=eq_of_beq q.1.1
    have q2:sIx items.size items.size hi - sIx items.size 0 lo=items.size:=eq_of_beq q.2
    exact hw ⟨by omega,by omega⟩
  show wpAny _ _ (if (((sIx items.size 0 lo:Nat):Int) == 0 && (1:Int) == 1 && (sIx items.size items.size hi - sIx items.size 0 lo) == items.size)=true then _ else _) _ _ s
  rw [if_neg hno,pick_gen]
  first
    | exact wpAny_bind (m:=Builtin.Tuple.tupleExact _) (wpAny_newObj_type (wpAny_pure ⟨_,rfl,wpAny_pure h⟩) htake)
    | exact wpAny_bind (m:=Builtin.Tuple.tupleExact _) (wpAny_newObj_type (wpAny_bind (wpAny_pure (wpAny_pure ⟨_,rfl,wpAny_pure h⟩))) htake)
    | exact wpAny_bind (wpAny_bind (m:=Builtin.Tuple.tupleExact _) (wpAny_newObj_type (wpAny_pure (wpAny_pure ⟨_,rfl,wpAny_pure h⟩)) htake))
    | exact wpAny_bind (wpAny_bind (m:=Builtin.Tuple.tupleExact _) (wpAny_newObj_type (wpAny_pure ⟨_,rfl,wpAny_pure h⟩) htake))
end
end HT
namespace L2
open PySem PySem.Spec PyProof.Rows
abbrev TO:=St->Hp->(Option Int->Hp->Prop)->Prop
def PO (X:Cx) (e:Option Expr) (t:TO):Prop :=
  ∀ (pins:List (Addr × Obj)) (s:Shared) (σ:St) (H:Hp) (Q:Option Int->Hp->Prop),Inv X pins σ H s->t σ H Q ->
    wpAny (model X.prog X.w) X.A (evalPart e X.env) (fun u s'=>∃ o H',Inv X pins σ H' s'/\IsPart u o/\Q o H') X.xe s
def tNoPart:TO:=fun _ H Q=>Q none H
def tPart (t:TE):TO:=fun σ H Q=>t σ H fun x H1=>∃ i,x=.int i/\Q (some i) H1
section
variable {X:Cx} {e:Expr} {te:TE} {lo hi:Option Expr} {tl th:TO} {pos p2:Pos}
theorem po_none:PO X none tNoPart:=by
  intro pins s σ H Q I h
  rw [evalPart_none]
  exact wpAny_pure ⟨none,H,I,.none,h⟩
theorem po_some (h:PE X e te):PO X (some e) (tPart te):=by
  intro pins s σ H Q I hw
  rw [evalPart_some]
  refine thn (h pins s σ H _ I hw) fun u s1 ⟨x,H1,I1,r1,q1⟩=>?_
  obtain ⟨i,rfl,q⟩:=q1
  obtain ⟨t,rfl⟩:=r1
  exact ⟨some i,H1,I1,.int i t,q⟩
def SlR (X:Cx) (r:V->Option Int->Option Int->Hp->VK->Prop):Prop :=
  ∀ (pins:List (Addr × Obj)) (s:Shared) (σ:St) (H:Hp) (x:V) (v vl vu:Value) (lo hi:Option Int) (sl:Addr) (Q:VK),Inv X pins σ H s->RelV x v->s.heap.IsSliceOf sl vl vu .none->IsPart vl lo->IsPart vu hi->r x lo hi H Q ->
    ∃ T id,typeLookup (.type T) "__getitem__" = pure (some (.builtin id))/\s.TypeIs v T/\wpAny (model X.prog X.w) X.A (getItem v (.ref sl)) (EP X pins σ Q) X.xe s
def tSl (r:V->Option Int->Option Int->Hp->VK->Prop) (te:TE) (tl th:TO):TE:=fun σ H Q=>te σ H fun x H1=>tl σ H1 fun l H2=>th σ H2 fun u H3=>r x l u H3 Q
theorem pe_slice {r:V->Option Int->Option Int->Hp->VK->Prop} (hr:SlR X r) (he:PE X e te) (hl:PO X lo tl) (hu:PO X hi th):PE X (.Subscript e (.Slice lo hi none p2) pos) (tSl r te tl th):=by
  intro pins s σ H Q I h
  refine Subscript_ (thn (he pins s σ H _ I h) fun v s1 ⟨x,H1,I1,r1,q1⟩=>?_)
  refine wpAny_Slice (thn (hl pins s1 σ H1 _ I1 q1) fun vl s2 ⟨l,H2,I2,pl,q2⟩=>thn (hu pins s2 σ H2 _ I2 q2) fun vu s3 ⟨u,H3,I3,pu,q3⟩=>?_)
  rw [evalPart_none]
  refine wpAny_pure ?_
  have I4:Inv X pins σ H3 { s3 with heap:=s3.heap.push { cls:=.type "slice",data:=.fields #[vl,vu,.none] } }:=I3.kept (t':=s3.toks) fun b ob q=>Heap.get?_push_of_some _ q
  obtain ⟨T,id,hT,ht,hg⟩:=hr pins { s3 with heap:=s3.heap.push { cls:=.type "slice",data:=.fields #[vl,vu,.none] } } σ H3 x v vl vu l u s3.heap.objs.size Q I4 r1 (Heap.IsSliceOf.new ..) pl pu q3
  show wpAny (model X.prog X.w) X.A (subscriptTail e (.Slice lo hi none p2) v (.ref s3.heap.objs.size)) (EP X pins σ Q) X.xe { s3 with heap:=s3.heap.push { cls:=.type "slice",data:=.fields #[vl,vu,.none] } }
  exact tail_any (ops:=[.ref s3.heap.objs.size,v]) ht hT hg (by with_unfolding_all rfl)
def cutV (xs:List V) (lo hi:Option Int):List V:=(xs.drop (HT.sIx xs.length 0 lo)).take (HT.sIx xs.length xs.length hi - HT.sIx xs.length 0 lo)
theorem cutV_length (xs:List V) (lo hi:Option Int):(cutV xs lo hi).length<=xs.length:=by
  unfold cutV
  rw [List.length_take,List.length_drop]
  omega
def rSlT (K:PySem.W.Frag):V->Option Int->Option Int->Hp->VK->Prop:=fun x lo hi H Q=>∃ a xs,x=.ref a/\SqT K H a xs /\
  ¬ (HT.sIx xs.length 0 lo=0/\HT.sIx xs.length xs.length hi=xs.length)/\∀ p,H p=none->Q (.ref p) (upd H p (.tup (cutV xs lo hi)))
theorem sl_tup:SlR X (rSlT X.K):=by
  intro pins s σ H x v vl vu lo hi sl Q I rx hs pl pu h
  obtain ⟨a,xs,rfl,hx,hw,q⟩:=h
  cases rx
  obtain ⟨its,r,ht,hz⟩:=I.tuple hx
  have hlen:its.toArray.size=xs.length:=by rw [List.size_toArray]; exact r.length.symm
  refine ⟨"tuple",_,PyProof.Rows.slot_tuple_getitem.lookup,ht.typeIs,?_⟩
  refine HT.getItem_tuple_cut ht hs pl pu (by rw [hlen]; exact hw) ?_ (by rw [hlen]; exact hz)
  rw [hlen]
  refine ⟨.ref s.heap.objs.size,_,I.laid (t':=s.toks) (o:=.tup (cutV xs lo hi)) (fun b ob q=>Heap.get?_push_of_some _ q) (Nat.le_refl _) ?_,rfl,q _ (I.hok.fresh (Nat.le_refl _))⟩
  exact ⟨Nat.le_trans (cutV_length xs lo hi) hz,_,(r.drop (HT.sIx xs.length 0 lo)).take (HT.sIx xs.length xs.length hi - HT.sIx xs.length 0 lo),IsTup.new _ _⟩
end
end L2
namespace L2
open PySem PySem.Spec PyProof.Rows
def ixN (n:Nat) (i:Int):Option Nat:=if 0<=i then (if i < n then some i.toNat else none) else if -(n:Int)<=i then some (i+n).toNat else none
def atI {α:Type} (xs:List α) (i:Int):Option α:=(ixN xs.length i).bind fun j=>xs[j]?
theorem ixN_seq {n:Nat} {i:Int} {j:Nat} (h:ixN n i=some j):seqIndex? i n=some j/\j < n/\-(n:Int)<=i/\i < n:=by
  unfold ixN at h
  by_cases h0:0<=i
  · rw [if_pos h0] at h
    by_cases h1:i < n
    · rw [if_pos h1] at h
      have e:i.toNat=j:=Option.some.inj h
      exact ⟨by rw [seqIndex_of h0 h1,e],by omega,by omega,h1⟩
    · rw [if_neg h1] at h; cases h
  · rw [if_neg h0] at h
    by_cases h1 : -(n:Int)<=i
    · rw [if_pos h1] at h
      have e:(i+n).toNat=j:=Option.some.inj h
      exact ⟨by rw [seqIndex_neg (by omega) h1,e],by omega,h1,by omega⟩
    · rw [if_neg h1] at h; cases h
theorem atI_get {α:Type} {xs:List α} {i:Int} {v:α} (h:atI xs i=some v) : ∃ j,seqIndex? i xs.length=some j/\xs[j]? = some v/\j < xs.length/\-(xs.length:Int)<=i/\i < xs.length:=by
  unfold atI at h
  cases e:ixN xs.length i with
  | none=>rw [e] at h; cases h
  | some j =>
    rw [e] at h
    obtain ⟨h1,h2,h3,h4⟩:=ixN_seq e
    exact ⟨j,h1,h,h2,h3,h4⟩
theorem atI_nat {α:Type} {xs:List α} {j:Nat} {v:α} (h:xs[j]? = some v):atI xs (j:Int)=some v:=by
  have hj:j < xs.length:=(List.getElem?_eq_some_iff.mp h).1
  have e:ixN xs.length (j:Int)=some j:=by
    unfold ixN
    rw [if_pos (by omega),if_pos (by omega)]; simp
  unfold atI; rw [e]; exact h
theorem atI_last {α:Type} (xs:List α) (v:α):atI (xs++[v]) (-1)=some v:=by
  have hl:(xs++[v]).length=xs.length+1:=by simp
  have e:ixN (xs++[v]).length (-1)=some xs.length:=by
    unfold ixN
    rw [hl,if_neg (by decide),if_pos (by omega)]
    congr 1
    omega
  unfold atI
  rw [e]
  show (xs++[v])[xs.length]? = some v
  simp
def PlainIx (b:Expr):Prop:=∀ o i,subscripted b false o i=operate [o,i] (getItem o i)
def IxR (X:Cx) (r:R2):Prop :=
  ∀ (value slice:Expr) (pins:List (Addr × Obj)) (s:Shared) (σ:St) (H:Hp) (x y:V) (v u:Value) (Q:VK),Inv X pins σ H s->RelV x v->RelV y u->r x y H Q ->
    subscripted slice false v u=operate [v,u] (getItem v u)->wpAny (model X.prog X.w) X.A (subscriptTail value slice v u) (EP X pins σ Q) X.xe s
def MtR (X:Cx) (id:String) (r:V->List V->Hp->VK->Prop):Prop :=
  ∀ (pins:List (Addr × Obj)) (s:Shared) (σ:St) (H:Hp) (x:V) (xs:List V) (v:Value) (us:List Value) (Q:VK),Inv X pins σ H s->RelV x v->Vals xs us->r x xs H Q ->
    wpAny (model X.prog X.w) X.A (call (.builtin id) (v :: us)) (EP X pins σ Q) X.xe s
section
variable {X:Cx} {a b:Expr} {ta tb:TE} {pos:Pos}
theorem IxR.or {r r':R2} (h:IxR X r) (h':IxR X r'):IxR X (fun x y H Q=>r x y H Q\/r' x y H Q):=by
  intro value slice pins s σ H x y v u Q I rx ry q hs
  rcases q with q | q
  · exact h value slice pins s σ H x y v u Q I rx ry q hs
  · exact h' value slice pins s σ H x y v u Q I rx ry q hs
theorem pe_ix {r:R2} (hr:IxR X r) (ha:PE X a ta) (hb:PE X b tb) (hs:PlainIx b):PE X (.Subscript a b pos) (tOp r ta tb):=by
  intro pins s σ H Q I h
  exact Subscript_ (binT ha hb I h fun v u s2 x y H2 I2 rx ry q=>hr a b pins s2 σ H2 x y v u Q I2 rx ry q (hs _ _))
def rIxL (K:PySem.W.Frag):R2:=fun x y H Q=>∃ p xs i v,x=.ref p/\y=.int i/\SqL K H p xs/\atI xs i=some v/\Q v H
def rIxT (K:PySem.W.Frag):R2:=fun x y H Q=>∃ p xs i v,x=.ref p/\y=.int i/\SqT K H p xs/\atI xs i=some v/\Q v H
theorem ix_list:IxR X (rIxL X.K):=by
  intro value slice pins s σ H x y v u Q I rx ry h hs
  obtain ⟨p,xs,i,z,rfl,rfl,hq,he,q⟩:=h
  cases rx
  obtain ⟨t,rfl⟩:=ry
  obtain ⟨its,r,pl,hz⟩:=I.list hq
  obtain ⟨j,h1,h2,h3,h4,h5⟩:=atI_get he
  obtain ⟨w,ew,rw'⟩:=r.get h2
  have hl:=r.length
  have hn:=line63
  have fin:EP X pins σ Q w s:=⟨z,H,I,rw',q⟩
  by_cases h0:0<=i
  · have hj:i.toNat=j:=by
      rw [seqIndex_of h0 h5] at h1
      exact Option.some.inj h1
    exact item_listR pl.isList h0 (by omega) (by rw [hj]; simpa using ew) fin hs
  · have hj:(i+(its.toArray.size:Int)).toNat=j:=by
      rw [seqIndex_neg (by omega) h4] at h1
      rw [List.size_toArray,<- hl]
      exact Option.some.inj h1
    exact subscriptTail_builtinR (x:=w) pl.isList.typeIs slot_list_getitem.lookup
      (wpAny_getItem_list_neg (Q:=fun r s'=>r=w/\EP X pins σ Q r s') pl.isList (by omega) (by rw [List.size_toArray] <;> omega) (by omega) (by rw [hj]; simpa using ew) ⟨rfl,fin⟩) hs
theorem ix_tup:IxR X (rIxT X.K):=by
  intro value slice pins s σ H x y v u Q I rx ry h hs
  obtain ⟨p,xs,i,z,rfl,rfl,hq,he,q⟩:=h
  cases rx
  obtain ⟨t,rfl⟩:=ry
  obtain ⟨its,r,pl,hz⟩:=I.tuple hq
  obtain ⟨j,h1,h2,h3,h4,h5⟩:=atI_get he
  obtain ⟨w,ew,rw'⟩:=r.get h2
  have hl:=r.length
  have hn:=line63
  have fin:EP X pins σ Q w s:=⟨z,H,I,rw',q⟩
  exact subscriptTail_builtinR (x:=w) pl.typeIs slot_tuple_getitem.lookup
    (getItem_tuple (j:=j) (Q:=fun r s'=>r=w/\EP X pins σ Q r s') pl (by omega) (by omega) (by rw [List.size_toArray,<- hl]; exact h1) (by simpa using ew) ⟨rfl,fin⟩) hs
theorem mapSeq_set (its:List Value) (n j:Nat) (u:Value):Obj.mapSeq (·.setIfInBounds j u) { cls:=.type "list",data:=.seq its.toArray n } = { cls:=.type "list",data:=.seq (its.set j u).toArray n }:=by
  simp [Obj.mapSeq]
theorem Inv.lst {pins:List (Addr × Obj)} {σ:St} {H:Hp} {s:Shared} {p:Addr} {xs:List V} (I:Inv X pins σ H s) (h:H p=some (.lst xs)) :
    ∃ (its:List Value) (n:Nat),Vals xs its/\s.heap.get? p=some { cls:=.type "list",data:=.seq its.toArray n }/\xs.length<=sizeLine:=by
  obtain ⟨z,its,n,r,e⟩:=I.hok p _ h
  exact ⟨its,n,r,e,z⟩
theorem Inv.lstUpd {pins:List (Addr × Obj)} {σ:St} {H:Hp} {s:Shared} {p:Addr} {xs ys:List V} {its its':List Value} {n n':Nat} {f:Obj->Obj} (I:Inv X pins σ H s) (h:H p=some (.lst xs))
    (ho:s.heap.get? p=some { cls:=.type "list",data:=.seq its.toArray n }) (hf:f { cls:=.type "list",data:=.seq its.toArray n } = { cls:=.type "list",data:=.seq its'.toArray n' }) (r:Vals ys its') (hz:ys.length<=sizeLine) (t:Nat) :
    Inv X pins σ (upd H p (.lst ys)) { s with heap:=s.heap.update p f,toks:=t }:=by
  have e:(s.heap.update p f).get? p=some { cls:=.type "list",data:=.seq its'.toArray n' }:=by
    rw [Heap.get?_update_self f ho (by rw [hf] <;> rfl),hf]
  refine I.write (x:=p) (e:=p) (by rw [h]; trivial) (.inl rfl) (fun b u hb q=>(Heap.get?_update_other _ _ (Ne.symm hb)).trans q) ⟨_,e⟩ ?_
  exact ⟨hz,its',n',r,e⟩
def rSetL:V->V->V->Hp->(Hp->Prop)->Prop:=fun o i v H Q=>∃ p xs k j,o=.ref p/\i=.int k/\H p=some (.lst xs)/\ixN xs.length k=some j/\Q (upd H p (.lst (xs.set j v)))
theorem set_list:PSet X rSetL:=by
  intro pins s σ H o i v ov iv u Q I ro ri rv h
  obtain ⟨p,xs,k,j,rfl,rfl,hp,hj,q⟩:=h
  cases ro
  obtain ⟨t,rfl⟩:=ri
  obtain ⟨its,n,r,ho,hz⟩:=I.lst hp
  obtain ⟨h1,h2,h3,h4⟩:=ixN_seq hj
  have hl:=r.length
  have hn:=line63
  have I':Inv X pins σ (upd H p (.lst (xs.set j v))) { s with heap:=s.heap.update p (Obj.mapSeq (·.setIfInBounds j u)) } :=
    I.lstUpd hp ho (mapSeq_set its n j u) (r.set rv j) (by rw [List.length_set]; exact hz) s.toks
  by_cases h0:0<=k
  · have hk:k.toNat=j:=by
      rw [seqIndex_of h0 h4] at h1
      exact Option.some.inj h1
    exact PySem.W.ki_setAt ho h0 (by omega) (by rw [List.size_toArray,<- hl]; exact h4) (by rw [hk]; exact ⟨_,I',q⟩)
  · have hk:(k+(its.toArray.size:Int)).toNat=j:=by
      rw [seqIndex_neg (by omega) h3] at h1
      rw [List.size_toArray,<- hl]
      exact Option.some.inj h1
    exact PySem.W.ki_setBack ho (by omega) (by rw [List.size_toArray,<- hl]; exact h3) (by omega) (by rw [hk]; exact ⟨_,I',q⟩)
theorem slice_bounds (lo hi:Option Int) (n:Nat):(sliceBounds lo hi none n).1=((HT.sIx n 0 lo:Nat):Int)/\(sliceBounds lo hi none n).2.1=((HT.sIx n n hi:Nat):Int)/\(sliceBounds lo hi none n).2.2=1:=by
  refine ⟨?_,?_,rfl⟩
  · cases lo with
    | none=>simp [sliceBounds,HT.sIx]
    | some i =>
      simp only [sliceBounds,HT.sIx,Option.getD_none,show (1:Int) > 0 by decide,if_true]
      by_cases h:i < 0
      · simp only [h,if_true] <;> omega
      · simp only [h,if_false] <;> omega
  · cases hi with
    | none=>simp [sliceBounds,HT.sIx]
    | some i =>
      simp only [sliceBounds,HT.sIx,Option.getD_none,show (1:Int) > 0 by decide,if_true]
      by_cases h:i < 0
      · simp only [h,if_true] <;> omega
      · simp only [h,if_false] <;> omega
theorem slicePick_cut (its:List Value) (lo hi:Option Int):slicePick its.toArray lo hi none=((its.drop (HT.sIx its.length 0 lo)).take (HT.sIx its.length its.length hi - HT.sIx its.length 0 lo)).toArray:=by
  obtain ⟨h1,h2,h3⟩:=slice_bounds lo hi its.toArray.size
  unfold slicePick
  rw [h1,h2,h3]
  simp only [sliceRange_one,pick_run,List.size_toArray] <;> rfl
def rSlL (K:PySem.W.Frag):V->Option Int->Option Int->Hp->VK->Prop:=fun x lo hi H Q=>∃ a xs,x=.ref a/\SqL K H a xs/\∀ p,H p=none->Q (.ref p) (upd H p (.lst (cutV xs lo hi)))
theorem sl_list:SlR X (rSlL X.K):=by
  intro pins s σ H x v vl vu lo hi sl Q I rx hs pl pu h
  obtain ⟨a,xs,rfl,hx,q⟩:=h
  cases rx
  obtain ⟨its,r,ht,hz⟩:=I.list hx
  have hlen:=r.length
  refine ⟨"list",_,slot_list_getitem.lookup,ht.isList.typeIs,?_⟩
  refine wpAny_getItem_list_slice ht.isList hs pl pu .none (by simp) ?_ (by rw [List.size_toArray] <;> omega)
  rw [slicePick_cut,<- hlen]
  refine ⟨.ref s.heap.objs.size,_,I.laid (t':=s.toks) (o:=.lst (cutV xs lo hi)) (fun b ob q=>Heap.get?_push_of_some _ q) (Nat.le_refl _) ?_,rfl,q _ (I.hok.fresh (Nat.le_refl _))⟩
  exact ⟨Nat.le_trans (cutV_length xs lo hi) hz,_,0,(r.drop (HT.sIx xs.length 0 lo)).take (HT.sIx xs.length xs.length hi - HT.sIx xs.length 0 lo),Heap.get?_push_size _ rfl⟩
def flatV:V->Bool
  | .non=>true
  | .bl _=>true
  | .int _=>true
  | .str _=>true
  | _=>false
def eqV:V->V->Bool
  | .non,.non=>true
  | .bl a,.bl b=>a == b
  | .bl a,.int b=>(if a then 1 else 0) == b
  | .int a,.bl b=>a == (if b then 1 else 0)
  | .int a,.int b=>a == b
  | .str a,.str b=>a == b
  | _,_=>false
theorem eqAt_V {A:Around} {s:Shared} {y x:V} {u v:Value} (ry:RelV y u) (rx:RelV x v) (fy:flatV y=true) (fx:flatV x=true):SeqAt.EqAt A s u v (eqV y x):=by
  cases y with
  | non =>
    cases ry
    cases x with
    | non=>cases rx; exact SeqAt.EqAt.same _
    | bl b=>cases rx; exact SeqAt.EqAt.none_bool b
    | int b=>obtain ⟨t,rfl⟩:=rx; exact SeqAt.EqAt.none_int b t
    | str b=>obtain ⟨t,rfl⟩:=rx; exact SeqAt.EqAt.none_str b t
    | _=>exact absurd (show false=true from fx) Bool.false_ne_true
  | bl a =>
    cases ry
    cases x with
    | non=>cases rx; exact SeqAt.EqAt.bool_none a
    | bl b=>cases rx; exact SeqAt.EqAt.bool_bool a b
    | int b=>obtain ⟨t,rfl⟩:=rx; exact SeqAt.EqAt.bool_int a b t
    | str b=>obtain ⟨t,rfl⟩:=rx; exact SeqAt.EqAt.bool_str a b t
    | _=>exact absurd (show false=true from fx) Bool.false_ne_true
  | int a =>
    obtain ⟨t',rfl⟩:=ry
    cases x with
    | non=>cases rx; exact SeqAt.EqAt.int_none a t'
    | bl b=>cases rx; exact SeqAt.EqAt.int_bool a t' b
    | int b=>obtain ⟨t,rfl⟩:=rx; exact SeqAt.EqAt.int_int a t' b t
    | str b=>obtain ⟨t,rfl⟩:=rx; exact SeqAt.EqAt.int_str a t' b t
    | _=>exact absurd (show false=true from fx) Bool.false_ne_true
  | str a =>
    obtain ⟨t',rfl⟩:=ry
    cases x with
    | non=>cases rx; exact SeqAt.EqAt.str_none a t'
    | bl b=>cases rx; exact SeqAt.EqAt.str_bool a t' b
    | int b=>obtain ⟨t,rfl⟩:=rx; exact SeqAt.EqAt.str_int a t' b t
    | str b=>obtain ⟨t,rfl⟩:=rx; exact SeqAt.EqAt.str_str a t' b t
    | _=>exact absurd (show false=true from fx) Bool.false_ne_true
  | _=>exact absurd (show false=true from fy) Bool.false_ne_true
def eqU (x:V) (u:Value):Bool:=match u with
  | .none=>eqV .non x
  | .bool b=>eqV (.bl b) x
  | .int i _=>eqV (.int i) x
  | .str z _=>eqV (.str z) x
  | _=>false
theorem eqU_of {x y:V} {u:Value} (r:RelV y u) (f:flatV y=true):eqU x u=eqV y x:=by
  cases y with
  | non=>cases r; rfl
  | bl b=>cases r; rfl
  | int i=>obtain ⟨t,rfl⟩:=r; rfl
  | str z=>obtain ⟨t,rfl⟩:=r; rfl
  | _=>exact absurd (show false=true from f) Bool.false_ne_true
theorem any_eqU {x:V} : ∀ {xs:List V} {us:List Value},Vals xs us->xs.all flatV=true->us.any (eqU x)=xs.any fun y=>eqV y x
  | _,_,.nil,_=>rfl
  | y :: xs,u :: us,.cons r t,f=>by
    rw [List.all_cons,Bool.and_eq_true] at f
    rw [List.any_cons,List.any_cons,eqU_of r f.1,any_eqU t f.2]
theorem mem_eqAt {A:Around} {s:Shared} {x:V} {v:Value} (rx:RelV x v) (fx:flatV x=true) : ∀ {xs:List V} {us:List Value},Vals xs us->xs.all flatV=true->∀ u∈us,SeqAt.EqAt A s u v (eqU x u)
  | _,_,.nil,_=>fun u hu=>by cases hu
  | y :: xs,u :: us,.cons r t,f=>fun u' hu=>by
    rw [List.all_cons,Bool.and_eq_true] at f
    rcases List.mem_cons.mp hu with rfl | hu
    · rw [eqU_of r f.1]; exact eqAt_V r rx f.1 fx
    · exact mem_eqAt rx fx t f.2 u' hu
def inV (x:V) (xs:List V):Bool:=xs.any fun y=>eqV y x
def rIn (K:PySem.W.Frag) (neg:Bool):R2:=fun x y H Q=>∃ p xs,y=.ref p/\(SqL K H p xs\/SqT K H p xs)/\flatV x=true/\xs.all flatV=true/\Q (.bl (if neg then !inV x xs else inV x xs)) H
theorem op_in_seq:OpR X (compareOp .In) (rIn X.K false):=by
  intro pins s σ H x y v u Q I rx ry h
  obtain ⟨p,xs,rfl,hq,fx,fs,q⟩:=h
  cases ry
  rcases hq with hq | hq
  · obtain ⟨its,r,pl,hz⟩:=I.list hq
    refine SeqAt.in_listAt (eqU x) pl.isList (fun w hw=>mem_eqAt rx fx r fs w (by simpa using hw)) ⟨.bl _,H,I,rfl,?_⟩
    rw [show its.toArray.any (eqU x)=its.any (eqU x) by simp,any_eqU r fs]
    exact q
  · obtain ⟨its,r,pl,hz⟩:=I.tuple hq
    refine SeqAt.in_tupleAt (eqU x) pl (fun w hw=>mem_eqAt rx fx r fs w (by simpa using hw)) ⟨.bl _,H,I,rfl,?_⟩
    rw [show its.toArray.any (eqU x)=its.any (eqU x) by simp,any_eqU r fs]
    exact q
theorem op_notIn_seq:OpR X (compareOp .NotIn) (rIn X.K true):=by
  intro pins s σ H x y v u Q I rx ry h
  obtain ⟨p,xs,rfl,hq,fx,fs,q⟩:=h
  cases ry
  rcases hq with hq | hq
  · obtain ⟨its,r,pl,hz⟩:=I.list hq
    refine SeqAt.notIn_listAt (eqU x) pl.isList (fun w hw=>mem_eqAt rx fx r fs w (by simpa using hw)) ⟨.bl _,H,I,rfl,?_⟩
    rw [show its.toArray.any (eqU x)=its.any (eqU x) by simp,any_eqU r fs]
    exact q
  · obtain ⟨its,r,pl,hz⟩:=I.tuple hq
    refine SeqAt.notIn_tupleAt (eqU x) pl (fun w hw=>mem_eqAt rx fx r fs w (by simpa using hw)) ⟨.bl _,H,I,rfl,?_⟩
    rw [show its.toArray.any (eqU x)=its.any (eqU x) by simp,any_eqU r fs]
    exact q
theorem call_len_seq:CallR X (.builtin "len") (fun xs H Q=>∃ p ys,xs=[.ref p]/\(SqL X.K H p ys\/SqT X.K H p ys)/\Q (.int ys.length) H):=by
  intro pins s σ H xs us Q I r h
  obtain ⟨p,ys,rfl,hq,q⟩:=h
  obtain ⟨u,rfl,rx⟩:=vals1 r
  cases rx
  have hn:=line63
  rcases hq with hq | hq
  · obtain ⟨its,r',pl,hz⟩:=I.list hq
    have hlen:=r'.length
    exact Calls.call_len_list pl.isList (by simp only [List.size_toArray] <;> omega) ⟨.int ys.length,H,I.tok _,⟨s.toks+1,by rw [List.size_toArray,hlen]⟩,q⟩
  · obtain ⟨its,r',pl,hz⟩:=I.tuple hq
    have hlen:=r'.length
    exact len_tuple pl (by simp only [List.size_toArray] <;> omega) ⟨.int ys.length,H,I.tok _,⟨s.toks+1,by rw [List.size_toArray,hlen]⟩,q⟩
theorem call_list_of:CallR X (.type "list") (fun xs H Q=>∃ p ys,xs=[.ref p]/\(SqL X.K H p ys\/SqT X.K H p ys)/\∀ l,H l=none->Q (.ref l) (upd H l (.lst ys))):=by
  intro pins s σ H xs us Q I r h
  obtain ⟨p,ys,rfl,hq,q⟩:=h
  obtain ⟨u,rfl,rx⟩:=vals1 r
  cases rx
  have fin : ∀ (its:List Value),Vals ys its->ys.length<=sizeLine->∀ (h':Heap) (c':Nat),(∀ b o',s.heap.get? b=some o'->h'.get? b=some o') ->
      h'.get? s.heap.objs.size=some { cls:=.type "list",dict:=none,data:=.seq its.toArray c',slots:=#[] }->EP X pins σ Q (.ref s.heap.objs.size) { s with heap:=h' }:=fun its r' hz h' c' kp e =>
    ⟨.ref s.heap.objs.size,_,I.laid (t':=s.toks) kp (Nat.le_refl _) (show ObjOk X.prog X.w _ h' _ (.lst ys) from ⟨hz,its,c',r',e⟩),rfl,q _ (I.hok.fresh (Nat.le_refl _))⟩
  rcases hq with hq | hq
  · obtain ⟨its,r',pl,hz⟩:=I.list hq
    have hlen:=r'.length
    obtain ⟨o,ho,hc,n,hd⟩:=pl.isList
    exact call_list_seq p (.inl rfl) ho hc hd (fun h' c' kp e=>fin its r' hz h' c' kp e) (by simp only [List.size_toArray] <;> omega)
  · obtain ⟨its,r',pl,hz⟩:=I.tuple hq
    have hlen:=r'.length
    obtain ⟨o,ho,hc,n,hd⟩:=pl
    exact call_list_seq p (.inr rfl) ho hc hd (fun h' c' kp e=>fin its r' hz h' c' kp e) (by simp only [List.size_toArray] <;> omega)
theorem call_tuple_of:CallR X (.type "tuple") (fun xs H Q=>∃ p ys,xs=[.ref p]/\((SqL X.K H p ys/\∀ l,H l=none->Q (.ref l) (upd H l (.tup ys)))\/(SqT X.K H p ys/\Q (.ref p) H))):=by
  intro pins s σ H xs us Q I r h
  obtain ⟨p,ys,rfl,h⟩:=h
  obtain ⟨u,rfl,rx⟩:=vals1 r
  cases rx
  rcases h with ⟨hq,q⟩ | ⟨hq,q⟩
  · obtain ⟨its,r',pl,hz⟩:=I.list hq
    have hlen:=r'.length
    refine call_tuple_list pl.isList (fun h' kp=>?_) (by simp only [List.size_toArray] <;> omega)
    have I1:Inv X pins σ H { s with heap:=h' }:=I.kept (t':=s.toks) kp
    have I2:Inv X pins σ (upd H h'.objs.size (.tup ys)) { s with heap:=h'.push { cls:=.type "tuple",data:=.seq its.toArray } } :=
      I1.laid (t':=s.toks) (fun b o e=>Heap.get?_push_of_some _ e) (Nat.le_refl _) (show ObjOk X.prog X.w _ _ _ (.tup ys) from ⟨hz,its,r',IsTup.new _ _⟩)
    exact ⟨.ref h'.objs.size,_,I2,rfl,q _ (I1.hok.fresh (Nat.le_refl _))⟩
  · obtain ⟨its,r',pl,hz⟩:=I.tuple hq
    exact call_tuple_same pl ⟨.ref p,H,I,rfl,q⟩
def tyV (K:PySem.W.Frag) (T:String) (x:V) (H:Hp):Prop:=match x with
  | .str _=>T = "str"
  | .int _=>T = "int"
  | .ref p=>(T = "list"/\∃ xs,SqL K H p xs)\/(T = "tuple"/\∃ o,K.lookup p=some o/\o.cls=.type "tuple"/\o.dict=none) \/
      (T = "dict"/\((∃ kvs,H p=some (.dK kvs))\/∃ kvs,H p=some (.dT kvs)))\/(T = "set"/\∃ S n,H p=some (.set S n))
  | _=>False
theorem tyV_is {pins:List (Addr × Obj)} {σ:St} {H:Hp} {s:Shared} {T:String} {x:V} {v:Value} (I:Inv X pins σ H s) (r:RelV x v) (ty:tyV X.K T x H) :
    s.TypeIs v T/\∀ a,v=.ref a->∃ ob,s.heap.get? a=some ob/\ob.dict=none:=by
  cases x with
  | str z =>
    obtain ⟨t,rfl⟩:=r
    cases (show T = "str" from ty)
    exact ⟨typeIs_str s z t,fun _ e=>nomatch e⟩
  | int i =>
    obtain ⟨t,rfl⟩:=r
    cases (show T = "int" from ty)
    exact ⟨typeIs_int s i t,fun _ e=>nomatch e⟩
  | ref p =>
    cases r
    rcases ty with ⟨rfl,xs,hq⟩ | ⟨rfl,o,hk,hc,hd⟩ | ⟨rfl,hk⟩ | ⟨rfl,S,n,hk⟩
    · obtain ⟨its,_,pl,_⟩:=I.list hq
      refine ⟨pl.isList.typeIs,fun a e=>?_⟩
      cases e
      obtain ⟨o,n,e,c,hd,_⟩:=pl
      exact ⟨o,e,hd⟩
    · refine ⟨⟨o,I.kIn p o hk,hc⟩,fun a e=>?_⟩
      cases e
      exact ⟨o,I.kIn _ o hk,hd⟩
    · have z : ∃ o,s.heap.get? p=some o/\o.ExactDict:=by
        rcases hk with ⟨kvs,hk⟩ | ⟨kvs,hk⟩
        · obtain ⟨_,_,_,_,o,_,_,e,ex,_⟩:=I.hok p _ hk
          exact ⟨o,e,ex⟩
        · obtain ⟨_,_,_,_,o,_,_,e,ex,_⟩:=I.hok p _ hk
          exact ⟨o,e,ex⟩
      obtain ⟨o,e,ex⟩:=z
      refine ⟨⟨o,e,ex.1⟩,fun a e2=>?_⟩
      cases e2
      exact ⟨o,e,ex.2.1⟩
    · obtain ⟨o,_,_,_,e,ex,_⟩:=I.hok p _ hk
      refine ⟨⟨o,e,ex.1⟩,fun a e2=>?_⟩
      cases e2
      exact ⟨o,e,ex.2.1⟩
  | _=>exact False.elim ty
def tBM0 (K:PySem.W.Frag) (T:String) (r:V->List V->Hp->VK->Prop) (to:TE):TE:=fun σ H Q=>to σ H fun x H1=>tyV K T x H1/\r x [] H1 Q
def tBM (K:PySem.W.Frag) (T:String) (r:V->List V->Hp->VK->Prop) (to:TE) (t:TA):TE:=fun σ H Q=>to σ H fun x H1=>tyV K T x H1/\t σ H1 fun xs H2=>r x xs H2 Q
variable {o e:Expr} {es:List Expr} {to:TE} {t:TA} {name:Str} {apos cpos:Pos} {T id:String} {r:V->List V->Hp->VK->Prop}
theorem pe_bm0 (pa:PlainAttrs T) (slot:Slot T name id) (hty:typeOf (.builtin id)=pure (.type "method_descriptor")) (hm:MtR X id r) (ho:PE X o to)
    (hbase:attributeBase o name X.env (eval o X.env)=eval o X.env:=by rfl) (hline:(apos.endLine == cpos.line)=true:=by rfl):PE X (.Call (.Attribute o name apos) [] [] cpos) (tBM0 X.K T r to):=by
  intro pins s σ H Q I h
  refine wpAny_Call_method0_late hbase hline (thn (ho pins s σ H _ I h) fun v s1 ⟨x,H1,I1,r1,ty,q1⟩=>?_)
  obtain ⟨h1,h2⟩:=tyV_is I1 r1 ty
  exact ⟨T,id,pa,slot,hty,h1,h2,Calls.callWith_builtin rfl (PySem.evalArgs_none (hm pins s1 σ H1 x [] v [] Q I1 r1 .nil q1))⟩
theorem pe_bm (pa:PlainAttrs T) (slot:Slot T name id) (hty:typeOf (.builtin id)=pure (.type "method_descriptor")) (hm:MtR X id r) (ho:PE X o to) (ha:PA X (e :: es) t)
    (hbase:attributeBase o name X.env (eval o X.env)=eval o X.env:=by rfl)
    (hfew:((backTo cpos (starEach (e :: es) X.env)).all (fun x=>!x.1) && (backToKw cpos (keywordEach [] X.env)).all (fun x=>x.1.isSome)
      && decide ((e :: es).length+([]:List Keyword).length+(if ([]:List Keyword).isEmpty then 0 else 1) < 30))=true:=by rfl)
    (hline:(apos.endLine == cpos.line)=true:=by rfl) (hs:starEach (e :: es) X.env=(false,eval e X.env) :: starEach es X.env:=by rfl) (hplain:(backTo cpos (starEach es X.env)).any (·.1)=false:=by rfl) :
    PE X (.Call (.Attribute o name apos) (e :: es) [] cpos) (tBM X.K T r to t):=by
  intro pins s σ H Q I h
  refine wpAny_Call_method_late hbase hfew hline rfl (thn (ho pins s σ H _ I h) fun v s1 ⟨x,H1,I1,r1,ty,q1⟩=>?_)
  obtain ⟨h1,h2⟩:=tyV_is I1 r1 ty
  refine ⟨T,id,pa,slot,hty,h1,h2,?_⟩
  have hA:=ha cpos pins s1 σ H1 _ I1 q1
  rw [hs] at hA ⊢
  refine Calls.callWith_builtin (by show (false || (backTo cpos (starEach es X.env)).any (·.1))=false; rw [hplain] <;> rfl) (Calls.evalArgs_plain ?_)
  exact thn hA fun us s2 ⟨vs,H2,I2,r2,q2⟩=>hm pins s2 σ H2 x vs v us Q I2 r1 r2 q2
/- xs.append(e),list.index on a module's tuple .. are MtR facts of 06m -/
end
end L2
namespace L2
open PySem PySem.Spec PyProof.Rows
def MtM (X:Cx) (id:String) (r:V->List V->Hp->VK->Prop):Prop :=
  ∀ (pins:List (Addr × Obj)) (s:Shared) (σ:St) (H:Hp) (x:V) (xs:List V) (v:Value) (us:List Value) (Q:VK),Inv X pins σ H s->RelV x v->Vals xs us->r x xs H Q ->
    wpAny (model X.prog X.w) X.A (call (.builtin id) (v :: us)) (EP X pins σ Q) X.xe s
theorem Vals.one : ∀ {x:V} {us:List Value},Vals [x] us->∃ u,us=[u]/\RelV x u
  | _,_,.cons r .nil=>⟨_,rfl,r⟩
theorem Vals.zero : ∀ {us:List Value},Vals [] us->us=[]
  | _,.nil=>rfl
theorem Vals.reverse {xs:List V} {us:List Value} (h:Vals xs us):Vals xs.reverse us.reverse:=by
  induction h with
  | nil=>exact .nil
  | cons r t ih=>rw [List.reverse_cons,List.reverse_cons]; exact Vals.append ih (.cons r .nil)
theorem Vals.rep {xs:List V} {us:List Value} (h:Vals xs us) : ∀ k:Nat,Vals (List.replicate k xs).flatten (List.replicate k us).flatten
  | 0=>.nil
  | k+1=>by
    rw [List.replicate_succ,List.replicate_succ,List.flatten_cons,List.flatten_cons]
    exact Vals.append h (Vals.rep h k)
theorem foldl_rep (its:List Value) : ∀ (k:Nat) (acc:List Value),
    List.foldl (fun x1 x2=>x1++x2) acc.toArray (List.replicate k its.toArray)=(acc++(List.replicate k its).flatten).toArray
  | 0,acc=>by simp
  | k+1,acc=>by
    have e:acc.toArray++its.toArray=(acc++its).toArray:=by simp
    have e2:(acc++its)++(List.replicate k its).flatten=acc++(List.replicate (k+1) its).flatten:=by
      rw [List.replicate_succ,List.flatten_cons,List.append_assoc]
    rw [<- e2,<- foldl_rep its k (acc++its),<- e,List.replicate_succ,List.foldl_cons]
section
variable {X:Cx} {pins:List (Addr × Obj)} {σ:St} {H:Hp} {s:Shared} {l b:Addr} {xs ys zs:List V}
theorem Inv.lset {its its':List Value} {n:Nat} {f:Array Value->Array Value} {t':Nat} (I:Inv X pins σ H s) (hH:H l=some (.lst xs))
    (e:s.heap.get? l=some { cls:=.type "list",data:=.seq its.toArray n }) (hf:f its.toArray=its'.toArray) (hv:Vals ys its') (hz:ys.length<=sizeLine) :
    Inv X pins σ (upd H l (.lst ys)) { s with heap:=s.heap.update l (Obj.mapSeq f),toks:=t' }:=by
  have q:=PySem.IsL.update e f
  rw [hf] at q
  refine I.write (x:=l) (e:=l) (by rw [hH]; exact trivial) (.inl rfl) (fun b' u hb hu=>(Heap.get?_update_other s.heap (Obj.mapSeq f) (Ne.symm hb)).trans hu) ⟨_,q⟩ ?_
  exact ⟨hz,its',_,hv,q⟩
theorem Inv.lnew {its:List Value} {t':Nat} (I:Inv X pins σ H s) (hv:Vals ys its) (hz:ys.length<=sizeLine) :
    Inv X pins σ (upd H s.heap.objs.size (.lst ys)) { s with heap:=s.heap.push { cls:=.type "list",data:=.seq its.toArray },toks:=t' } :=
  I.laid (fun _ _ q=>Heap.get?_push_of_some _ q) (Nat.le_refl _) ⟨hz,its,0,hv,Heap.get?_push_size _ rfl⟩
theorem Inv.fresh (I:Inv X pins σ H s):H s.heap.objs.size=none:=I.hok.fresh (Nat.le_refl _)
theorem Inv.lstM (I:Inv X pins σ H s) (hH:H l=some (.lst xs)):xs.length<=sizeLine/\∃ (its:List Value) (n:Nat),Vals xs its/\xs.length=its.length/\s.heap.get? l=some { cls:=.type "list",data:=.seq its.toArray n }:=by
  obtain ⟨z,its,n,r,e⟩:=I.hok l _ hH
  exact ⟨z,its,n,r,r.length,e⟩
theorem notLongL {n:Nat} (h:n<=sizeLine):Builtin.List.listTooLong n=false:=by
  unfold Builtin.List.listTooLong
  exact decide_eq_false (by omega)
end
section
variable {X:Cx}
def rAppend:V->List V->Hp->VK->Prop:=fun x vs H Q=>∃ l xs y,x=.ref l/\vs=[y]/\H l=some (.lst xs)/\xs.length < sizeLine/\Q .non (upd H l (.lst (xs++[y])))
theorem mt_append:MtM X "list.append" rAppend:=by
  intro pins s σ H x vs v us Q I rx rv h
  obtain ⟨l,xs,y,rfl,rfl,hH,hz,q⟩:=h
  cases rx
  obtain ⟨u,rfl,ru⟩:=rv.one
  obtain ⟨z,its,n,r,hl,e⟩:=I.lstM hH
  refine call_meets F.slot_list_append ⟨_,e,rfl⟩ F.entry_list_append (F.args_list_append_2 _ _) (PySem.list_append l its.toArray n u (by rw [List.size_toArray]; omega)) ⟨e,?_⟩
  refine ⟨.non,_,I.lset (its':=its++[u]) hH e (by simp) (r.append (.cons ru .nil)) ?_,rfl,q⟩
  rw [List.length_append,List.length_singleton]
  omega
def rExtend:V->List V->Hp->VK->Prop:=fun x vs H Q=>∃ l b xs zs,x=.ref l/\vs=[.ref b]/\H l=some (.lst xs)/\H b=some (.lst zs)/\xs.length+zs.length<=sizeLine/\Q .non (upd H l (.lst (xs++zs)))
theorem mt_extend:MtM X "list.extend" rExtend:=by
  intro pins s σ H x vs v us Q I rx rv h
  obtain ⟨l,b,xs,zs,rfl,rfl,hH,hB,hz,q⟩:=h
  cases rx
  obtain ⟨u,rfl,ru⟩:=rv.one
  cases ru
  obtain ⟨z,its,n,r,hl,e⟩:=I.lstM hH
  obtain ⟨z2,its2,n2,r2,hl2,e2⟩:=I.lstM hB
  have hsz:its.toArray.size+its2.toArray.size<=sizeLine:=by rw [List.size_toArray,List.size_toArray]; omega
  have hlong : ¬ (!its.toArray.isEmpty && Builtin.List.listTooLong (its.toArray.size+its2.toArray.size))=true:=by
    rw [notLongL hsz,Bool.and_false]
    exact Bool.false_ne_true
  refine call_meets F.slot_list_extend ⟨_,e,rfl⟩ F.entry_list_extend (F.args_list_extend_2 _ _)
    (AutoSeq1.list_extend_list_list_0 l its.toArray n b its2.toArray n2 hlong (by rw [List.size_toArray]; omega) (by omega)) ⟨e,e2,?_⟩
  refine ⟨.non,_,I.lset (its':=its++its2) hH e (by simp) (r.append r2) ?_,rfl,q⟩
  rw [List.length_append]
  omega
def rReverse:V->List V->Hp->VK->Prop:=fun x vs H Q=>∃ l xs,x=.ref l/\vs=[]/\H l=some (.lst xs)/\Q .non (upd H l (.lst xs.reverse))
theorem mt_reverse:MtM X "list.reverse" rReverse:=by
  intro pins s σ H x vs v us Q I rx rv h
  obtain ⟨l,xs,rfl,rfl,hH,q⟩:=h
  cases rx
  have hus:=rv.zero
  subst hus
  obtain ⟨z,its,n,r,hl,e⟩:=I.lstM hH
  refine call_meets F.slot_list_reverse ⟨_,e,rfl⟩ F.entry_list_reverse (F.args_list_reverse_1 _) (AutoSeq1.list_reverse_list_0 l its.toArray n (by rw [List.size_toArray]; omega)) ⟨e,?_⟩
  refine ⟨.non,_,I.lset (its':=its.reverse) hH e (by simp) r.reverse ?_,rfl,q⟩
  rw [List.length_reverse]
  omega
def rRep:R2:=fun x y H Q=>∃ l k xs,x=.ref l/\y=.int k/\H l=some (.lst xs)/\-(2 ^ 63)<=k/\k < 2 ^ 63/\xs.length*k.toNat<=sizeLine /\
  ∀ p,H p=none->Q (.ref p) (upd H p (.lst (List.replicate k.toNat xs).flatten))
theorem len_rep {α:Type} (xs:List α) (k:Nat):(List.replicate k xs).flatten.length=k*xs.length:=by
  induction k with
  | zero=>simp
  | succ k ih=>rw [List.replicate_succ,List.flatten_cons,List.length_append,ih,Nat.succ_mul,Nat.add_comm]
theorem op_rep:OpR X (binaryOp .Mult) rRep:=by
  intro pins s σ H x y v u Q I rx ry h
  obtain ⟨l,k,xs,rfl,rfl,hH,h1,h2,hz,q⟩:=h
  cases rx
  obtain ⟨t,rfl⟩:=ry
  obtain ⟨z,its,n,r,hl,e⟩:=I.lstM hH
  have hlen:its.toArray.size*k.toNat<=sizeLine:=by rw [List.size_toArray,<- hl]; exact hz
  have hcap : ¬ its.toArray.size*k.toNat > (2 ^ 63 - 1) / 8:=by
    have:(sizeLine:Nat)<=(2 ^ 63 - 1) / 8:=by decide
    omega
  have hfit : ¬ (!Builtin.List.listFitsIndex k)=true:=by
    rw [fitsIndex_both h1 h2]
    exact Bool.false_ne_true
  have hlong : ¬ Builtin.List.listTooLong (its.toArray.size*k.toNat)=true:=by
    rw [notLongL hlen]
    exact Bool.false_ne_true
  have hnew:List.foldl (fun x1 x2=>x1++x2) #[] (List.replicate (if its.toArray.isEmpty=true then 0 else k.toNat) its.toArray)=(List.replicate k.toNat its).flatten.toArray:=by
    have f0 : ∀ m:Nat,List.foldl (fun x1 x2=>x1++x2) #[] (List.replicate m its.toArray)=(List.replicate m its).flatten.toArray:=fun m=>by
      have:=foldl_rep its m []
      rw [List.nil_append] at this
      exact this
    rw [f0]
    cases its with
    | nil=>simp
    | cons a r'=>rw [if_neg (by simp)]
  refine wpAny_binaryOp_repeat_ref (T := "list") (U := "int") (by decide) ⟨_,e,rfl⟩ (fun s'=>typeIs_int s' k t) noFill_list_mul F.fills_int_mul F.slot_int_rmul repeat_list F.slot_int_index.lookup
    (call_meets F.slot_int_rmul (typeIs_int s k t) F.entry_int_rmul (F.args_int_rmul_2 _ _) (int___rmul___int_list k t l its.toArray n)
      ⟨e,rfl,⟨_,e,rfl⟩,call_meets F.slot_list_mul ⟨_,e,rfl⟩ F.entry_list_mul (F.args_list_mul_2 _ _) (AutoListH.list___mul___list_int_3 l its.toArray n k t hfit hcap hlong) ⟨e,?_⟩⟩)
  rw [hnew]
  exact ⟨.ref _,_,I.lnew (t':=s.toks) (r.rep k.toNat) (by rw [len_rep,Nat.mul_comm]; exact hz),rfl,q _ I.fresh⟩
end
section
variable {prog:Program} {w:World} {A:Around} {E:Value->Shared->Prop} {s:Shared}
theorem bounds_run {a c n:Nat} (hac:a<=c) (hc:c<=n):sliceBounds (some (a:Int)) (some (c:Int)) none n=((a:Int),(c:Int),1):=by
  simp only [sliceBounds,Option.getD_none]
  have h1 : ¬ ((a:Int) < 0):=by omega
  have h2 : ¬ ((c:Int) < 0):=by omega
  simp only [h1,h2,if_false,show (1:Int) > 0 by decide,if_true]
  congr 1
  · omega
  · congr 1; omega
set_option maxRecDepth 100000 in
theorem setItem_slice {l b sl:Addr} {items new:Array Value} {n n2:Nat} {vl vu:Value} {a c:Nat} {Q:Unit->Shared->Prop}
    (e:s.heap.get? l=some { cls:=.type "list",data:=.seq items n }) (e2:s.heap.get? b=some { cls:=.type "list",data:=.seq new n2 }) (hne:l≠b)
    (hs:s.heap.IsSliceOf sl vl vu .none) (pl:IsPart vl (some (a:Int))) (pu:IsPart vu (some (c:Int))) (hac:a<=c) (hc:c<=items.size)
    (hsz:items.size+new.size<=sizeLine) (h:Q () { s with heap:=s.heap.update l (Obj.mapSeq fun xs=>xs.extract 0 a++new++xs.extract c xs.size) }) :
    wpAny (model prog w) A (setItem (.ref l) (.ref sl) (.ref b)) Q E s:=by
  have hl:s.heap.IsList l items:=PySem.IsL.isList e
  have hb:s.heap.IsList b new:=PySem.IsL.isList e2
  obtain ⟨os,hos,hcs,hds⟩:=id hs
  have hTs:s.TypeIs (.ref sl) "slice":=⟨os,hos,hcs⟩
  have hstep : ¬ ((rawPart none == rawInt 0)=true):=Bool.false_ne_true
  have hsame:Builtin.List.listSameRef (.ref l) (.ref b)=false:=by
    unfold Builtin.List.listSameRef
    exact beq_eq_false_iff_ne.mpr hne
  have hmax:(max (a:Int) (c:Int)).toNat=c:=by omega
  have hz':((fun xs:Array Value=>xs.extract 0 a++new++xs.extract c xs.size) items).size<=sizeLine+1:=by
    simp only [Array.size_append,Array.size_extract]
    omega
  unfold setItem
  try with_reducible refine wpAny_holding ?_
  first | refine wpAny_bind (wpAny_pure ?_) | skip
  refine wpAny_bind (wpAny_sequenceKey hl.typeIs (by decide) ?_)
  refine wpAny_bind (wpAny_callSpecial?_slot (name:=Str.ofString "__setitem__") hl.typeIs slot_list_setitem
    (wpAny_call_entry slot_list_setitem hl.typeIs entry_list_setitem ?_ (args_list_setitem _ _ _)))
  show wpAny _ _ (Builtin.List.listSubscript? (.ref sl) >>= _) _ _ s
  refine wpAny_bind ?_
  unfold Builtin.List.listSubscript?
  refine wpAny_bind (wpAny_specialOf hTs slice_no_index ?_)
  simp only [Option.isNone_none,if_true]
  refine wpAny_pure ?_
  show wpAny _ _ (typeOf (.ref sl) >>= _) _ _ s
  refine wpAny_bind (wpAny_typeOf hTs ?_)
  first
    | rw [if_neg (by decide)]
    | refine PySem.W.KFB.if_not (by decide) ?_
  rw [listSliceParts_eq]
  refine wpAny_bind (wpAny_bind (wpAny_field hos hds (x:=.none) rfl (wpAny_bind (wpAny_listPart .none ?_))))
  rw [if_neg hstep]
  refine wpAny_bind (wpAny_field hos hds (x:=vl) rfl (wpAny_bind (wpAny_listPart pl ?_)))
  refine wpAny_bind (wpAny_field hos hds (x:=vu) rfl (wpAny_bind (wpAny_listPart pu (wpAny_pure ?_))))
  first
    | simp only [hsame,Bool.false_eq_true,if_false]
    | refine PySem.W.KFB.if_not hsame ?_
    | (dsimp only
       rw [if_neg (by rw [hsame]; exact Bool.false_ne_true)])
  refine wpAny_bind (m:=Builtin.List.listAllItems (.ref b) "must assign iterable to extended slice") ?_
  unfold Builtin.List.listAllItems
  refine wpAny_bind (wpAny_typeOf hb.typeIs ?_)
  first
    | refine PySem.W.KFB.if_so (by decide) ?_
    | rw [if_pos (by decide)]
    | simp only [beq_self_eq_true,Bool.true_or,if_true]
  unfold Builtin.List.listItems
  refine wpAny_bind (wpAny_seqItems e2 rfl (wpAny_pure ?_))
  refine wpAny_bind (wpAny_bind (wpAny_seqItems e rfl (wpAny_pure ?_)))
  refine wpAny_bind (wpAny_of_eq ((sliceIndices_raw (some (a:Int)) (some (c:Int)) none items.size (by simp)).trans (congrArg (pure:Int × Int × Int->Sem (Int × Int × Int)) (bounds_run hac hc))) ?_)
  show wpAny _ _ (if ((1:Int) == 1)=true then _ else _) _ _ s
  rw [if_pos (by decide)]
  refine wpAny_bind (wpAny_rule ?_)
  first
    | simp only [notLongL hsz,Bool.false_eq_true,if_false]
    | refine PySem.W.KFB.if_not (notLongL hsz) ?_
  first | refine wpAny_bind (wpAny_pure ?_) | skip
  show wpAny _ _ (updateSeq l (fun xs=>xs.extract 0 ((a:Int)).toNat++new++xs.extract (max (a:Int) (c:Int)).toNat xs.size) >>= _) _ _ s
  rw [hmax,Int.toNat_natCast]
  refine wpAny_bind (wpAny_updateSeq (hz:=Nat.le_trans (Nat.le_add_right _ _) hsz) (_hz':=hz') e rfl ?_)
  refine wpAny_bind (wpAny_letGo ?_)
  first
    | exact wpAny_bind (wpAny_pure (wpAny_pure ⟨.none,rfl,wpAny_pure h⟩))
    | exact wpAny_pure ⟨.none,rfl,wpAny_pure h⟩
end
end L2
namespace Att
open PySem PySem.W PySem.Calls PyProof.Rows
theorem ints_of_wellAll {P:Params} {h:Heap} : ∀ (ns:List Int) (vs:List Value),WellAll P h vs (ns.map WData.int)->IntsAre vs ns:=by
  intro ns
  induction ns with
  | nil =>
    intro vs w
    rw [List.map_nil] at w
    cases w
    exact .nil
  | cons n ns ih =>
    intro vs w
    rw [List.map_cons] at w
    cases w with
    | cons a b =>
      cases a
      exact .cons _ _ (ih _ b)
theorem script_of {l:OpenLaw} {n:Nat} (hn:l.most=some n) {P:Params} {h:Heap} {args:List WData} {vals:List Value}
    (hpre:l.row.toRowW.claim.pre args=true) (hwl:WellAll P h vals args) :
    ∃ a vs ns,vals=[Value.ref a]/\args=[WData.list (ns.map WData.int)]/\h.get? a=some { cls:=.type "list",data:=.seq vs.toArray }/\IntsAre vs ns/\ns.length<=n:=by
  have hsh:WShape.hasAll [] args [.list .int]=true:=(pre_splitW hpre).1
  have hc:l.pre.holds [] { args:=args }=true:=(pre_splitW hpre).2
  obtain ⟨d,r,rfl,h1,h2⟩:=hasAllW_cons hsh
  obtain rfl:=hasAllW_nil h2
  obtain ⟨xs,rfl,h3⟩:=hasW_list h1
  obtain ⟨ns,rfl⟩:=items_int h3
  have hlen:ns.length<=n:=by
    unfold OpenLaw.pre at hc
    have h4:(WTm.not (.lt (.lit (.int (n:Int))) (.len (.arg 0)))).holds [] { args:=[.list (ns.map .int)] }=true:=by
      have h4:=(holds_andW hc).1
      rw [hn] at h4
      exact h4
    have h5:=condW_of h4 (w_not (w_lt w_lit (w_len_list (w_arg rfl))))
    rw [List.length_map] at h5
    refine Nat.le_of_not_lt fun q=>?_
    have q':(n:Int) < ((ns.length:Nat):Int):=by omega
    first
      | (rw [decide_eq_true q'] at h5; exact absurd h5 (by decide))
      | (simp at h5; omega)
  cases hwl with
  | cons w1 w2 =>
    cases w2
    cases w1 with
    | list ho hall=>exact ⟨_,_,ns,rfl,rfl,ho,ints_of_wellAll ns _ hall,hlen⟩
theorem post_true (l:OpenLaw) (args:List WData):l.row.toRowW.claim.post args (.bool true) args=true :=
  postW_of (r:=l.row.toRowW) (X:=(true == true))
    (show WShape.has [] (.bool true) .bool=true by first | rfl | decide | simp [WShape.has,WShape.arms,WShape.armsAll])
    (show (WTm.eq .res (.lit (.bool true))).value [] { args:=args,res:=some (.bool true),after:=args }=some (.bool (true == true)) from w_eq_bool (w_res rfl) w_lit) rfl
theorem attach_call {l:OpenLaw} {n:Nat} {q:Program} {loose:List Str} {XP:(Str->Option Value)->Heap->Prop} {YP:World->Heap->Prop} {d:DefRec}
    (hn:l.most=some n) (hdf:d.params.defaults=[])
    (call : ∀ (w:World) (s₀ s₁:Shared) (mg mb:Str->Option Value) (fa:Addr) (o:Obj) (pm cd doc:Value) (a:Addr) (vs:List Value) (ns:List Int),
      Ground q loose [] XP w s₀ mg mb s₁.heap->YP w s₁.heap ->
      s₁.heap.get? fa=some o->o.data=.func (docDef d.name d.params d.body d.scope pm cd doc)->s₁.heap.CodeRec cd d.name->mg d.name=some (.ref fa) ->
      s₁.heap.get? a=some { cls:=.type "list",data:=.seq vs.toArray }->IntsAre vs ns->ns.length<=n->s₁.gens = #[] ->
      codeAny (model l.prog w) callerA (.call (.ref fa) ⟨[.ref a],[]⟩) (fun r s'=>r=.ok (.ret (.bool true))/\OldK s₁.heap s'.heap/\s'.os=s₁.os/\AllBare s'.gens) s₁) :
    WalkO q loose XP YP l.row.toRowW d [] (fun f vs=>PySem.call f vs):=by
  intro w s₀ s₁ mg mb G Y fa o pm cd doc dV kV ho hd hcd hD hmg hg args vals as hpre hlay hrd hwl hlo
  obtain rfl:dV=.none:=Dflts.none hD hdf
  obtain rfl:kV=.none:=Dflts.noKw hD
  obtain ⟨a,vs,ns,rfl,rfl,hobj,hints,hlen⟩:=script_of hn hpre hwl
  refine enter_call (codeAny_mono (call w s₀ s₁ mg mb fa o pm cd doc a vs ns G Y ho (fd_plain hd) hcd hmg hobj hints hlen hg) fun r s' hq=>?_)
  obtain ⟨rfl,h2,h3,h4⟩:=hq
  exact ⟨.inl ⟨.bool true,.bool true,[],rfl,fun _=>rfl,.bool true,post_true l _,fun _=>⟨List.Pairwise.nil,fun _ hm=>(nomatch hm)⟩⟩,h2,h3,h4⟩
end Att
namespace L2
open PySem PySem.Spec PyProof.Rows
theorem vals_ints : ∀ {vs:List Value} {ns:List Int},IntsAre vs ns->Vals (ns.map V.int) vs
  | _,_,.nil=>.nil
  | _,_,.cons n t h=>.cons ⟨t,rfl⟩ (vals_ints h)
def Only (H:Hp):Prop:=∀ b,H b=none\/∃ o xs,H b=some (.frz o (.lst xs))
theorem law_call {P:Program} {w:World} {K:PySem.W.Frag} {mg mb:Str->Option Value} {CX:CXT} {k:Nat} {fa a:Addr} {fd:FuncData} {x:Str} {sp:Sp} {s₁:Shared} {vs:List Value} {ns:List Int}
    (KX:K.In s₁.heap) (hns:s₁.heap.Ns mainGlobals mg) (hb:s₁.heap.Ns builtinsNs mb) (hbb : ∀ x:Str,x ≠ "__name__"->mb x=bootBuiltins x) (hlim:s₁.heap.NoLimit) (hg:s₁.gens = #[])
    (ha:s₁.heap.get? a=some { cls:=.type "list",data:=.seq vs.toArray }) (hi:IntsAre vs ns) (hl:ns.length<=sizeLine) (hr:Room k callerA)
    (F : ∀ base:Heap,K.In base->base.Ns mainGlobals mg->FnOk P w K mg base CX k fa fd [x] sp) (hbind : ∀ (s:Shared) (u:Value),BindsTo s fd ⟨[u],[]⟩ [(x,u)])
    (hsp : ∀ H:Hp,Only H->SqL K H a (ns.map V.int)->sp [.ref a] H (fun v _=>v=.bl true) fun _ _ _=>False)
    (hCX : ∀ H e s',CX [] H s₁ (fun _ _ _=>False) e s'->False) :
    codeAny (model P w) callerA (.call (.ref fa) ⟨[.ref a],[]⟩) (fun r s'=>r=.ok (.ret (.bool true))/\OldK s₁.heap s'.heap/\s'.os=s₁.os/\AllBare s'.gens) s₁:=by
  have rv:=vals_ints hi
  have lenV:=hi.length
  have core : ∀ H:Hp,Only H->SqL K H a (ns.map V.int)->HOk P w H s₁.heap->(∀ b,H b≠none->b=a)->(H a≠none->K.lookup a=none) ->
      codeAny (model P w) callerA (.call (.ref fa) ⟨[.ref a],[]⟩) (fun r s'=>r=.ok (.ret (.bool true))/\OldK s₁.heap s'.heap/\s'.os=s₁.os/\AllBare s'.gens) s₁:=by
    intro H hO hS hok hA hK
    have base_of : ∀ {b:Addr} {o:Obj},s₁.heap.get? b=some o->H b=none->(hidT s₁.heap H).get? b=some o:=fun e n=>hidT_get e n
    have noA : ∀ {b:Addr} {o:Obj} {es:Array DictEntry} {ep:Nat},s₁.heap.get? b=some o->o.data=.dict es ep->H b=none:=fun {b o es ep} e d=>by
      cases q:H b with
      | none=>rfl
      | some u =>
        have e':b=a:=hA b (by rw [q]; simp)
        subst e'
        rw [ha] at e; cases e
        have d':Data.seq vs.toArray _=Data.dict es ep:=d
        cases d'
    have nsK : ∀ {b:Addr} {m:Str->Option Value},s₁.heap.Ns b m->(hidT s₁.heap H).Ns b m:=fun {b m} ⟨o,es,ep,e,d,r⟩=>⟨o,es,ep,base_of e (noA e d),d,r⟩
    have hKb:K.In (hidT s₁.heap H):=fun b o e=>base_of (KX b o e) (by
      cases q:H b with
      | none=>rfl
      | some u =>
        have e':b=a:=hA b (by rw [q]; simp)
        subst e'
        rw [hK (by rw [q]; simp)] at e; cases e)
    have hM:Mod K mg (hidT s₁.heap H):=⟨hKb,nsK hns,⟨mb,nsK hb,hbb⟩,let ⟨mc,h1,h2⟩:=hlim; ⟨mc,nsK h1,h2⟩⟩
    have e0:Env0 P w K mg (hidT s₁.heap H) callerA [] s₁ H:=⟨rfl,hM,fun b o e=>of_hidT e,Nat.le_of_eq (hidT_size _ _),trivial,fun b hb=>absurd (show b∈([]:List Addr) from hb) (by simp),hok,.of_eq hg⟩
    refine codeAny_mono ((F _ hKb (nsK hns)).run callerA [] s₁ H ⟨[.ref a],[]⟩ [.ref a] [.ref a] _ _ hr e0 (hbind s₁ (.ref a)) (.cons rfl .nil) (hsp H hO hS)) fun r s' h=>?_
    cases r with
    | error e=>exact (hCX H e s' h).elim
    | ok fl =>
      cases fl with
      | next=>exact False.elim h
      | brk=>exact False.elim h
      | cont=>exact False.elim h
      | ret u =>
        obtain ⟨v,H',os,bare,un,hok',r',q⟩:=h
        have q':v=.bl true:=q
        subst q'
        obtain rfl:u=Value.bool true:=r'
        refine ⟨rfl,OldK.of_keep fun b o e=>?_,os,bare⟩
        cases q:H b with
        | none=>exact un.keep b o e q (by intro z; exact absurd (show b∈([]:List Addr) from z) (by simp)) (by simp)
        | some u =>
          rcases hO b with z | ⟨ob,xs,z⟩
          · rw [q] at z; cases z
          · have z2:=un.frzs b ob _ z
            obtain ⟨e1,_⟩:=hok b _ z
            obtain ⟨e2,_⟩:=hok' b _ z2
            rw [e] at e1; cases e1
            exact e2
  cases hk:K.lookup a with
  | some o =>
    have e:=KX a o hk
    rw [ha] at e
    cases e
    refine core (fun _=>none) (fun _=>.inl rfl) (.inr ⟨_,vs.toArray,_,hk,rfl,rfl,rfl,by rw [List.size_toArray,lenV]; exact hl,by simpa using rv⟩) (fun b u z=>by have z':(none:Option HO)=some u:=z; cases z') (fun b z=>absurd rfl z) fun z=>absurd rfl z
  | none =>
    refine core (fun b=>if b=a then some (.frz { cls:=.type "list",data:=.seq vs.toArray } (.lst (ns.map V.int))) else none) (fun b=>?_) (.inl (.inr ⟨{ cls:=.type "list",data:=.seq vs.toArray },if_pos rfl⟩)) (fun b u z=>?_) (fun b z=>?_) fun _=>hk
    · by_cases hb:b=a
      · exact .inr ⟨_,_,if_pos hb⟩
      · exact .inl (if_neg hb)
    · by_cases hb:b=a
      · have z':=(if_pos hb).symm.trans z
        cases z'
        subst hb
        exact ⟨ha,by rw [List.length_map]; exact hl,vs,_,rv,ha⟩
      · have z':=(if_neg hb).symm.trans z
        cases z'
    · by_cases hb:b=a
      · exact hb
      · exact absurd (if_neg hb) z
end L2
namespace L2
open PySem PySem.Spec PyProof.Rows
abbrev KOf {K:PySem.W.Frag} {h:Heap} (_:K.In h):PySem.W.Frag:=K
theorem walk_of {l:PySem.W.OpenLaw} {n k:Nat} {q:Program} {loose:List Str} {XP:(Str->Option Value)->Heap->Prop} {YP:World->Heap->Prop} {d:DefRec} {K:Params->PySem.W.Frag} {CX:World->CXT} {sp:World->Sp} {x:Str}
    (hn:l.most=some n) (hn2:n<=sizeLine) (hdf:d.params.defaults=[]) (hr:Room k callerA)
    (hY : ∀ (w:World) (h:Heap),YP w h->(K w.params).In h)
    (F : ∀ (w:World) (mg:Str->Option Value) (fa:Addr) (h:Heap),(K w.params).In h->h.Ns mainGlobals mg->mg d.name=some (.ref fa) ->
      ∃ fd:FuncData,(∀ (s:Shared) (u:Value),BindsTo s fd ⟨[u],[]⟩ [(x,u)]) /\
        ∀ base:Heap,(K w.params).In base->base.Ns mainGlobals mg->FnOk l.prog w (K w.params) mg base (CX w) k fa fd [x] (sp w))
    (hsp : ∀ (w:World) (H:Hp) (a:Addr) (ns:List Int),ns.length<=n->Only H->SqL (K w.params) H a (ns.map V.int)->sp w [.ref a] H (fun v _=>v=.bl true) fun _ _ _=>False)
    (hCX : ∀ (w:World) (H:Hp) (s:Shared) (e:Value) (s':Shared),CX w [] H s (fun _ _ _=>False) e s'->False) :
    PySem.W.WalkO q loose XP YP l.row.toRowW d [] (fun f vs=>PySem.call f vs):=by
  refine Att.attach_call hn hdf fun w s₀ s₁ mg mb fa o pm cd doc a vs ns G Y ho hd hcd hmg hobj hints hlen hg=>?_
  have KX:=hY w _ Y
  obtain ⟨fd,hb,hF⟩:=F w mg fa _ KX G.T.g hmg
  exact law_call KX G.T.g G.T.b G.T.builtins G.T.nolimit hg hobj hints (Nat.le_trans hlen hn2) hr hF hb (fun H hO hS=>hsp w H a ns hlen hO hS) fun H e s'=>hCX w H s₁ e s'
end L2
/- THE LAST THEOREM (shape; LID,My.* are yours):
   My.Adr: a structure of the addresses that your layer names (classes,functions); My.Txt K t: a structure (Prop) of the equations over K;
   My.txt_mk : {K} {implicit addresses ..} (e1:nsIn K mainGlobals "law" = some (some (.ref f))) (e2:K.lookup f=some ⟨oc,od,.func (fnOf "law" "law" params body scope dV kV doc pm an cdv ct),sl⟩) (e3:codeIn K cdv "law" = true) .. : ∃ t,My.Txt K t
set_option maxRecDepth 100000 in
set_option maxHeartbeats 0 in
theorem PySem.Challenge.cw_LID_holds : PySem.Challenge.rw_LID.Holds := by
  w_on; o_law; k_head; (case hw=>w_witness2)
  k_fill
  refine L2.walk_of (l:=PySem.Challenge.rw_LID) (n:=63) (k:=40) (x := "script") (CX:=fun w=>..) (sp:=fun _=>My.sp_law) rfl (by decide) rfl ⟨rfl,by decide,by decide⟩ (fun w h Y=>PySem.W.kIn_of Y) ?F ?S ?C
  case F =>
    intro w mg fa h KX G hmg
    have T : ∃ t,My.Txt (L2.KOf KX) t:=by
      dsimp only [L2.KOf]                          -- K must stand as «<heap const> w.params» for k_is
      refine' My.txt_mk ?e1 ?e2 ?e3 ..
      (case e1=>PySem.W.k_is)                    -- in the order: a name->its address->its object->its parts
      (case e2=>PySem.W.k_is)
      ..
    obtain ⟨t,T⟩:=T
    have e0:=hmg.symm.trans (PySem.W.mg_of KX G T.law)
    cases e0                                       -- fa is the law's own address
    exact ⟨_,fun s u=>.of_eq rfl,fun base kb nb=>My.law_fn T kb nb⟩     -- if «.of_eq rfl» comes too early: refine' ⟨_,?b,fun base kb nb=>My.law_fn T kb nb⟩; exact fun s u=>.of_eq rfl
  case S=>exact fun w H a ns hl hO hS=>..
  case C=>exact ..
(the tactic k_is has no namespace: write k_is) -/
namespace L2
open PySem PySem.Spec PyProof.Rows
def inClass (s:Stmt) (j:Nat):Stmt:=match s with
  | .ClassDef _ _ _ body _ _ _ _ _ _ _=>body.getD j (.Pass ⟨0,0,0,0⟩)
  | _=>.Pass ⟨0,0,0,0⟩
def defArgs (s:Stmt):Arguments:=match s with
  | .FunctionDef _ a _ _ _ _ _ _ _ _=>a
  | _=>{ posonlyargs:=[],args:=[],vararg:=none,kwonlyargs:=[],kw_defaults:=[],kwarg:=none,defaults:=[] }
def defBody (s:Stmt):List Stmt:=match s with
  | .FunctionDef _ _ b _ _ _ _ _ _ _=>b
  | _=>[]
def defScope (s:Stmt):Scope:=match s with
  | .FunctionDef _ _ _ _ _ _ sc _ _ _=>sc
  | _=>{ kind:=.function,names:=[],isGenerator:=false,isCoroutine:=false }
abbrev CX0:CXT:=fun _ _ _ _ _ _=>False
abbrev E0:XK:=fun _ _ _=>False
theorem pass0 {X:Cx}:Passes CX0 X E0:=fun _ _ _ _ _ _ _ h=>h.elim
structure Fun (K:PySem.W.Frag) (x qual:Str) (st:Stmt) (f:Addr) (fd:FuncData):Prop where
  ex : ∃ (oc:Value) (od:Option Addr) (kV doc pm:Value) (an:Option Addr) (cdv ct:Value) (osl:Array (Option Value)),
    fd=PySem.W.fnOf x qual (defArgs st) (defBody st) (defScope st) .none kV doc pm an cdv ct/\K.lookup f=some ⟨oc,od,.func fd,osl⟩/\PySem.W.codeIn K cdv qual=true
  kp:PySem.W.keepIn K (.ref f)=true
section
variable {P:Program} {w:World} {K:PySem.W.Frag} {mg:Str->Option Value} {base:Heap}
theorem Fun.ok {x qual:Str} {st:Stmt} {f:Addr} {fd:FuncData} {N ps:List Str} {k:Nat} {sp:Sp} (F:Fun K x qual st f fd) (S:FnScope N ps (defScope st)) (len : ∀ vs H Q E,sp vs H Q E->vs.length=ps.length)
    (hbody : ∀ (cdv:Value) (A:Around) (outer:List Env) (s:Shared) (H:Hp) (vs:List V) (Q:VK) (E:XK),Room k (A.deeper (envOfC qual (defScope st) s.heap.objs.size f cdv))->sp vs H Q E ->
      ∃ t,PSs (cxOf CX0 P w K mg base N qual (defScope st) f cdv A outer s H E).nox (defBody st) t/\t { nx:=fun _ H'=>Q .non H',rt:=Q } (start N vs) H):FnOk P w K mg base CX0 (k+1) f fd ps sp:=by
  obtain ⟨oc,od,kV,doc,pm,an,cdv,ct,osl,rfl,lk,hcd⟩:=F.ex
  refine fn_of lk hcd S len fun A outer s H vs Q E hr hsp=>?_
  obtain ⟨t,h,q⟩:=hbody cdv A outer s H vs Q E hr hsp
  exact ⟨t,h.nox,q⟩
theorem Fun.binds {x qual:Str} {st:Stmt} {f:Addr} {fd:FuncData} {ps:List Str} (F:Fun K x qual st f fd)
    (h : ∀ (kV doc pm:Value) (an:Option Addr) (cdv ct:Value) (us:List Value),us.length=ps.length->bindArgs (PySem.W.fnOf x qual (defArgs st) (defBody st) (defScope st) .none kV doc pm an cdv ct) ⟨us,[]⟩=pure (ps.zip us)):Binds K fd ps []:=by
  obtain ⟨oc,od,kV,doc,pm,an,cdv,ct,osl,rfl,lk,hcd⟩:=F.ex
  exact .all (h kV doc pm an cdv ct)
theorem fun_mk {x qual:Str} {st:Stmt} {f:Addr} {oc:Value} {od an:Option Addr} {osl:Array (Option Value)} {kV doc pm cdv ct:Value} (l:K.lookup f=some ⟨oc,od,.func (PySem.W.fnOf x qual (defArgs st) (defBody st) (defScope st) .none kV doc pm an cdv ct),osl⟩)
    (c:PySem.W.codeIn K cdv qual=true) (k:PySem.W.keepIn K (.ref f)=true):Fun K x qual st f (PySem.W.fnOf x qual (defArgs st) (defBody st) (defScope st) .none kV doc pm an cdv ct):=⟨⟨oc,od,kV,doc,pm,an,cdv,ct,osl,rfl,l,c⟩,k⟩
end
section
variable {X:Cx}
theorem pv (i:Nat) {x:Str} {pos:Pos} (hN:X.N[i]? = some x:=by rfl) (hv:Vis X.env.scope x:=by first | exact Or.inl rfl | exact Or.inr (Or.inl rfl) | exact Or.inr (Or.inr rfl)) (hd:(x == ("__debug__" : Str))=false:=by decide)
    (hcd:(x == ("__classdict__" : Str))=false:=by decide):PE X (.Name x pos) (tVar i):=pe_var hN hv hd hcd
end
theorem iteF {A B:Prop} (h:B):if false=true then A else B:=by
  rw [if_neg Bool.false_ne_true]
  exact h
theorem iteT {A B:Prop} (h:A):if true=true then A else B:=by
  rw [if_pos rfl]
  exact h
theorem ite2 {c A B:Prop} [Decidable c] (h1:c->A) (h2 : ¬ c->B):if c then A else B:=by
  by_cases h:c
  · rw [if_pos h]
    exact h1 h
  · rw [if_neg h]
    exact h2 h
def Same (H H':Hp):Prop:=∀ b o,H b=some o->H' b=some o
theorem Same.refl (H:Hp):Same H H:=fun _ _ h=>h
theorem Same.trans {H H1 H2:Hp} (a:Same H H1) (b:Same H1 H2):Same H H2:=fun c o h=>b c o (a c o h)
theorem Same.free {H H':Hp} (e:Same H H') {l:Addr} (h:H' l=Option.none):H l=Option.none:=by
  cases q:H l with
  | none=>rfl
  | some o =>
    rw [e l o q] at h
    cases h
theorem Same.seq {K:PySem.W.Frag} {H H':Hp} {a:Addr} {xs:List V} (e:Same H H') (h:SqL K H a xs):SqL K H' a xs:=by
  rcases h with (h | ⟨o,h⟩) | h
  · exact .inl (.inl (e _ _ h))
  · exact .inl (.inr ⟨o,e _ _ h⟩)
  · exact .inr h
end L2
set_option maxHeartbeats 4000000
namespace HT
open PySem PyProof.Rows
end HT
namespace L2
open PySem PySem.Spec PyProof.Rows
theorem PE.imp {X:Cx} {e:Expr} {t t':TE} (h:PE X e t) (k : ∀ σ H Q,t' σ H Q->t σ H Q):PE X e t':=fun pins s σ H Q I q=>h pins s σ H Q I (k σ H Q q)
theorem OpR.imp {X:Cx} {f:Value->Value->Sem Value} {r r':R2} (h:OpR X f r) (k : ∀ x y H Q,r' x y H Q->r x y H Q):OpR X f r':=fun pins s σ H x y v u Q I rx ry q=>h pins s σ H x y v u Q I rx ry (k x y H Q q)
theorem CallR.imp {X:Cx} {f:Value} {r r':List V->Hp->VK->Prop} (h:CallR X f r) (k : ∀ xs H Q,r' xs H Q->r xs H Q):CallR X f r':=fun pins s σ H xs us Q I rs q=>h pins s σ H xs us Q I rs (k xs H Q q)
theorem IxR.imp {X:Cx} {r r':R2} (h:IxR X r) (k : ∀ x y H Q,r' x y H Q->r x y H Q):IxR X r':=fun value slice pins s σ H x y v u Q I rx ry q hs=>h value slice pins s σ H x y v u Q I rx ry (k x y H Q q) hs
theorem Same.new {H:Hp} {p:Addr} {o:HO} (h:H p=none):Same H (upd H p o):=fun b u e=>by rw [upd_ne (ne_of_none e h)]; exact e
structure Gro (H:Hp) (p:Addr) (o:HO) (H':Hp):Prop where
  nw:H p=none
  sm:Same H H'
  at_:H' p=some o
theorem Gro.mk' {H:Hp} {p:Addr} {o:HO} (h:H p=none):Gro H p o (upd H p o):=⟨h,Same.new h,upd_same⟩
theorem Gro.lst {K:PySem.W.Frag} {H H':Hp} {p:Addr} {xs:List V} (g:Gro H p (.lst xs) H'):SqL K H' p xs:=.of g.at_
theorem Gro.tup {K:PySem.W.Frag} {H H':Hp} {p:Addr} {xs:List V} (g:Gro H p (.tup xs) H'):SqT K H' p xs:=.of g.at_
theorem Same.put {H H':Hp} {p:Addr} {o:HO} (s:Same H H') (h:H p=none):Same H (upd H' p o):=fun b u e=>by
  rw [upd_ne (ne_of_none e h)]
  exact s b u e
def mV (i:Nat):TE:=fun σ H Q=>match σ[i]? with
  | some (some v)=>Q v H
  | _=>False
theorem vv (i:Nat) {X:Cx} {x:Str} {pos:Pos} (hN:X.N[i]? = some x:=by rfl) (hv:Vis X.env.scope x:=by first | exact Or.inl rfl | exact Or.inr (Or.inl rfl) | exact Or.inr (Or.inr rfl)) (hd:(x == ("__debug__" : Str))=false:=by decide)
    (hcd:(x == ("__classdict__" : Str))=false:=by decide):PE X (.Name x pos) (mV i):=(pe_var hN hv hd hcd).imp fun σ H Q q=>by
  unfold mV at q
  split at q
  · exact ⟨_,by assumption,q⟩
  · exact q.elim
section
variable {X:Cx} {a b:Expr} {ta tb:TE} {pos:Pos} {rest:List Expr}
def mAnd (ta tb:TE):TE:=fun σ H Q=>ta σ H fun x H1=>match x with
  | .bl c=>if c=true then tb σ H1 Q else Q (.bl false) H1
  | _=>False
def mOr (ta tb:TE):TE:=fun σ H Q=>ta σ H fun x H1=>match x with
  | .bl c=>if c=true then Q (.bl true) H1 else tb σ H1 Q
  | _=>False
def mNot (ta:TE):TE:=fun σ H Q=>ta σ H fun x H1=>match x with
  | .bl c=>Q (.bl (!c)) H1
  | _=>False
theorem me_and (ha:PE X a ta) (hb:PE X (.BoolOp .And (b :: rest) pos) tb):PE X (.BoolOp .And (a :: b :: rest) pos) (mAnd ta tb):=by
  intro pins s σ H Q I h
  refine BoolOp_and (thn (ha pins s σ H _ I h) fun v s1 ⟨x,H1,I1,r1,q1⟩=>?_)
  cases x with
  | bl c =>
    cases r1
    refine wpAny_truthy_bool ?_
    cases c with
    | true=>exact hb pins s1 σ H1 Q I1 q1
    | false=>exact ⟨.bl false,H1,I1,rfl,q1⟩
  | _=>exact False.elim q1
theorem me_or (ha:PE X a ta) (hb:PE X (.BoolOp .Or (b :: rest) pos) tb):PE X (.BoolOp .Or (a :: b :: rest) pos) (mOr ta tb):=by
  intro pins s σ H Q I h
  refine BoolOp_or (thn (ha pins s σ H _ I h) fun v s1 ⟨x,H1,I1,r1,q1⟩=>?_)
  cases x with
  | bl c =>
    cases r1
    refine wpAny_truthy_bool ?_
    cases c with
    | false=>exact hb pins s1 σ H1 Q I1 q1
    | true=>exact ⟨.bl true,H1,I1,rfl,q1⟩
  | _=>exact False.elim q1
theorem me_not (ha:PE X a ta):PE X (.UnaryOp .Not a pos) (mNot ta):=by
  intro pins s σ H Q I h
  refine UnaryOp_ (thn (ha pins s σ H _ I h) fun v s1 ⟨x,H1,I1,r1,q1⟩=>?_)
  cases x with
  | bl c =>
    cases r1
    exact not_of (wpAny_truthy_bool ⟨.bl (!c),H1,I1,rfl,q1⟩)
  | _=>exact False.elim q1
def mB (t:TE):TT:=fun σ H Q=>t σ H fun x H1=>match x with
  | .bl c=>Q c H1
  | _=>False
theorem mt_val {e:Expr} {t:TE} (h:PE X e t) (he : ∀ whole,isTrue e X.env whole=(do let v <- whole; standAt e.pos; holding [v] (truthy v)):=by intro _; rfl):PT X e (mB t):=by
  intro pins s σ H Q I hw
  refine isTrue_plain (thn (h pins s σ H _ I hw) fun v s1 ⟨x,H1,I1,r1,q1⟩=>?_) (he _)
  cases x with
  | bl c =>
    cases r1
    exact wpAny_truthy_bool ⟨H1,I1,q1⟩
  | _=>exact False.elim q1
theorem mt_cmp {op:CmpOp} {r:R2} (ho:OpR X (compareOp op) r) (ha:PE X a ta) (hb:PE X b tb) (hm:behindInMarks op b=false):PT X (.Compare a [op] [b] pos) (mB (tOp r ta tb)):=by
  intro pins s σ H Q I h
  refine wpAny_isTrue_Compare1 (thn (ha pins s σ H _ I h) fun v s1 ⟨x,H1,I1,r1,q1⟩=>thn (hb pins s1 σ H1 _ I1 q1) fun u s2 ⟨y,H2,I2,r2,q2⟩ =>
    thn (ho pins s2 σ H2 x y v u _ I2 r1 r2 q2) fun c s3 ⟨z,H3,I3,r3,q3⟩=>?_) hm
  cases z with
  | bl k =>
    cases r3
    exact wpAny_truthy_bool ⟨H3,I3,q3⟩
  | _=>exact False.elim q3
def mChain (r r':R2) (ta tb tc:TE):TE:=fun σ H Q=>ta σ H fun x H1=>tb σ H1 fun y H2=>r x y H2 fun z H3=>match z with
  | .bl k=>if k=true then tc σ H3 fun w' H4=>r' y w' H4 Q else Q (.bl false) H3
  | _=>False
theorem me_chain {c:Expr} {tc:TE} {op op':CmpOp} {r r':R2} (ho:OpR X (compareOp op) r) (ho':OpR X (compareOp op') r') (ha:PE X a ta) (hb:PE X b tb) (hc:PE X c tc)
    (hm:lastMarks [op,op'] [b,c]=false:=by with_unfolding_all rfl):PE X (.Compare a [op,op'] [b,c] pos) (mChain r r' ta tb tc):=by
  intro pins s σ H Q I h
  refine Compare_chain (thn (ha pins s σ H _ I h) fun v s1 ⟨x,H1,I1,r1,q1⟩=>chain_link (thn (hb pins s1 σ H1 _ I1 q1) fun u s2 ⟨y,H2,I2,r2,q2⟩ =>
    thn (ho pins s2 σ H2 x y v u _ I2 r1 r2 q2) fun d s3 ⟨z,H3,I3,r3,q3⟩=>?_)) hm
  cases z with
  | bl k =>
    cases r3
    refine wpAny_truthy_bool ?_
    cases k with
    | false=>exact ite_ff ⟨.bl false,H3,I3,rfl,q3⟩
    | true=>exact ite_tt (chain_last (thn (hc pins s3 σ H3 _ I3 q3) fun w' s4 ⟨z',H4,I4,r4,q4⟩=>ho' pins s4 σ H4 y z' u w' Q I4 r2 r4 q4))
  | _=>exact False.elim q3
theorem mt_chain {c:Expr} {tc:TE} {op op':CmpOp} {r r':R2} (ho:OpR X (compareOp op) r) (ho':OpR X (compareOp op') r') (ha:PE X a ta) (hb:PE X b tb) (hc:PE X c tc)
    (hm:lastMarks [op,op'] [b,c]=false:=by with_unfolding_all rfl):PT X (.Compare a [op,op'] [b,c] pos) (mB (mChain r r' ta tb tc)):=by
  intro pins s σ H Q I h
  refine isTrue_chain (thn (ha pins s σ H _ I h) fun v s1 ⟨x,H1,I1,r1,q1⟩=>test_link (thn (hb pins s1 σ H1 _ I1 q1) fun u s2 ⟨y,H2,I2,r2,q2⟩ =>
    thn (ho pins s2 σ H2 x y v u _ I2 r1 r2 q2) fun d s3 ⟨z,H3,I3,r3,q3⟩=>?_)) hm
  cases z with
  | bl k =>
    cases r3
    refine wpAny_truthy_bool ?_
    cases k with
    | false=>exact ite_ff ⟨H3,I3,q3⟩
    | true =>
      refine ite_tt (test_last (thn (hc pins s3 σ H3 _ I3 q3) fun w' s4 ⟨z',H4,I4,r4,q4⟩=>thn (ho' pins s4 σ H4 y z' u w' _ I4 r2 r4 q4) fun d' s5 ⟨z2,H5,I5,r5,q5⟩=>?_))
      cases z2 with
      | bl k2 =>
        cases r5
        exact wpAny_truthy_bool ⟨H5,I5,q5⟩
      | _=>exact False.elim q5
  | _=>exact False.elim q3
def mTru (K:PySem.W.Frag) (t:TE):TT:=fun σ H Q=>t σ H fun x H1=>match x with
  | .non=>Q false H1
  | .bl c=>Q c H1
  | .int i=>Q (i != 0) H1
  | .ref p=>∃ xs,(SqL K H1 p xs\/SqT K H1 p xs)/\Q (!xs.isEmpty) H1
  | _=>False
theorem mt_tru {e:Expr} {t:TE} (h:PE X e t) (he : ∀ whole,isTrue e X.env whole=(do let v <- whole; standAt e.pos; holding [v] (truthy v)):=by intro _; rfl):PT X e (mTru X.K t):=by
  intro pins s σ H Q I hw
  refine isTrue_plain (thn (h pins s σ H _ I hw) fun v s1 ⟨x,H1,I1,r1,q1⟩=>?_) (he _)
  cases x with
  | non=>exact tru_ok pins s1 σ H1 _ v Q I1 r1 ⟨false,rfl,q1⟩
  | bl c=>exact tru_ok pins s1 σ H1 _ v Q I1 r1 ⟨c,rfl,q1⟩
  | int i=>exact tru_ok pins s1 σ H1 _ v Q I1 r1 ⟨i != 0,rfl,q1⟩
  | ref p =>
    obtain ⟨xs,hx,q1⟩:=q1
    rcases hx with hx | hx
    · exact tru_ok pins s1 σ H1 _ v Q I1 r1 ⟨_,.inl ⟨xs,hx,rfl⟩,q1⟩
    · exact tru_ok pins s1 σ H1 _ v Q I1 r1 ⟨_,.inr (.inl ⟨xs,hx,rfl⟩),q1⟩
  | _=>exact False.elim q1
end
section
variable {X:Cx} {a b:Expr} {ta tb:TE} {pos:Pos}
def gI (C:Int->Int->Prop) (g:Int->Int->V):R2:=fun x y H Q=>match x,y with
  | .int i,.int j=>C i j/\Q (g i j) H
  | _,_=>False
def gI0 (g:Int->Int->V):R2:=fun x y H Q=>match x,y with
  | .int i,.int j=>Q (g i j) H
  | _,_=>False
theorem gI0_of {f:Value->Value->Sem Value} {g:Int->Int->V} (h:OpR X f (rI0 g)):OpR X f (gI0 g):=h.imp fun x y H Q q=>by
  cases x <;> cases y <;> first | exact False.elim q | exact ⟨_,_,rfl,rfl,q⟩
theorem gI_of {f:Value->Value->Sem Value} {C:Int->Int->Prop} {g:Int->Int->V} (h:OpR X f (rI C g)):OpR X f (gI C g):=h.imp fun x y H Q q=>by
  cases x <;> cases y <;> first | exact False.elim q | exact ⟨_,_,rfl,rfl,q.1,q.2⟩
theorem g_sub:OpR X (binaryOp .Sub) (gI0 fun i j=>.int (i - j)):=gI0_of op_sub
theorem g_mod:OpR X (binaryOp .Mod) (gI (fun _ j=>0 < j) fun i j=>.int (i%j)):=gI_of op_mod
theorem g_pow:OpR X (binaryOp .Pow) (gI CPow fun i j=>.int (i ^ j.toNat)):=gI_of op_pow
theorem g_lt:OpR X (compareOp .Lt) (gI0 fun i j=>.bl (decide (i < j))):=gI0_of op_lt
theorem g_le:OpR X (compareOp .LtE) (gI0 fun i j=>.bl (decide (i<=j))):=gI0_of op_le
theorem g_gt:OpR X (compareOp .Gt) (gI0 fun i j=>.bl (decide (j < i))):=gI0_of op_gt
theorem g_ge:OpR X (compareOp .GtE) (gI0 fun i j=>.bl (decide (j<=i))):=gI0_of op_ge
def mFd (j:Int) (ta:TE):TE:=fun σ H Q=>ta σ H fun x H1=>match x with
  | .int i=>Q (.int (i / j)) H1
  | _=>False
def mMd (j:Int) (ta:TE):TE:=fun σ H Q=>ta σ H fun x H1=>match x with
  | .int i=>Q (.int (i%j)) H1
  | _=>False
theorem me_fd {j:Int} {k:Nat} {p:Pos} (ha:PE X a ta) (hj:0 < j/\j < 1073741824:=by decide):PE X (.BinOp a .FloorDiv (.Constant (.int j) k p) pos) (mFd j ta):=by
  intro pins s σ H Q I h
  refine wpAny_BinOp (thn (ha pins s σ H _ I h) fun v s1 ⟨x,H1,I1,r1,q1⟩=>?_)
  refine thn (pe_int pins s1 σ H1 (fun y H2=>y=.int j/\H2=H1) I1 ⟨rfl,rfl⟩) fun u s2 ⟨y,H2,I2,r2,e1,e2⟩=>?_
  subst e1 e2
  cases x with
  | int i=>exact op_fdiv pins s2 σ H2 (.int i) (.int j) v u Q I2 r1 r2 ⟨i,j,rfl,rfl,hj,q1⟩
  | _=>exact False.elim q1
theorem me_md {j:Int} {k:Nat} {p:Pos} (ha:PE X a ta) (hj:0 < j:=by decide):PE X (.BinOp a .Mod (.Constant (.int j) k p) pos) (mMd j ta):=by
  intro pins s σ H Q I h
  refine wpAny_BinOp (thn (ha pins s σ H _ I h) fun v s1 ⟨x,H1,I1,r1,q1⟩=>?_)
  refine thn (pe_int pins s1 σ H1 (fun y H2=>y=.int j/\H2=H1) I1 ⟨rfl,rfl⟩) fun u s2 ⟨y,H2,I2,r2,e1,e2⟩=>?_
  subst e1 e2
  cases x with
  | int i=>exact op_mod pins s2 σ H2 (.int i) (.int j) v u Q I2 r1 r2 ⟨i,j,rfl,rfl,hj,q1⟩
  | _=>exact False.elim q1
theorem un_negM:UnR X (unaryOp .USub) (fun x H Q=>match x with | .int i=>Q (.int (-i)) H | _=>False):=by
  intro pins s σ H x v Q I rx q
  cases x with
  | int i=>exact un_neg pins s σ H _ v Q I rx ⟨i,rfl,q⟩
  | _=>exact False.elim q
end
section
variable {X:Cx}
theorem cat_seq {pins:List (Addr × Obj)} {s:Shared} {σ:St} {H:Hp} {l b:Addr} {xs zs:List V} {Q:VK} (I:Inv X pins σ H s) (hl:SqL X.K H l xs) (hb:SqL X.K H b zs) (hz:xs.length+zs.length<=sizeLine)
    (q : ∀ p H',Gro H p (.lst (xs++zs)) H'->Q (.ref p) H'):wpAny (model X.prog X.w) X.A (binaryOp .Add (.ref l) (.ref b)) (EP X pins σ Q) X.xe s:=by
  obtain ⟨its,r,pl,_⟩:=I.list hl
  obtain ⟨its2,r2,pl2,_⟩:=I.list hb
  have e1:=r.length
  have e2:=r2.length
  obtain ⟨⟨cls,dd,data,sl⟩,ho,hc,n,hd⟩:=pl.isList
  obtain ⟨⟨cls2,dd2,data2,sl2⟩,ho2,hc2,n2,hd2⟩:=pl2.isList
  simp only at hc hd hc2 hd2
  subst hc hd hc2 hd2
  have ea:its.toArray++its2.toArray=(its++its2).toArray:=by simp
  refine concat_meets ⟨_,ho,rfl⟩ ⟨_,ho2,rfl⟩ noFill_list_add seq_list_add PySem.F.slot_list_add PySem.F.entry_list_add (PySem.F.args_list_add_2 _ _) (list_addW l b its.toArray its2.toArray n n2 dd dd2 sl sl2 (by rw [List.size_toArray,List.size_toArray]; omega)) ⟨ho,ho2,?_⟩
  rw [ea]
  exact ⟨.ref _,_,I.lnew (t':=s.toks) (r.append r2) (by rw [List.length_append]; omega),rfl,q _ _ (.mk' I.fresh)⟩
def gAdd (K:PySem.W.Frag):R2:=fun x y H Q=>match x,y with
  | .int i,.int j=>Q (.int (i+j)) H
  | .ref l,.ref b=>∃ xs zs,SqL K H l xs/\SqL K H b zs/\xs.length+zs.length<=sizeLine/\∀ p H',Gro H p (.lst (xs++zs)) H'->Q (.ref p) H'
  | _,_=>False
theorem g_add:OpR X (binaryOp .Add) (gAdd X.K):=by
  intro pins s σ H x y v u Q I rx ry q
  cases x with
  | int i =>
    cases y with
    | int j=>exact op_add pins s σ H _ _ v u Q I rx ry ⟨i,j,rfl,rfl,q⟩
    | _=>exact False.elim q
  | ref l =>
    cases y with
    | ref b =>
      obtain ⟨xs,zs,h1,h2,h3,q⟩:=q
      cases rx
      cases ry
      exact cat_seq I h1 h2 h3 q
    | _=>exact False.elim q
  | _=>exact False.elim q
def gMul:R2:=fun x y H Q=>match x,y with
  | .int i,.int j=>CMul i j/\Q (.int (i*j)) H
  | .ref l,.int k=>∃ xs,H l=some (.lst xs)/\-(2 ^ 63)<=k/\k < 2 ^ 63/\xs.length*k.toNat<=sizeLine/\∀ p H',Gro H p (.lst (List.replicate k.toNat xs).flatten) H'->Q (.ref p) H'
  | _,_=>False
theorem g_mul:OpR X (binaryOp .Mult) gMul:=by
  intro pins s σ H x y v u Q I rx ry q
  cases x with
  | int i =>
    cases y with
    | int j=>exact op_mul pins s σ H _ _ v u Q I rx ry ⟨i,j,rfl,rfl,q.1,q.2⟩
    | _=>exact False.elim q
  | ref l =>
    cases y with
    | int k =>
      obtain ⟨xs,h1,h2,h3,h4,q⟩:=q
      exact op_rep pins s σ H _ _ v u Q I rx ry ⟨l,k,xs,rfl,rfl,h1,h2,h3,h4,fun p hp=>q p _ (.mk' hp)⟩
    | _=>exact False.elim q
  | _=>exact False.elim q
def isB (x:V) (c:Bool):Bool:=match x with
  | .bl d=>d == c
  | _=>false
theorem rel_plainIs {x:V} {v:Value} {c:Bool} (r:RelV x v) (hf : ∀ f,x ≠ .ty f):plainIs v (.bool c)=true/\(v == Value.bool c)=isB x c:=by
  cases x with
  | non=>cases r; exact ⟨rfl,rfl⟩
  | bl d=>cases r; exact ⟨rfl,by cases d <;> cases c <;> rfl⟩
  | int _=>obtain ⟨t,rfl⟩:=r; exact ⟨rfl,rfl⟩
  | str _=>obtain ⟨t,rfl⟩:=r; exact ⟨rfl,rfl⟩
  | byt _=>obtain ⟨t,rfl⟩:=r; exact ⟨rfl,rfl⟩
  | flt _=>obtain ⟨t,rfl⟩:=r; exact ⟨rfl,rfl⟩
  | ref _=>cases r; exact ⟨rfl,rfl⟩
  | ty f=>exact absurd rfl (hf f)
def gIs (neg:Bool):R2:=fun x y H Q=>match y with
  | .non=>Q (.bl (if neg then !decide (x=.non) else decide (x=.non))) H
  | .bl c=>(∀ f,x ≠ .ty f)/\Q (.bl (if neg then !isB x c else isB x c)) H
  | _=>False
theorem g_is:OpR X (compareOp .Is) (gIs false):=by
  intro pins s σ H x y v u Q I rx ry q
  cases y with
  | non=>exact op_isN pins s σ H x _ v u Q I rx ry ⟨rfl,q⟩
  | bl c =>
    cases ry
    obtain ⟨h1,h2⟩:=rel_plainIs (c:=c) rx q.1
    exact wpAny_is_plain h1 ⟨.bl _,H,I,by rw [h2]; rfl,q.2⟩
  | _=>exact False.elim q
theorem g_isnot:OpR X (compareOp .IsNot) (gIs true):=by
  intro pins s σ H x y v u Q I rx ry q
  cases y with
  | non=>exact op_notN pins s σ H x _ v u Q I rx ry ⟨rfl,q⟩
  | bl c =>
    cases ry
    obtain ⟨h1,h2⟩:=rel_plainIs (c:=c) rx q.1
    exact wpAny_isNot_plain h1 ⟨.bl _,H,I,by rw [h2]; rfl,q.2⟩
  | _=>exact False.elim q
end
def DataV (K:PySem.W.Frag) (H:Hp) (d:PyData) (x:V):Prop:=∀ (X:Cx) (pins:List (Addr × Obj)) (σ:St) (s:Shared) (u:Value),X.K=K->Inv X pins σ H s->RelV x u->∃ as,Reads s.heap u d as
def DataVs (K:PySem.W.Frag) (H:Hp) (ds:List PyData) (xs:List V):Prop:=∀ (X:Cx) (pins:List (Addr × Obj)) (σ:St) (s:Shared) (us:List Value),X.K=K->Inv X pins σ H s->Vals xs us->∃ as,ReadsAll s.heap us ds as
section
variable {K:PySem.W.Frag} {H:Hp}
theorem DataV.non:DataV K H .none .non:=fun _ _ _ _ _ _ _ r=>by cases r; exact ⟨_,.none⟩
theorem DataV.bl (b:Bool):DataV K H (.bool b) (.bl b):=fun _ _ _ _ _ _ _ r=>by cases r; exact ⟨_,.bool b⟩
theorem DataV.int (i:Int):DataV K H (.int i) (.int i):=fun _ _ _ _ _ _ _ r=>by obtain ⟨t,rfl⟩:=r; exact ⟨_,.int i t⟩
theorem DataV.str (x:Str):DataV K H (.str x) (.str x):=fun _ _ _ _ _ _ _ r=>by obtain ⟨t,rfl⟩:=r; exact ⟨_,.str x t⟩
theorem DataVs.nil:DataVs K H [] []:=fun _ _ _ _ _ _ _ r=>by cases r; exact ⟨_,.nil⟩
theorem DataVs.cons {d:PyData} {ds:List PyData} {x:V} {xs:List V} (a:DataV K H d x) (b:DataVs K H ds xs):DataVs K H (d :: ds) (x :: xs):=fun X pins σ s us e I r=>by
  cases r with
  | cons r1 r2 =>
    obtain ⟨as,ha⟩:=a X pins σ s _ e I r1
    obtain ⟨bs,hb⟩:=b X pins σ s _ e I r2
    exact ⟨_,.cons ha hb⟩
theorem DataV.lst {ds:List PyData} {p:Addr} {xs:List V} (h:SqL K H p xs) (b:DataVs K H ds xs):DataV K H (.list ds) (.ref p):=fun X pins σ s u e I r=>by
  cases r
  subst e
  obtain ⟨its,rv,⟨o,n,ho,hc,_,hd⟩,_⟩:=I.list h
  obtain ⟨as,ha⟩:=b X pins σ s its rfl I rv
  exact ⟨_,.list ho hc hd (by simpa using ha)⟩
theorem DataVs.ints : ∀ ns:List Int,DataVs K H (ns.map PyData.int) (ns.map V.int)
  | []=>.nil
  | n :: ns=>.cons (.int n) (DataVs.ints ns)
end
open SeqAt (shaped)
def gEq (K:PySem.W.Frag) (neg:Bool):R2:=fun x y H Q=>match x,y with
  | .int i,.int j=>Q (.bl (if neg then !decide (i=j) else decide (i=j))) H
  | .bl a,.bl b=>Q (.bl (if neg then !(a == b) else a == b)) H
  | _,_=>∃ d e,DataV K H d x/\DataV K H e y/\shaped d=true/\shaped e=true/\Q (.bl (if neg then !d.eqv e else d.eqv e)) H
section
variable {X:Cx}
theorem eq_data {pins:List (Addr × Obj)} {s:Shared} {σ:St} {H:Hp} {x y:V} {v u:Value} {Q:VK} {neg:Bool} (hu:X.A.units+64 < cLine) (I:Inv X pins σ H s) (rx:RelV x v) (ry:RelV y u)
    (q : ∃ d e,DataV X.K H d x/\DataV X.K H e y/\shaped d=true/\shaped e=true/\Q (.bl (if neg then !d.eqv e else d.eqv e)) H) :
    wpAny (model X.prog X.w) X.A (compareOp (if neg then .NotEq else .Eq) v u) (EP X pins σ Q) X.xe s:=by
  obtain ⟨d,e,hd,he,h1,h2,q⟩:=q
  obtain ⟨as,ra⟩:=hd X pins σ s v rfl I rx
  obtain ⟨bs,rb⟩:=he X pins σ s u rfl I ry
  cases neg with
  | true=>exact ne_dataH ra rb h1 h2 hu ⟨.bl _,H,I,rfl,q⟩
  | false=>exact eq_dataH ra rb h1 h2 hu ⟨.bl _,H,I,rfl,q⟩
theorem dec_intI {i j:Int}:decide (V.int i=V.int j)=decide (i=j):=by simp
theorem g_eq (hu:X.A.units+64 < cLine):OpR X (compareOp .Eq) (gEq X.K false):=by
  intro pins s σ H x y v u Q I rx ry q
  have D:=fun q'=>eq_data (neg:=false) (Q:=Q) hu I rx ry q'
  cases x with
  | int i =>
    cases y with
    | int j=>exact op_eq pins s σ H _ _ v u Q I rx ry ⟨rfl,by rw [dec_intI]; exact q⟩
    | _=>exact D q
  | bl i =>
    cases y with
    | bl j=>exact op_eq pins s σ H _ _ v u Q I rx ry ⟨rfl,by rw [dec_bl]; exact q⟩
    | _=>exact D q
  | _=>exact D q
theorem g_ne (hu:X.A.units+64 < cLine):OpR X (compareOp .NotEq) (gEq X.K true):=by
  intro pins s σ H x y v u Q I rx ry q
  have D:=fun q'=>eq_data (neg:=true) (Q:=Q) hu I rx ry q'
  cases x with
  | int i =>
    cases y with
    | int j=>exact op_ne pins s σ H _ _ v u Q I rx ry ⟨rfl,by rw [dec_intI]; exact q⟩
    | _=>exact D q
  | bl i =>
    cases y with
    | bl j=>exact op_ne pins s σ H _ _ v u Q I rx ry ⟨rfl,by rw [dec_bl]; exact q⟩
    | _=>exact D q
  | _=>exact D q
def gIn (K:PySem.W.Frag) (neg:Bool):R2:=fun x y H Q=>match y with
  | .ref p=>∃ xs,(SqL K H p xs\/SqT K H p xs)/\flatV x=true/\xs.all flatV=true/\Q (.bl (if neg then !inV x xs else inV x xs)) H
  | _=>False
theorem g_in:OpR X (compareOp .In) (gIn X.K false):=op_in_seq.imp fun x y H Q q=>by
  cases y with
  | ref p=>obtain ⟨xs,h1,h2,h3,q⟩:=q; exact ⟨p,xs,rfl,h1,h2,h3,q⟩
  | _=>exact False.elim q
theorem g_notin:OpR X (compareOp .NotIn) (gIn X.K true):=op_notIn_seq.imp fun x y H Q q=>by
  cases y with
  | ref p=>obtain ⟨xs,h1,h2,h3,q⟩:=q; exact ⟨p,xs,rfl,h1,h2,h3,q⟩
  | _=>exact False.elim q
def gIx (K:PySem.W.Frag):R2:=fun x y H Q=>match x,y with
  | .ref p,.int i=>∃ xs v,(SqL K H p xs\/SqT K H p xs)/\atI xs i=some v/\Q v H
  | _,_=>False
theorem g_ix:IxR X (gIx X.K):=(ix_list.or ix_tup).imp fun x y H Q q=>by
  cases x with
  | ref p =>
    cases y with
    | int i =>
      obtain ⟨xs,v,h1,h2,q⟩:=q
      rcases h1 with h1 | h1
      · exact .inl ⟨p,xs,i,v,rfl,rfl,h1,h2,q⟩
      · exact .inr ⟨p,xs,i,v,rfl,rfl,h1,h2,q⟩
    | _=>exact False.elim q
  | _=>exact False.elim q
theorem atI_in {α:Type} {xs:List α} {i:Int} (h0:0<=i) (h1:i < xs.length) : ∃ v,v∈xs/\atI xs i=some v/\xs[i.toNat]? = some v:=by
  have hl:i.toNat < xs.length:=by omega
  refine ⟨xs[i.toNat],List.getElem_mem hl,?_,by simp [hl]⟩
  have e:xs[i.toNat]? = some xs[i.toNat]:=by simp [hl]
  have:=atI_nat e
  rwa [Int.toNat_of_nonneg h0] at this
def gSl (K:PySem.W.Frag):V->Option Int->Option Int->Hp->VK->Prop:=fun x lo hi H Q=>match x with
  | .ref a=>∃ xs,SqL K H a xs/\∀ p H',Gro H p (.lst (cutV xs lo hi)) H'->Q (.ref p) H'
  | _=>False
theorem g_sl:SlR X (gSl X.K):=by
  intro pins s σ H x v vl vu lo hi sl Q I rx hs pl pu q
  cases x with
  | ref a=>obtain ⟨xs,h1,q⟩:=q; exact sl_list pins s σ H _ v vl vu lo hi sl Q I rx hs pl pu ⟨a,xs,rfl,h1,fun p hp=>q p _ (.mk' hp)⟩
  | _=>exact False.elim q
def gLen (K:PySem.W.Frag):List V->Hp->VK->Prop:=fun xs H Q=>match xs with
  | [.ref p]=>∃ ys,(SqL K H p ys\/SqT K H p ys)/\Q (.int ys.length) H
  | _=>False
theorem c_len:CallR X (.builtin "len") (gLen X.K):=call_len_seq.imp fun xs H Q q=>by
  unfold gLen at q
  split at q
  · obtain ⟨ys,h1,q⟩:=q
    exact ⟨_,ys,rfl,h1,q⟩
  · exact q.elim
def gList (K:PySem.W.Frag):List V->Hp->VK->Prop:=fun xs H Q=>match xs with
  | [.ref p]=>∃ ys,(SqL K H p ys\/SqT K H p ys)/\∀ l H',Gro H l (.lst ys) H'->Q (.ref l) H'
  | _=>False
theorem c_list:CallR X (.type "list") (gList X.K):=call_list_of.imp fun xs H Q q=>by
  unfold gList at q
  split at q
  · obtain ⟨ys,h1,q⟩:=q
    exact ⟨_,ys,rfl,h1,fun l hl=>q l _ (.mk' hl)⟩
  · exact q.elim
def gMax:List V->Hp->VK->Prop:=fun xs H Q=>match xs with
  | [.int i,.int j]=>Q (.int (if j > i then j else i)) H
  | _=>False
theorem c_max (hc:X.calm=true):CallR X (.builtin "max") gMax:=(call_max2 hc).imp fun xs H Q q=>by
  unfold gMax at q
  split at q
  · exact ⟨_,_,rfl,q⟩
  · exact q.elim
def gInst (K:PySem.W.Frag):List V->Hp->VK->Prop:=fun xs H Q=>match xs with
  | [x,.ty T]=>∃ t b,TyOf K H x t/\PySem.W.kitOne K t (.type T)=some b/\Q (.bl b) H
  | [x,.ref C]=>∃ t b,TyOf K H x t/\PySem.W.kitOne K t (.ref C)=some b/\Q (.bl b) H
  | _=>False
theorem c_inst:CallR X (.builtin "isinstance") (gInst X.K):=by
  intro pins s σ H xs us Q I r q
  unfold gInst at q
  split at q
  · obtain ⟨t,b,h1,h2,q⟩:=q
    obtain ⟨u,w',rfl,r1,r2⟩:=vals2 r
    cases r2
    exact isinst_ok I r1 h1 h2 fun tk=>⟨.bl b,H,I.tok _,rfl,q⟩
  · obtain ⟨t,b,h1,h2,q⟩:=q
    obtain ⟨u,w',rfl,r1,r2⟩:=vals2 r
    cases r2
    exact isinst_ok I r1 h1 h2 fun tk=>⟨.bl b,H,I.tok _,rfl,q⟩
  · exact q.elim
theorem bty {x:Str} {T:String} {pos:Pos} (hg:Gl X x) (hm:X.mg x=none) (hv:bootBuiltins x=some (.type T)) (hn:x ≠ "__name__":=by decide) (hd:(x == ("__debug__" : Str))=false:=by decide):PE X (.Name x pos) (tC (.ty T)) :=
  pe_bltn hg hm hv rfl hn hd
end
def isStar:Expr->Bool
  | .Starred _ _=>true
  | _=>false
theorem star_cons {e:Expr} {es:List Expr} {env:Env} (h:isStar e=false):starEach (e :: es) env=(false,eval e env) :: starEach es env:=by
  cases e <;> first | rfl | cases h
def noStar:List Expr->Bool
  | []=>true
  | e :: r=>!isStar e && noStar r
theorem noStar_any {env:Env} {pos:Pos} : ∀ {es:List Expr},noStar es=true->(backTo pos (starEach es env)).any (·.1)=false
  | [],_=>rfl
  | e :: r,h=>by
    have h':(!isStar e && noStar r)=true:=h
    rw [Bool.and_eq_true] at h'
    have h1:isStar e=false:=by simpa using h'.1
    rw [star_cons h1]
    show (false || (backTo pos (starEach r env)).any (·.1))=false
    rw [Bool.false_or]
    exact noStar_any h'.2
theorem noStar_head {e:Expr} {es:List Expr} (h:noStar (e :: es)=true):isStar e=false/\noStar es=true:=by
  have h':(!isStar e && noStar es)=true:=h
  rw [Bool.and_eq_true] at h'
  exact ⟨by simpa using h'.1,h'.2⟩
theorem pa_c {X:Cx} {e:Expr} {es:List Expr} {te:TE} {t:TA} (ha:PE X e te) (hr:PA X es t) (hs:isStar e=false:=by rfl):PA X (e :: es) (tCons te t):=pa_cons ha hr (star_cons hs)
def constOf:Expr->Option V
  | .Constant (.int i) _ _=>some (.int i)
  | .Constant (.bool b) _ _=>some (.bl b)
  | .Constant .none _ _=>some .non
  | .Constant (.str x) _ _=>some (.str x)
  | _=>none
def constsOf:List Expr->Option (List V)
  | []=>some []
  | e :: r=>match constOf e,constsOf r with
    | some v,some vs=>some (v :: vs)
    | _,_=>none
def tConsts (vs:List V):TA:=fun _ H Q=>Q vs H
theorem pe_const {X:Cx} {e:Expr} {v:V} (h:constOf e=some v):PE X e (tC v):=by
  unfold constOf at h
  split at h
  · cases h; exact pe_int
  · cases h; exact pe_bl
  · cases h; exact pe_non
  · cases h; exact pe_str
  · cases h
theorem const_star {e:Expr} {v:V} (h:constOf e=some v):isStar e=false:=by
  cases e <;> first | rfl | cases h
theorem pa_const {X:Cx} : ∀ {es:List Expr} {vs:List V},constsOf es=some vs->PA X es (tConsts vs)
  | [],vs,h=>by
    cases h
    exact pa_nil
  | e :: r,vs,h=>by
    unfold constsOf at h
    split at h
    · rename_i v ws h1 h2
      cases h
      exact pa_c (pe_const h1) (pa_const h2) (const_star h1)
    · cases h
section
variable {X:Cx} {es:List Expr} {t:TA} {pos:Pos}
def mTup (t:TA):TE:=fun σ H Q=>t σ H fun xs H1=>xs.length<=sizeLine/\∀ p H',Gro H1 p (.tup xs) H'->Q (.ref p) H'
def mLst (t:TA):TE:=fun σ H Q=>t σ H fun xs H1=>xs.length<=sizeLine/\∀ p H',Gro H1 p (.lst xs) H'->Q (.ref p) H'
theorem me_tup {x1} (h:PA X es t):PE X (.Tuple es x1 pos) (mTup t):=by
  intro pins s σ H Q I hq
  refine wpAny_Tuple_spliced (thn (h pos pins s σ H _ I hq) fun us s1 ⟨xs,H1,I1,r,z,q⟩=>⟨by rw [<- r.length]; exact z,?_⟩)
  have hf:H1 s1.heap.objs.size=none:=I1.hok.fresh (Nat.le_refl _)
  refine ⟨.ref s1.heap.objs.size,upd H1 s1.heap.objs.size (.tup xs),I1.laid (t':=s1.toks) (fun b u e=>Heap.get?_push_of_some _ e) (Nat.le_refl _) ?_,rfl,q _ _ (.mk' hf)⟩
  exact ⟨z,us,r,⟨_,Heap.get?_push_size _ rfl,rfl,_,rfl⟩⟩
theorem me_lst (h:PA X es t):PE X (.List es pos) (mLst t):=by
  intro pins s σ H Q I hq
  refine wpAny_List_spliced (thn (h pos pins s σ H _ I hq) fun us s1 ⟨xs,H1,I1,r,z,q⟩=>⟨by rw [<- r.length]; exact z,?_⟩)
  have hf:H1 s1.heap.objs.size=none:=I1.hok.fresh (Nat.le_refl _)
  refine ⟨.ref s1.heap.objs.size,upd H1 s1.heap.objs.size (.lst xs),I1.laid (t':=s1.toks) (fun b u e=>Heap.get?_push_of_some _ e) (Nat.le_refl _) ?_,rfl,q _ _ (.mk' hf)⟩
  exact ⟨z,us,0,r,Heap.get?_push_size _ rfl⟩
def mDic:TE:=fun _ H Q=>∀ p H',Gro H p (.dK []) H'->Q (.ref p) H'
theorem me_dic:PE X (.Dict [] [] pos) mDic:=pe_dnewK.imp fun σ H Q q=>fun p hp=>q p _ (.mk' hp)
end
theorem fitB {Q:VK} {H:Hp} {a b:Bool} (k:Q (.bl a) H) (e:a=b):Q (.bl b) H:=e ▸ k
def isIntV:V->Bool
  | .int _=>true
  | .bl _=>true
  | _=>false
def isBlV:V->Bool
  | .bl _=>true
  | _=>false
inductive Knd (K:PySem.W.Frag) (H:Hp):V->Prop where
  | non:Knd K H .non
  | bl (b:Bool):Knd K H (.bl b)
  | int (i:Int):Knd K H (.int i)
  | str (x:Str):Knd K H (.str x)
  | lst {a:Addr} {xs:List V} (e:H a=some (.lst xs)):Knd K H (.ref a)
  | tup {a:Addr} {xs:List V} (e:H a=some (.tup xs)):Knd K H (.ref a)
  | dK {a:Addr} {kvs:List (Key × V)} (e:H a=some (.dK kvs)):Knd K H (.ref a)
theorem Knd.isInt {K:PySem.W.Frag} {H:Hp} {v:V} (k:Knd K H v) : ∃ ty,TyOf K H v ty/\PySem.W.kitOne K ty (.type "int")=some (isIntV v):=by
  cases k with
  | non=>exact ⟨_,.non,by with_unfolding_all rfl⟩
  | bl b=>exact ⟨_,.bl b,by with_unfolding_all rfl⟩
  | int i=>exact ⟨_,.int i,by with_unfolding_all rfl⟩
  | str x=>exact ⟨_,.str x,by with_unfolding_all rfl⟩
  | lst e=>exact ⟨_,.lst e,by with_unfolding_all rfl⟩
  | tup e=>exact ⟨_,.tup e,by with_unfolding_all rfl⟩
  | dK e=>exact ⟨_,.dK e,by with_unfolding_all rfl⟩
theorem Knd.isBl {K:PySem.W.Frag} {H:Hp} {v:V} (k:Knd K H v) : ∃ ty,TyOf K H v ty/\PySem.W.kitOne K ty (.type "bool")=some (isBlV v):=by
  cases k with
  | non=>exact ⟨_,.non,by with_unfolding_all rfl⟩
  | bl b=>exact ⟨_,.bl b,by with_unfolding_all rfl⟩
  | int i=>exact ⟨_,.int i,by with_unfolding_all rfl⟩
  | str x=>exact ⟨_,.str x,by with_unfolding_all rfl⟩
  | lst e=>exact ⟨_,.lst e,by with_unfolding_all rfl⟩
  | tup e=>exact ⟨_,.tup e,by with_unfolding_all rfl⟩
  | dK e=>exact ⟨_,.dK e,by with_unfolding_all rfl⟩
theorem sz {n:Nat} (h:Nat.ble n 1000=true):n<=sizeLine:=Nat.le_trans (Nat.le_of_ble_eq_true h) (by decide)
theorem szl {n:Nat} (h:n<=100000):n<=sizeLine:=Nat.le_trans h (by decide)
theorem szlt {n:Nat} (h:n<=100000):n < sizeLine:=Nat.lt_of_le_of_lt h (by decide)
section
variable {X:Cx}
theorem range_get (bs:List Bool):(List.range bs.length).map (fun i=>(bs[i]?).getD false)=bs:=by
  apply List.ext_getElem
  · simp
  · intro i h1 h2
    simp [List.getElem?_eq_getElem h2]
theorem range_all (bs:List Bool):((List.range bs.length).all fun i=>(bs[i]?).getD false)=bs.all id:=by
  conv=>rhs; rw [<- range_get bs]
  rw [List.all_map]
  rfl
theorem range_any (bs:List Bool):((List.range bs.length).any fun i=>(bs[i]?).getD false)=bs.any id:=by
  conv=>rhs; rw [<- range_get bs]
  rw [List.any_map]
  rfl
def gAll (K:PySem.W.Frag) (one:Bool):List V->Hp->VK->Prop:=fun xs H Q=>match xs with
  | [.ref p]=>∃ bs:List Bool,SqL K H p (bs.map V.bl)/\Q (.bl (if one then bs.any id else bs.all id)) H
  | _=>False
theorem bools_truth {prog:Program} {w:World} {A:Around} {bs:List Bool} {its:List Value} (r:Vals (bs.map V.bl) its):TruthOf prog w A (fun i v=>its.toArray[i]? = some v) fun i=>(bs[i]?).getD false:=fun i v s Q E hP hQ=>by
  dsimp only at hP hQ
  have hi:i < its.length:=by
    have:=(Array.getElem?_eq_some_iff.mp hP).1
    simpa using this
  have hl:=r.length
  rw [List.length_map] at hl
  have hb:i < bs.length:=by omega
  obtain ⟨u,hu,ru⟩:=r.get (i:=i) (x:=V.bl bs[i]) (by simp [hb])
  have e:its.toArray[i]? = some u:=by simpa using hu
  rw [e] at hP
  cases hP
  cases ru
  rw [List.getElem?_eq_getElem hb] at hQ
  exact wpAny_truthy_bool hQ
theorem c_all (hc:X.calm=true):CallR X (.builtin "all") (gAll X.K false):=by
  intro pins s σ H xs us Q I r q
  unfold gAll at q
  split at q
  · rename_i p
    obtain ⟨bs,hq,q⟩:=q
    obtain ⟨u,rfl,rx⟩:=vals1 r
    cases rx
    obtain ⟨its,rv,pl,_⟩:=I.list hq
    have hl:=rv.length
    rw [List.length_map] at hl
    have hne:p≠s.heap.objs.size:=by
      obtain ⟨o,n,e,_⟩:=pl
      exact Nat.ne_of_lt (Heap.lt_size e)
    refine call_all_walk (wpAny_pyIter_list pl.isList ⟨s.heap.objs.size,_,_,_,_,_,fun i=>(bs[i]?).getD false,rfl,Walks.list (A:=X.A.in1) (show X.A.in1.handled=none from I.ok.hd hc) s.heap.objs.size p hne its.toArray,⟨⟨_,Heap.get?_push_size _ rfl,rfl,rfl⟩,?_⟩,bools_truth rv,fun h' tk k=>?_⟩)
    · exact pl.isList.at fun o e=>Heap.get?_push_of_some _ e
    · refine ⟨.bl _,H,I.kept (h':=h') (t':=tk) fun b o e=>k b o (fun z=>?_) (Heap.get?_push_of_some _ e),?_,q⟩
      · have e':b=s.heap.objs.size:=by simpa using z
        exact absurd (Heap.lt_size e) (by rw [e']; exact Nat.lt_irrefl _)
      · show Value.bool _=Value.bool _
        rw [List.size_toArray,<- hl,range_all]
        rfl
  · exact q.elim
theorem c_any (hc:X.calm=true):CallR X (.builtin "any") (gAll X.K true):=by
  intro pins s σ H xs us Q I r q
  unfold gAll at q
  split at q
  · rename_i p
    obtain ⟨bs,hq,q⟩:=q
    obtain ⟨u,rfl,rx⟩:=vals1 r
    cases rx
    obtain ⟨its,rv,pl,_⟩:=I.list hq
    have hl:=rv.length
    rw [List.length_map] at hl
    have hne:p≠s.heap.objs.size:=by
      obtain ⟨o,n,e,_⟩:=pl
      exact Nat.ne_of_lt (Heap.lt_size e)
    refine call_any_walk (wpAny_pyIter_list pl.isList ⟨s.heap.objs.size,_,_,_,_,_,fun i=>(bs[i]?).getD false,rfl,Walks.list (A:=X.A.in1) (show X.A.in1.handled=none from I.ok.hd hc) s.heap.objs.size p hne its.toArray,⟨⟨_,Heap.get?_push_size _ rfl,rfl,rfl⟩,?_⟩,bools_truth rv,fun h' tk k=>?_⟩)
    · exact pl.isList.at fun o e=>Heap.get?_push_of_some _ e
    · refine ⟨.bl _,H,I.kept (h':=h') (t':=tk) fun b o e=>k b o (fun z=>?_) (Heap.get?_push_of_some _ e),?_,q⟩
      · have e':b=s.heap.objs.size:=by simpa using z
        exact absurd (Heap.lt_size e) (by rw [e']; exact Nat.lt_irrefl _)
      · show Value.bool _=Value.bool _
        rw [List.size_toArray,<- hl,range_any]
        rfl
  · exact q.elim
def gTupF (K:PySem.W.Frag):List V->Hp->VK->Prop:=fun xs H Q=>match xs with
  | [.ref p]=>∃ ys,SqL K H p ys/\∀ l H',Gro H l (.tup ys) H'->Q (.ref l) H'
  | _=>False
theorem c_tuple:CallR X (.type "tuple") (gTupF X.K):=call_tuple_of.imp fun xs H Q q=>by
  unfold gTupF at q
  split at q
  · obtain ⟨ys,h1,q⟩:=q
    exact ⟨_,ys,rfl,.inl ⟨h1,fun l hl=>q l _ (.mk' hl)⟩⟩
  · exact q.elim
def gApp:V->List V->Hp->VK->Prop:=fun x vs H Q=>match x,vs with
  | .ref l,[y]=>∃ xs,H l=some (.lst xs)/\xs.length < sizeLine/\Q .non (upd H l (.lst (xs++[y])))
  | _,_=>False
theorem mg_append:MtR X "list.append" gApp:=by
  intro pins s σ H x vs v us Q I rx rv q
  unfold gApp at q
  split at q
  · obtain ⟨xs,h1,h2,q⟩:=q
    exact mt_append pins s σ H _ _ v us Q I rx rv ⟨_,xs,_,rfl,rfl,h1,h2,q⟩
  · exact q.elim
def gExt (K:PySem.W.Frag):V->List V->Hp->VK->Prop:=fun x vs H Q=>match x,vs with
  | .ref l,[.ref b]=>∃ xs zs,H l=some (.lst xs)/\H b=some (.lst zs)/\xs.length+zs.length<=sizeLine/\Q .non (upd H l (.lst (xs++zs)))
  | _,_=>False
theorem mg_extend:MtR X "list.extend" (gExt X.K):=by
  intro pins s σ H x vs v us Q I rx rv q
  unfold gExt at q
  split at q
  · obtain ⟨xs,zs,h1,h2,h3,q⟩:=q
    exact mt_extend pins s σ H _ _ v us Q I rx rv ⟨_,_,xs,zs,rfl,rfl,h1,h2,h3,q⟩
  · exact q.elim
end
structure Has (P:Program) (w:World) (K:PySem.W.Frag) (mg:Str->Option Value) (base:Heap) (x:Str) (k:Nat) (f:Addr) (fd:FuncData) (ps:List Str) (sp:Sp):Prop where
  gm:mg x=some (.ref f)
  kp:PySem.W.keepIn K (.ref f)=true
  b:Binds K fd ps []
  ok:FnOk P w K mg base CX0 k f fd ps sp
section
variable {X:Cx} {k j:Nat} {f:Addr} {fd:FuncData} {ps:List Str} {sp:Sp} {x:Str} {p pos:Pos} {e:Expr} {es:List Expr} {t:TA}
theorem cal (F:Has X.prog X.w X.K X.mg X.base x j f fd ps sp) (hr:Room k X.A) (ha:PA X (e :: es) t) (hj:j<=k:=by decide) (hg:Gl X x:=by rfl)
    (hdb:(x == ("__debug__" : Str))=false:=by decide) (hn:noStar (e :: es)=true:=by rfl) :
    PE X (.Call (.Name x p) (e :: es) [] pos) (tCall sp [] E0 t):=pe_call F.ok (hr.mono hj) hg F.gm F.kp F.b .nil pass0 ha hdb (star_cons (noStar_head hn).1) (noStar_any (noStar_head hn).2)
theorem calB {id:String} {r:List V->Hp->VK->Prop} (hc:CallR X (.builtin id) r) (hm:X.mg x=none) (hv:bootBuiltins x=some (.builtin id)) (ha:PA X (e :: es) t) (hg:Gl X x:=by rfl) (hx:x ≠ "__name__":=by decide) (hdb:(x == ("__debug__" : Str))=false:=by decide)
    (hn:noStar (e :: es)=true:=by rfl):PE X (.Call (.Name x p) (e :: es) [] pos) (tCB r t):=pe_callB hc hg hm hv ha hx hdb (star_cons (noStar_head hn).1) (noStar_any (noStar_head hn).2)
theorem calTy {T:String} {r:List V->Hp->VK->Prop} (hc:CallR X (.type T) r) (hm:X.mg x=none) (hv:bootBuiltins x=some (.type T)) (ha:PA X (e :: es) t) (hg:Gl X x:=by rfl) (hx:x ≠ "__name__":=by decide) (hdb:(x == ("__debug__" : Str))=false:=by decide)
    (hn:noStar (e :: es)=true:=by rfl):PE X (.Call (.Name x p) (e :: es) [] pos) (tCB r t):=pe_callTy hc hg hm hv ha hx hdb (star_cons (noStar_head hn).1) (noStar_any (noStar_head hn).2)
theorem gi {n:Int} {u:Tok} (hm:X.mg x=some (.int n u)) (hg:Gl X x:=by rfl) (hd:(x == ("__debug__" : Str))=false:=by decide):PE X (.Name x pos) (tC (.int n)):=pe_glob hg hm ⟨u,rfl⟩ hd
end
end L2
namespace L2
open PySem PySem.Spec PyProof.Rows
def clOf (cells:List (Str × Addr)):List (Str × NameKind)->List (Str × Addr)->List (Str × Addr)
  | [],acc=>acc
  | (n,k) :: r,acc=>clOf cells r (if (k == NameKind.free)=true then (n,(cells.lookup n).getD 0) :: acc else acc)
theorem closureFor_of {scope:Scope} {env:Env} (h : ∀ n,(n,NameKind.free)∈scope.names->∃ c,env.cells.lookup n=some c):closureFor scope env=pure (clOf env.cells scope.names []):=by
  unfold closureFor
  have key : ∀ (l:List (Str × NameKind)) (acc:List (Str × Addr)),(∀ n,(n,NameKind.free)∈l->∃ c,env.cells.lookup n=some c) ->
      (forIn l acc (fun x __s=>match x with
          | (name,kind) =>
            if (kind == NameKind.free)=true then do
              let __do_lift <- cellOf env name
              pure (ForInStep.yield ((name,__do_lift) :: __s))
            else pure (ForInStep.yield __s)):Sem (List (Str × Addr)))=pure (clOf env.cells l acc):=by
    intro l
    induction l with
    | nil=>intro acc _; rfl
    | cons x r ih =>
      intro acc hf
      obtain ⟨n,k⟩:=x
      have hr : ∀ n,(n,NameKind.free)∈r->∃ c,env.cells.lookup n=some c:=fun n hn=>hf n (List.mem_cons_of_mem _ hn)
      rw [List.forIn_cons]
      by_cases hk:(k == NameKind.free)=true
      · have hk':k=NameKind.free:=by simpa using hk
        subst hk'
        obtain ⟨c,hc⟩:=hf n List.mem_cons_self
        have e:cellOf env n=pure c:=by unfold cellOf; rw [hc]
        show (if (NameKind.free == NameKind.free)=true then _ else _) >>= _=_
        rw [if_pos hk,e]
        show (forIn r ((n,c) :: acc) _:Sem (List (Str × Addr)))=_
        rw [ih _ hr]
        show _=pure (clOf env.cells r (if (NameKind.free == NameKind.free)=true then (n,(List.lookup n env.cells).getD 0) :: acc else acc))
        rw [if_pos hk,hc]
        rfl
      · show (if (k == NameKind.free)=true then _ else _) >>= _=_
        rw [if_neg hk]
        show (forIn r acc _:Sem (List (Str × Addr)))=_
        rw [ih _ hr]
        show _=pure (clOf env.cells r (if (k == NameKind.free)=true then _ else acc))
        rw [if_neg hk]
  show (forIn scope.names [] _ >>= _:Sem (List (Str × Addr)))=_
  rw [key _ _ h]
  rfl
theorem clOf_lookup {cells:List (Str × Addr)} : ∀ (l:List (Str × NameKind)) (acc:List (Str × Addr)) (x:Str) (c:Addr),(clOf cells l acc).lookup x=some c->(∀ n,(n,NameKind.free)∈l->∃ c,cells.lookup n=some c)->((x,NameKind.free)∈l/\cells.lookup x=some c)\/acc.lookup x=some c
  | [],acc,x,c,h,_=>.inr h
  | (n,k) :: r,acc,x,c,h,hf=>by
    have hr : ∀ n,(n,NameKind.free)∈r->∃ c,cells.lookup n=some c:=fun n hn=>hf n (List.mem_cons_of_mem _ hn)
    rcases clOf_lookup r _ x c h hr with ⟨h1,h2⟩ | h1
    · exact .inl ⟨List.mem_cons_of_mem _ h1,h2⟩
    · by_cases hk:(k == NameKind.free)=true
      · rw [if_pos hk] at h1
        have hk':k=NameKind.free:=by simpa using hk
        subst hk'
        obtain ⟨c',hc⟩:=hf n List.mem_cons_self
        rw [hc] at h1
        rw [List.lookup_cons] at h1
        by_cases e:(x == n)=true
        · rw [e] at h1
          have e':x=n:=by simpa using e
          subst e'
          have:c'=c:=Option.some.inj h1
          subst this
          exact .inl ⟨List.mem_cons_self,hc⟩
        · have e':(x == n)=false:=by simpa using e
          rw [e'] at h1
          exact .inr h1
      · rw [if_neg hk] at h1
        exact .inr h1
theorem clOf_has {cells:List (Str × Addr)} : ∀ (l:List (Str × NameKind)) (acc:List (Str × Addr)) (x:Str),((x,NameKind.free)∈l\/∃ c,acc.lookup x=some c)->∃ c,(clOf cells l acc).lookup x=some c
  | [],acc,x,h=>by
    rcases h with h | h
    · cases h
    · exact h
  | (n,k) :: r,acc,x,h=>by
    unfold clOf
    refine clOf_has r _ x ?_
    rcases h with h | ⟨c,h⟩
    · rcases List.mem_cons.mp h with e | e
      · cases e
        exact .inr ⟨_,by simp; rfl⟩
      · exact .inl e
    · refine .inr ?_
      by_cases hk:(k == NameKind.free)=true
      · rw [if_pos hk,List.lookup_cons]
        cases (x == n)
        · exact ⟨c,h⟩
        · exact ⟨_,rfl⟩
      · rw [if_neg hk]
        exact ⟨c,h⟩
section
variable {prog:Program} {w:World} {A:Around} {s:Shared} {R:Result->Shared->Prop}
theorem compLoop_any {elt target iter:Expr} {ifs:List Expr} {scope:Scope} {pos:Pos} {it acc:Value} {env:Env} (I:Nat->Shared->Prop)
    (turn : ∀ n s,I n s->wpAny (model prog w) A (pyNext it) (fun r s₁=>match r with
      | none=>R (.ok .next) s₁
      | some v=>wpAny (model prog w) A (letOwnedTupleGo target it v) (fun _ s₁'=>wpAny (model prog w) A (assign target env v) (fun _ s₂ =>
          wpAny (model prog w) A (forIn ifs true fun c r=>if r=true then do let ok <- isTrue c env (eval c env); pure (ForInStep.yield ok) else pure (ForInStep.yield r)) (fun ok s₃ =>
            if ok=true then wpAny (model prog w) A (eval elt env) (fun x s₄ =>
              wpAny (model prog w) A (call (.builtin "list.append") [acc,x]) (fun _ s₅=>∃ m,m < n/\I m s₅) (fun _ _=>False) s₄) (fun _ _=>False) s₃
            else ∃ m,m < n/\I m s₃) (fun _ _=>False) s₂) (fun _ _=>False) s₁') (fun _ _=>False) s₁) (fun _ _=>False) s)
    (n:Nat) (h:I n s) :
    codeAny (model prog w) A (.compLoop (.ListComp elt [⟨target,iter,ifs,0⟩] scope pos) 0 it acc env) R s:=by
  refine codeAny_loop rfl I (fun n s hI=>?_) n h
  show wpAny _ A ((compTurn (.ListComp elt [⟨target,iter,ifs,0⟩] scope pos) 0 it acc env).onRaise (fun x=>do noteFrame x env; theTreesLotGoes x)) _ _ s
  refine wpAny_noted ?_
  rw [compTurn_list]
  refine wpAny_bind (wpAny_standAt (wpAny_bind (wpAny_mono (turn n s hI) (fun r s₁ h₁=>?_) fun _ _ h'=>h'.elim)))
  cases r with
  | none=>exact wpAny_pure h₁
  | some v =>
    refine wpAny_bind (wpAny_mono h₁ (fun _ s₁' h₁'=>?_) fun _ _ h'=>h'.elim)
    refine wpAny_bind (wpAny_mono h₁' (fun _ s₂ h₂=>wpAny_bind (wpAny_mono h₂ (fun ok s₃ h₃=>?_) fun _ _ h'=>h'.elim)) fun _ _ h'=>h'.elim)
    cases ok with
    | false=>exact wpAny_pure ⟨rfl,h₃⟩
    | true =>
      exact wpAny_bind (wpAny_bind (wpAny_mono h₃ (fun x s₄ h₄=>wpAny_bind (wpAny_mono h₄ (fun _ s₅ h₅=>wpAny_pure (wpAny_pure ⟨rfl,h₅⟩)) fun _ _ h'=>h'.elim)) fun _ _ h'=>h'.elim))
end
def cxComp (X:Cx) (Nc:List Str) (scope:Scope) (C:Addr) (s:Shared) (H:Hp) (fp:List Addr):Cx where
  prog:=X.prog
  w:=X.w
  K:=X.K
  mg:=X.mg
  base:=X.base
  A:=X.A
  N:=Nc
  s₀:=s
  H₀:=H
  env:=compEnvC scope (clOf X.env.cells scope.names []) C X.env
  outer:=X.stack
  stack:=X.stack
  ex:=fp
  fn:=fun _=>false
  calm:=X.calm
  pn:=X.pn
  xe:=fun _ _=>False
def PTs (X:Cx) (ifs:List Expr) (t:TT):Prop :=
  ∀ (pins:List (Addr × Obj)) (s:Shared) (σ:St) (H:Hp) (Q:Bool->Hp->Prop),Inv X pins σ H s->t σ H Q ->
    wpAny (model X.prog X.w) X.A (forIn ifs true fun c r=>if r=true then do let ok <- isTrue c X.env (eval c X.env); pure (ForInStep.yield ok) else pure (ForInStep.yield r)) (TP X pins σ Q) X.xe s
def tTrue:TT:=fun _ H Q=>Q true H
theorem pts_nil {X:Cx}:PTs X [] tTrue:=fun _ _ _ H _ I h=>wpAny_tests_nil ⟨H,I,h⟩
theorem pts_one {X:Cx} {c:Expr} {t:TT} (h:PT X c t):PTs X [c] t:=fun pins s σ H Q I q=>wpAny_tests_one (h pins s σ H Q I q)
theorem HOk.adopt {P:Program} {w:World} {H:Hp} {h:Heap} {a:Addr} {o:HO} (x:HOk P w H h) (hn:H a=none) (new:ObjOk P w (upd H a o) h a o):HOk P w (upd H a o) h:=fun b u e=>by
  by_cases hb:b=a
  · subst hb; rw [upd_same] at e; cases e; exact new
  · rw [upd_ne hb] at e
    exact (x b u e).stay (fun c v _ q=>q) (fun c q=>by rw [upd_ne (ne_of_none q hn)]; exact q) fun c xs q=>by rw [upd_ne (ne_of_none q hn)]; exact q
def CompW (J:It) (H1:Hp) (σ0:St) (g:TG) (tt:TT) (te:TE) (Q:VK):Prop:=∃ W:Nat->Nat->List V->St->Hp->Prop,
  (∃ m,W 0 m [] σ0 H1)/\∀ i m ys σ1 H2,W i m ys σ1 H2 ->
    (J.stop i H2/\ys.length<=sizeLine/\∀ p H',Gro H2 p (.lst ys) H'->Q (.ref p) H') \/
    (J.go i H2/\ys.length < sizeLine/\∃ Nx:List V->St->Hp->Prop,(∀ ys' σ' H',Nx ys' σ' H'->∃ m',m' < m/\W (i+1) m' ys' σ' H') /\
      ∀ x H',J.yld i H2 x H'->g x σ1 H' fun σ2 H3=>tt σ2 H3 fun b H4=>if b=true then te σ2 H4 fun y H5=>Nx (ys++[y]) σ2 H5 else Nx ys σ2 H4)
def tComp (nv:Nat) (caps:List Nat) (wi:TI) (g:TG) (tt:TT) (te:TE):TE:=fun σ H Q=>wi σ H fun J H1=>CompW J H1 (List.replicate nv none++caps.map fun j=>(σ[j]?).join) g tt te Q
structure CompScope (X:Cx) (Nc:List Str) (nv:Nat) (caps:List Nat) (scope:Scope):Prop where
  kind:scope.kind=.function
  nocell : ∀ y∈scope.names,y.2 ≠ .cell
  names : ∀ y∈scope.names,y.2=.local->scope.names.lookup y.1=some .local
  free : ∀ n,(n,NameKind.free)∈scope.names->X.env.kindOf n=some .cell\/X.env.kindOf n=some .free
  len:Nc.length=nv+caps.length
  cap : ∀ k j,caps[k]? = some j->∃ x,Nc[nv+k]? = some x/\X.N[j]? = some x/\scope.names.lookup x=some .free
def compChk (fns:List (Str × NameKind)) (N Nc:List Str) (nv:Nat) (caps:List Nat) (sc:Scope):Bool :=
  (sc.kind == .function) && (sc.names.all fun y=>!(y.2 == .cell)) && (sc.names.all fun y=>!(y.2 == .local) || sc.names.lookup y.1 == some .local) &&
  (sc.names.all fun y=>!(y.2 == .free) || (fns.lookup y.1 == some .cell || fns.lookup y.1 == some .free)) && (Nc.length == nv+caps.length) &&
  ((List.range caps.length).all fun k=>match caps[k]?,Nc[nv+k]? with
    | some j,some x=>N[j]? == some x && sc.names.lookup x == some .free
    | _,_=>false)
theorem CompScope.of {X:Cx} {fns:List (Str × NameKind)} {N Nc:List Str} {nv:Nat} {caps:List Nat} {sc:Scope} (hf:X.env.scope.names=fns) (hN:X.N=N) (h:compChk fns N Nc nv caps sc=true):CompScope X Nc nv caps sc:=by
  unfold compChk at h
  simp only [Bool.and_eq_true] at h
  obtain ⟨⟨⟨⟨⟨h1,h2⟩,h3⟩,h4⟩,h5⟩,h6⟩:=h
  refine ⟨by simpa using h1,fun y hy e=>?_,fun y hy e=>?_,fun n hn=>?_,by simpa using h5,fun k j e=>?_⟩
  · have:=List.all_eq_true.mp h2 y hy
    rw [e] at this
    simp at this
  · have:=List.all_eq_true.mp h3 y hy
    rw [e] at this
    simpa using this
  · have:=List.all_eq_true.mp h4 _ hn
    show X.env.scope.names.lookup n=some .cell\/X.env.scope.names.lookup n=some .free
    rw [hf]
    simpa using this
  · have hk:k < caps.length:=(List.getElem?_eq_some_iff.mp e).1
    have:=List.all_eq_true.mp h6 k (List.mem_range.mpr hk)
    rw [e] at this
    cases ex:Nc[nv+k]? with
    | none=>rw [ex] at this; simp at this
    | some x =>
      rw [ex] at this
      simp only [Bool.and_eq_true] at this
      exact ⟨x,rfl,by rw [hN]; simpa using this.1,by simpa using this.2⟩
theorem lookup_relabel_kind {env:Env} : ∀ {names:List (Str × NameKind)} {x:Str} {k:NameKind},
    (names.map fun (n,k)=>if (k == NameKind.free && env.scope.kind == .function && env.kindOf n == some .cell) then (n,NameKind.cell) else (n,k)).lookup x=some k ->
    ∃ k0,names.lookup x=some k0/\(k=k0\/(k0=.free/\k=.cell))
  | [],_,_,h=>by simp at h
  | (n,k0) :: r,x,k,h=>by
    have h':List.lookup x ((if (k0 == NameKind.free && env.scope.kind == .function && env.kindOf n == some .cell)=true then (n,NameKind.cell) else (n,k0)) ::
        r.map fun (n,k)=>if (k == NameKind.free && env.scope.kind == .function && env.kindOf n == some .cell) then (n,NameKind.cell) else (n,k))=some k:=h
    cases hx:x == n with
    | true =>
      refine ⟨k0,by simp [List.lookup_cons,hx],?_⟩
      by_cases hc:(k0 == NameKind.free && env.scope.kind == .function && env.kindOf n == some .cell)=true
      · rw [if_pos hc,List.lookup_cons,hx] at h'
        have:NameKind.cell=k:=Option.some.inj h'
        refine .inr ⟨?_,this.symm⟩
        rw [Bool.and_eq_true,Bool.and_eq_true] at hc
        simpa using hc.1.1
      · rw [if_neg hc,List.lookup_cons,hx] at h'
        exact .inl (Option.some.inj h').symm
    | false =>
      have h2:(r.map fun (n,k)=>if (k == NameKind.free && env.scope.kind == .function && env.kindOf n == some .cell) then (n,NameKind.cell) else (n,k)).lookup x=some k:=by
        by_cases hc:(k0 == NameKind.free && env.scope.kind == .function && env.kindOf n == some .cell)=true
        · rw [if_pos hc,List.lookup_cons,hx] at h'
          exact h'
        · rw [if_neg hc,List.lookup_cons,hx] at h'
          exact h'
      obtain ⟨k1,h3,h4⟩:=lookup_relabel_kind h2
      exact ⟨k1,by simp [List.lookup_cons,hx,h3],h4⟩
theorem addr_ne {a b n:Addr} (h:a < n) (h':n<=b):a≠b:=Nat.ne_of_lt (Nat.lt_of_lt_of_le h h')
theorem lookup_mem_pair {α β:Type} [BEq α] [LawfulBEq α] : ∀ {l:List (α × β)} {x:α} {k:β},l.lookup x=some k->(x,k)∈l
  | [],_,_,h=>by simp at h
  | (n,k0) :: r,x,k,h=>by
    cases hx:x == n with
    | true =>
      simp only [List.lookup_cons,hx] at h
      cases h
      have e:x=n:=by simpa using hx
      subst e
      exact List.mem_cons_self
    | false =>
      simp only [List.lookup_cons,hx] at h
      exact List.mem_cons_of_mem _ (lookup_mem_pair h)
section
variable {X:Cx} {elt tg iter:Expr} {ifs:List Expr} {scope:Scope} {Nc:List Str} {nv:Nat} {caps:List Nat}
theorem inv_comp {pins:List (Addr × Obj)} {σ:St} {H:Hp} {s:Shared} {fp:List Addr} {h₁:Heap} {tk:Nat} {D C:Addr} {m:Str->Option Value} (S:CompScope X Nc nv caps scope) (I:Inv X pins σ H s)
    (hf : ∀ b∈fp,FpOk X pins H b) (hfl : ∀ b∈fp,b < s.heap.objs.size) (hD:s.heap.objs.size<=D) (hC:s.heap.objs.size<=C) (hDC:D≠C) (hn:h₁.Ns C m) {oD:Obj} (hDo:h₁.get? D=some oD) (hDd : ∀ v,oD.data ≠ .cell v) (old : ∀ b o,s.heap.get? b=some o->h₁.get? b=some o) :
    Inv (cxComp X Nc scope C s H fp) (pins++[(D,oD)]) (List.replicate nv none++caps.map fun j=>(σ[j]?).join) H { s with heap:=h₁,toks:=tk }:=by
  have hcells : ∀ n,(n,NameKind.free)∈scope.names->∃ c,X.env.cells.lookup n=some c:=fun n hm=>I.ok.has n (S.free n hm)
  have clX : ∀ x c,(clOf X.env.cells scope.names []).lookup x=some c->(x,NameKind.free)∈scope.names/\X.env.cells.lookup x=some c:=fun x c e=>by
    rcases clOf_lookup _ _ _ _ e hcells with h | h
    · exact h
    · simp at h
  have frm : ∀ b∈frs X.stack,b < s.heap.objs.size:=fun b hb=>by
    obtain ⟨_,o,ho,_⟩:=I.stack.mem hb
    exact Heap.lt_size ho
  have cellLt : ∀ x c,X.env.cells.lookup x=some c->c < s.heap.objs.size:=fun x c e=>by
    obtain ⟨v,q⟩:=I.cell x c e
    exact q.lt
  refine ⟨⟨I.ok.mod,S.kind,I.ok.glob,I.ok.blt,hC,fun x y c e1 e2=>I.ok.inj x y c (clX x c e1).2 (clX y c e2).2,fun x hx=>?_,fun x c z=>absurd z (by show ¬ (false=true); decide),I.ok.hd,I.ok.frames,.inl rfl,fun b hb=>⟨?_,fun x c e z=>?_⟩,fun b o e=>I.bs b o e,Nat.le_trans I.ok.bsz I.sz,fun b o e hb=>?_,fun b hb z=>?_,I.stack,I.stkFree⟩,
    rfl,I.bare,Un.kept old,⟨m,hn,fun i x v h1 h2 h3=>?_⟩,fun x c e=>?_,I.hok.fresh hC,fun x c e=>I.freeC x c (clX x c e).2,fun p hp=>?_,I.hok.kept old,?_⟩
  · -- a cell or free name of the block has its cell
    have hx':(relabel scope X.env).names.lookup x=some .cell\/(relabel scope X.env).names.lookup x=some .free:=hx
    have hm:(x,NameKind.free)∈scope.names:=by
      rcases hx' with hx' | hx'
      · obtain ⟨k0,e,z⟩:=lookup_relabel_kind hx'
        rcases z with z | ⟨z,_⟩
        · subst z; exact absurd rfl (S.nocell _ (lookup_mem_pair e))
        · subst z; exact lookup_mem_pair e
      · obtain ⟨k0,e,z⟩:=lookup_relabel_kind hx'
        rcases z with z | ⟨_,z⟩
        · subst z; exact lookup_mem_pair e
        · cases z
    exact clOf_has _ _ _ (.inl hm)
  · exact Nat.ne_of_lt (Nat.lt_of_lt_of_le (hfl b hb) hC)
  · exact (hf b hb).2.2.2.2.1 x c (clX x c e).2 z
  · have hx:=(hf b hb).2.2.2.1
    rcases hx with z | z
    · exact I.ok.noex b o e z
    · exact absurd (Nat.lt_of_lt_of_le (Nat.lt_of_lt_of_le (Heap.lt_size e) I.ok.bsz) z) (Nat.lt_irrefl _)
  · rcases List.mem_cons.mp (I.stkSub b z) with q | q
    · exact (hf b hb).2.1 q
    · exact (hf b hb).2.2.1 q
  · -- the names' values
    have hi:nv<=i:=by
      refine Nat.le_of_not_lt fun hlt=>?_
      rw [List.getElem?_append_left (by simpa using hlt),List.getElem?_replicate,if_pos hlt] at h2
      cases h2
    obtain ⟨k,rfl⟩:=Nat.le.dest hi
    rw [List.getElem?_append_right (by simp)] at h2
    simp only [List.length_replicate,Nat.add_sub_cancel_left,List.getElem?_map] at h2
    cases ek:caps[k]? with
    | none=>rw [ek] at h2; cases h2
    | some j =>
      rw [ek] at h2
      have h2':(σ[j]?).join=some v:=Option.some.inj h2
      have hσ:σ[j]? = some (some v):=by
        cases e:σ[j]? with
        | none=>rw [e] at h2'; cases h2'
        | some z=>rw [e] at h2'; cases z with
          | none=>cases h2'
          | some z=>have:z=v:=Option.some.inj h2'; rw [this]
      obtain ⟨y,e1,e2,e3⟩:=S.cap k j ek
      have h1':Nc[nv+k]? = some x:=h1
      rw [e1] at h1'
      cases h1'
      have hm:=lookup_mem_pair e3
      have hk:=S.free x hm
      obtain ⟨m0,hn0,hl⟩:=I.loc
      obtain ⟨u,ru,lk⟩:=hl j x v e2 hσ (by
        rcases hk with z | z
        · exact .inr (.inl z)
        · exact .inr (.inr z))
      refine ⟨u,ru,?_⟩
      rcases lk with ⟨z,_⟩ | ⟨_,c,hc,hcell⟩
      · rcases hk with z' | z' <;> rw [z] at z' <;> cases z'
      · refine .inr ⟨?_,c,?_,hcell.keeps old⟩
        · rcases h3 with z | z | z
          · exfalso
            obtain ⟨k0,e,z'⟩:=lookup_relabel_kind (show (relabel scope X.env).names.lookup x=some .local from z)
            rw [e3] at e
            cases e
            rcases z' with z' | ⟨_,z'⟩ <;> cases z'
          · exact .inl z
          · exact .inr z
        · obtain ⟨c',hc'⟩:=clOf_has (cells:=X.env.cells) scope.names [] x (.inl hm)
          rw [(clX x c' hc').2] at hc
          cases hc
          exact hc'
  · obtain ⟨v,z⟩:=I.cell x c (clX x c e).2
    exact ⟨v,z.keeps old⟩
  · -- pins
    have hp':p∈X.pn++(pins++[(D,oD)]):=hp
    rw [<- List.append_assoc] at hp'
    rcases List.mem_append.mp hp' with z | z
    · obtain ⟨e,n,ne,nf,d⟩:=I.pin p z
      have hlt:=Heap.lt_size e
      refine ⟨old _ _ e,n,Nat.ne_of_lt (Nat.lt_of_lt_of_le hlt hC),fun q=>?_,d⟩
      rcases List.mem_cons.mp (I.stkSub p.1 q) with q | q
      · exact ne q
      · exact nf q
    · have e:p=(D,oD):=by simpa using z
      subst e
      exact ⟨hDo,I.hok.fresh hD,hDC,fun q=>absurd (Nat.lt_of_lt_of_le (frm _ q) hD) (Nat.lt_irrefl _),hDd⟩
  · show (List.replicate nv none++caps.map fun j=>(σ[j]?).join).length=Nc.length
    rw [List.length_append,List.length_replicate,List.length_map,S.len]
abbrev lobj (its:List Value) (n:Nat):Obj:={ cls:=.type "list",data:=.seq its.toArray n }
theorem lobj_cell (its:List Value) (n:Nat) : ∀ v,(lobj its n).data ≠ .cell v:=fun v z=>by
  have z':Data.seq its.toArray n=Data.cell v:=z
  cases z'
theorem comp_block {g:TG} {tt:TT} {te:TE} {pos:Pos} {pins:List (Addr × Obj)} {σ:St} {H:Hp} {s:Shared} {Q:VK} {E:Value->Shared->Prop} {RR:Value->Addr->Result->Shared->Prop} (hc:X.calm=true) (S:CompScope X Nc nv caps scope)
    (hg : ∀ C s H fp,PG (cxComp X Nc scope C s H fp) tg g) (ht : ∀ C s H fp,PTs (cxComp X Nc scope C s H fp) ifs tt) (he : ∀ C s H fp,PE (cxComp X Nc scope C s H fp) elt te)
    {it:Addr} {fp:List Addr} {tn:Nat->Heap->Prop} {J:It} (I:Inv X pins σ H s) (T:Turn X.prog X.w X.K tg J fp it tn) (st:tn 0 s.heap) (hf : ∀ b∈fp,FpOk X pins H b)
    {W:Nat->Nat->List V->St->Hp->Prop} {m0:Nat} (w0:W 0 m0 [] (List.replicate nv none++caps.map fun j=>(σ[j]?).join) H)
    (turn : ∀ i m ys σ1 H2,W i m ys σ1 H2->(J.stop i H2/\ys.length<=sizeLine/\∀ p H',Gro H2 p (.lst ys) H'->Q (.ref p) H') \/
      (J.go i H2/\ys.length < sizeLine/\∃ Nx:List V->St->Hp->Prop,(∀ ys' σ' H',Nx ys' σ' H'->∃ m',m' < m/\W (i+1) m' ys' σ' H') /\
        ∀ x H',J.yld i H2 x H'->g x σ1 H' fun σ2 H3=>tt σ2 H3 fun b H4=>if b=true then te σ2 H4 fun y H5=>Nx (ys++[y]) σ2 H5 else Nx ys σ2 H4))
    (hRR : ∀ (D C:Addr) (s1:Shared) (H':Hp),Inv X pins σ H' s1->FpOk X pins H' C->(∃ m,s1.heap.Ns C m)->Q (.ref D) H'->RR (.ref D) C (.ok .next) s1) :
    wpAny (model X.prog X.w) X.A (newList []) (fun acc s₃=>wpAny (model X.prog X.w) X.A (newFunctionEnv scope X.env.globals (clOf X.env.cells scope.names []) [] X.env.qual none .none (some X.env)) (fun cenv s₄ =>
      codeAny (model X.prog X.w) X.A (.compStart (.ListComp elt [⟨tg,iter,ifs,0⟩] scope pos) 0 (.ref it) acc { cenv with scope:=relabel scope X.env }) (RR acc cenv.locals) s₄) E s₃) E s:=by
  refine wpAny_newObj_type (wpAny_newFunctionEnv S.nocell (by intro y hy; simp at hy) (fun h₁ hns₁ hsb₁=>?_) S.kind)
  dsimp only at hns₁ hsb₁ ⊢
  generalize hH2:s.heap.push { cls:=.type "list",dict:=none,data:=.seq ([]:List Value).toArray }=h2 at hns₁ hsb₁ ⊢
  have hC:h2.objs.size=s.heap.objs.size+1:=by rw [<- hH2,Heap.size_push]
  have hDC:s.heap.objs.size≠h2.objs.size:=by rw [hC]; exact Nat.ne_of_lt (Nat.lt_succ_self _)
  have hCle:s.heap.objs.size<=h2.objs.size:=by rw [hC]; exact Nat.le_succ _
  have old : ∀ b o,s.heap.get? b=some o->h₁.get? b=some o:=fun b o e=>hsb₁.extBut b o (Nat.ne_of_lt (Nat.lt_of_lt_of_le (Heap.lt_size e) hCle)) (Heap.get?_push_of_some _ (hH2 ▸ Heap.get?_push_of_some _ e))
  have hacc:h₁.get? s.heap.objs.size=some (lobj [] 0):=hsb₁.extBut _ _ hDC (Heap.get?_push_of_some _ (hH2 ▸ Heap.get?_push_size _ rfl))
  have hfl : ∀ b∈fp,b < s.heap.objs.size:=fun b hb=>by
    obtain ⟨o,ho,_⟩:=T.obj _ _ st b hb
    exact Heap.lt_size ho
  have frm : ∀ b∈frs X.stack,b < s.heap.objs.size:=fun b hb=>by
    obtain ⟨_,o,ho,_⟩:=I.stack.mem hb
    exact Heap.lt_size ho
  have cellLt : ∀ x c,X.env.cells.lookup x=some c->c < s.heap.objs.size:=fun x c e=>by
    obtain ⟨v,q⟩:=I.cell x c e
    exact q.lt
  have hcells : ∀ n,(n,NameKind.free)∈scope.names->∃ c,X.env.cells.lookup n=some c:=fun n hm=>I.ok.has n (S.free n hm)
  have clX : ∀ x c,(clOf X.env.cells scope.names []).lookup x=some c->X.env.cells.lookup x=some c:=fun x c e=>by
    rcases clOf_lookup _ _ _ _ e hcells with h | h
    · exact h.2
    · simp at h
  have pinLt : ∀ p∈X.pn++pins,p.1 < s.heap.objs.size:=fun p hp=>Heap.lt_size (I.pin p hp).1
  generalize hDD:s.heap.objs.size=D at hacc hDC ⊢
  generalize hCC:h2.objs.size=C at hDC hCle hns₁ hsb₁ ⊢
  have leD:s.heap.objs.size<=D:=Nat.le_of_eq hDD
  have leC:s.heap.objs.size<=C:=by omega
  have fpc : ∀ {H1:Hp} (o:Obj),(∀ b∈fp,H1 b=none)->∀ b∈fp,FpOk (cxComp X Nc scope C s H fp) (pins++[(D,o)]) H1 b:=fun {H1} o hn b hb=>by
    refine ⟨hn b hb,Nat.ne_of_lt (Nat.lt_of_lt_of_le (hfl b hb) leC),fun z=>?_,.inl hb,fun x c e z=>(hf b hb).2.2.2.2.1 x c (clX x c e) z,fun p hp=>?_⟩
    · rcases List.mem_cons.mp (I.stkSub b z) with q | q
      · exact (hf b hb).2.1 q
      · exact (hf b hb).2.2.1 q
    · have hp':p∈X.pn++(pins++[(D,o)]):=hp
      rw [<- List.append_assoc] at hp'
      rcases List.mem_append.mp hp' with z | z
      · exact (hf b hb).2.2.2.2.2 p z
      · have e:p=(D,o):=by simpa using z
        subst e
        exact fun q=>addr_ne (hfl b hb) leD q.symm
  have loop : ∀ s₃:Shared,s₃ = { s with heap:=h₁,toks:=s.toks+([]:List (Str × Value)).length } ->
      codeAny (model X.prog X.w) X.A (.compLoop (.ListComp elt [⟨tg,iter,ifs,0⟩] scope pos) 0 (.ref it) (.ref D) (compEnvC scope (clOf X.env.cells scope.names []) C X.env)) (RR (.ref D) C) s₃:=by
    rintro s₃ rfl
    refine compLoop_any (fun n s'=>∃ (i:Nat) (ys:List V) (its:List Value) (nn:Nat) (σ1:St) (H1:Hp),Inv (cxComp X Nc scope C s H fp) (pins++[(D,lobj its nn)]) σ1 H1 s'/\tn i s'.heap/\(∀ b∈fp,H1 b=none)/\Vals ys its/\W i n ys σ1 H1) ?_ m0
      ⟨0,[],[],0,_,H,inv_comp S I hf hfl leD leC hDC hns₁ hacc (lobj_cell _ _) old,T.keep _ _ _ st fun b _ o e=>old b o e,fun b hb=>(hf b hb).1,.nil,w0⟩
    rintro n s' ⟨i,ys,its,nn,σ1,H1,I1,st1,fr1,rv,w1⟩
    have pinD : ∀ {σ':St} {H':Hp} {s'':Shared} {pl:List (Addr × Obj)},Inv (cxComp X Nc scope C s H fp) ((pins++[(D,lobj its nn)])++pl) σ' H' s''->s''.heap.get? D=some (lobj its nn)/\H' D=none:=fun {σ' H' s'' pl} I'=>by
      have z:=I'.pin (D,lobj its nn) (List.mem_append_right _ (List.mem_append_left _ (List.mem_append_right _ (by simp))))
      exact ⟨z.1,z.2.1⟩
    rcases turn i n ys σ1 H1 w1 with ⟨stop,hz,q⟩ | ⟨go,hz,Nx,hNx,step⟩
    · refine thn (T.done (cxComp X Nc scope C s H fp) rfl rfl rfl hc i _ s' σ1 H1 _ I1 (fpc _ fr1) st1 stop) fun r s4 ⟨hr,I4⟩=>?_
      subst hr
      obtain ⟨eD,nD⟩:=pinD (pl:=[]) (by rw [List.append_nil]; exact I4)
      obtain ⟨m,hnC,_⟩:=I4.loc
      have u4:Un (frs X.stack) fp H H1 s.heap s4.heap:=I4.base
      have dNone:s.heap.get? D=none:=Heap.get?_none_of_le (Nat.le_of_eq hDD)
      have noD : ∀ b o,s.heap.get? b=some o->b≠D:=fun b o e z=>by rw [z,dNone] at e; cases e
      have u5:Un (frs X.stack) fp H (upd H1 D (.lst ys)) s.heap s4.heap:=by
        refine ⟨u4.keep,u4.slot,fun b o e n hx=>?_,u4.there,fun b xs e=>?_,fun b o u e=>?_,fun b ps e=>?_⟩
        · rw [upd_ne (noD b o e)]
          exact u4.free b o e n hx
        · have z:=u4.tups b xs e
          rw [upd_ne (ne_of_none z nD)]
          exact z
        · have z:=u4.frzs b o u e
          rw [upd_ne (ne_of_none z nD)]
          exact z
        · obtain ⟨more,z⟩:=u4.tbls b ps e
          exact ⟨more,by rw [upd_ne (ne_of_none z nD)]; exact z⟩
      have hok:HOk X.prog X.w (upd H1 D (.lst ys)) s4.heap:=HOk.adopt I4.hok nD ⟨hz,its,nn,rv,eD⟩
      have IX:Inv X pins σ (upd H1 D (.lst ys)) s4:=I.call' I4.os u5 hok I4.bare fun b hb=>⟨(hf b hb).2.2.2.1,(hf b hb).2.1,(hf b hb).2.2.2.2.1,(hf b hb).2.2.2.2.2⟩
      have fpC:FpOk X pins (upd H1 D (.lst ys)) C:=by
        have hl:X.env.locals < s.heap.objs.size:=I.lt
        exact ⟨by rw [upd_ne (Ne.symm hDC)]; exact I4.free,(addr_ne hl leC).symm,I.nofs leC,.inr (Nat.le_trans I.sz leC),fun x c e z=>addr_ne (cellLt x c e) leC z,fun p hp z=>addr_ne (pinLt p hp) leC z⟩
      exact hRR D C s4 _ IX fpC ⟨m,hnC⟩ (q D _ (.mk' nD))
    · refine thn (T.item (cxComp X Nc scope C s H fp) rfl rfl rfl hc i _ s' σ1 H1 _ I1 (fpc _ fr1) st1 go) fun r s4 ⟨u,hr,h4⟩=>?_
      subst hr
      refine thn h4 fun _ s5 ⟨x,H5,I5,r5,y5,st5,fr5⟩=>?_
      have I5':=I5.pinned (fpc _ fr5) (T.obj _ _ st5)
      have back : ∀ {σ7:St} {H7:Hp} {s7:Shared},Inv (cxComp X Nc scope C s H fp) ((pins++[(D,lobj its nn)])++pinsAt fp s5.heap) σ7 H7 s7->tn (i+1) s7.heap/\∀ b∈fp,H7 b=none:=fun {σ7 H7 s7} I7=>by
        refine ⟨T.keep _ _ _ st5 fun b hb o e=>(I7.pin (b,o) (List.mem_append_right _ (List.mem_append_right _ (mem_pinsAt hb e)))).1,fun b hb=>?_⟩
        obtain ⟨o,e,d⟩:=T.obj _ _ st5 b hb
        exact (I7.pin (b,o) (List.mem_append_right _ (List.mem_append_right _ (mem_pinsAt hb e)))).2.1
      refine thn (hg _ _ _ _ _ s5 σ1 H5 x u _ I5' r5 (step x H5 y5)) fun _ s6 ⟨σ6,H6,I6,q6⟩=>?_
      refine thn (ht _ _ _ _ _ s6 σ6 H6 _ I6 q6) fun b s7 ⟨H7,I7,q7⟩=>?_
      cases b with
      | false =>
        obtain ⟨m',hm,w7⟩:=hNx _ _ _ q7
        obtain ⟨t7,f7⟩:=back I7
        exact ⟨m',hm,i+1,ys,its,nn,σ6,H7,I7.unpinned,t7,f7,rv,w7⟩
      | true =>
        refine thn (he _ _ _ _ _ s7 σ6 H7 _ I7 q7) fun yv s8 ⟨y,H8,I8,r8,n8⟩=>?_
        obtain ⟨m',hm,w8⟩:=hNx _ _ _ n8
        obtain ⟨t8,f8⟩:=back I8
        obtain ⟨eD,nD⟩:=pinD I8
        have hlen:=rv.length
        refine call_meets F.slot_list_append ⟨_,eD,rfl⟩ F.entry_list_append (F.args_list_append_2 _ _) (PySem.list_append D its.toArray nn yv (by rw [List.size_toArray]; omega)) ⟨eD,?_⟩
        have ea:its.toArray.push yv=(its++[yv]).toArray:=by simp
        obtain ⟨n9,e9⟩ : ∃ n9,(s8.heap.update D (Obj.mapSeq (·.push yv))).get? D=some (lobj (its++[yv]) n9):=⟨_,by
          have z:=PySem.IsL.update eD (·.push yv)
          rw [ea] at z
          exact z⟩
        have keep9 : ∀ b o,b≠D->s8.heap.get? b=some o->(s8.heap.update D (Obj.mapSeq (·.push yv))).get? b=some o:=fun b o hb e=>(Heap.get?_update_other _ _ (Ne.symm hb)).trans e
        have nfp : ∀ b∈fp,b≠D:=fun b hb z=>addr_ne (hfl b hb) leD z
        have I8u:Inv (cxComp X Nc scope C s H fp) pins σ6 H8 s8:=I8.pins_of fun p hp=>I8.pin p (List.mem_append_right _ (List.mem_append_left _ (List.mem_append_left _ hp)))
        have I9:=I8u.turned (t':=s8.toks) (it:=D) keep9 nD hDC (.inr leD) (fun x c e z=>addr_ne (cellLt x c (clX x c e)) leD z) (fun p hp z=>addr_ne (pinLt p hp) leD z)
        have t9:tn (i+1) (s8.heap.update D (Obj.mapSeq (·.push yv))):=T.keep _ _ _ t8 fun b hb o e=>keep9 b o (nfp b hb) e
        refine ⟨m',hm,i+1,ys++[y],its++[yv],n9,σ6,H8,I9.pins_of fun p hp=>?_,t9,f8,rv.append (.cons r8 .nil),w8⟩
        rcases List.mem_append.mp hp with z | z
        · exact I9.pin p (List.mem_append_right _ z)
        · have e:p=(D,lobj (its++[yv]) n9):=by simpa using z
          subst e
          exact ⟨e9,nD,hDC,fun q=>addr_ne (frm _ q) leD rfl,lobj_cell _ _⟩
  have st':=fun (s₃:Shared) (e:s₃ = { s with heap:=h₁,toks:=s.toks+([]:List (Str × Value)).length })=>loop s₃ e
  exact codeAny_compStart_list (loop _ rfl) (T.self _ 0 _ _ _ (T.keep _ _ _ st fun b _ o e=>old b o e) (loop _ rfl))
theorem pe_comp {wi:TI} {g:TG} {tt:TT} {te:TE} {pos:Pos} (hc:X.calm=true) (S:CompScope X Nc nv caps scope) (hi:PI X tg iter wi)
    (hg : ∀ C s H fp,PG (cxComp X Nc scope C s H fp) tg g) (ht : ∀ C s H fp,PTs (cxComp X Nc scope C s H fp) ifs tt) (he : ∀ C s H fp,PE (cxComp X Nc scope C s H fp) elt te)
    (hs : ∀ x,foldedSetIterable iter X.env x=pure x:=by intro _; rfl):PE X (.ListComp elt [⟨tg,iter,ifs,0⟩] scope pos) (tComp nv caps wi g tt te):=by
  intro pins s σ H Q I h
  rw [eval_ListComp]
  have hcells : ∀ n,(n,NameKind.free)∈scope.names->∃ c,X.env.cells.lookup n=some c:=fun n hm=>I.ok.has n (S.free n hm)
  refine wpAny_comprehension_free (use:=none) rfl hs (closureFor_of hcells) S.kind S.names (thn (hi pins s σ H _ I h) fun v s1 h1=>thn h1 fun itv s2 h2=>?_)
  obtain ⟨it,fp,tn,J,H2,rfl,I2,T,st2,f2,W,⟨m0,w0⟩,turn⟩:=h2
  refine comp_block (RR:=fun acc C=>compPost (model X.prog X.w) X.A X.xe none (EP X pins σ Q) acc C) hc S hg ht he I2 T st2 f2 w0 turn fun D C s4 H4 I4 fC hn q=>?_
  obtain ⟨m,hn⟩:=hn
  refine ⟨m,hn,fun h' sb=>?_⟩
  obtain ⟨f0,f1,f2',f3,f4,f5⟩:=fC
  exact ⟨.ref D,H4,I4.turned (t':=s4.toks) (it:=C) (fun b o hb e=>sb.extBut b o hb e) f0 f1 f3 f4 f5,rfl,q⟩
theorem ps_setC {wi:TI} {g:TG} {tt:TT} {te:TE} {pos spos py:Pos} {i:Nat} {y:Str} (hN:X.N.Nodup) (hy:X.N[i]? = some y) (hx:Loc X.env.scope y) (hc:X.calm=true) (S:CompScope X Nc nv caps scope) (hi:PI X tg iter wi)
    (hg : ∀ C s H fp,PG (cxComp X Nc scope C s H fp) tg g) (ht : ∀ C s H fp,PTs (cxComp X Nc scope C s H fp) ifs tt) (he : ∀ C s H fp,PE (cxComp X Nc scope C s H fp) elt te)
    (hsw:swapsWith (.ListComp elt [⟨tg,iter,ifs,0⟩] scope pos) (some (.Name y py)) spos.line X.env=pure true:=by rfl)
    (hs : ∀ x,foldedSetIterable iter X.env x=pure x:=by intro _; rfl) (hf:X.fn y=true\/X.env.scope.names.lookup y=some .local:=by first | exact .inl rfl | exact .inr rfl | assumption) :
    PS X (.Assign [.Name y py] (.ListComp elt [⟨tg,iter,ifs,0⟩] scope pos) spos) (tAsg (tComp nv caps wi g tt te) (gName i)):=by
  intro pins s σ H D0 I h
  have hcells : ∀ n,(n,NameKind.free)∈scope.names->∃ c,X.env.cells.lookup n=some c:=fun n hm=>I.ok.has n (S.free n hm)
  rw [exec_Assign_Name_used _ _ _ _ hsw]
  refine wpAny_bind (wpAny_standAt (wpAny_bind ?_))
  show wpAny _ X.A (do let _ <- comprehension (.ListComp elt [⟨tg,iter,ifs,0⟩] scope pos) scope X.env _ (newList []) false (eval iter X.env) (some (assign (.Name y py) X.env))) _ _ s
  refine wpAny_bind (wpAny_mono (wpAny_comprehension_free (use:=some (assign (.Name y py) X.env)) (Q:=fun _ s'=>SP X pins D0 .next s') rfl hs (closureFor_of hcells) S.kind S.names
    (thn (hi pins s σ H _ I h) fun v s1 h1=>thn h1 fun itv s2 h2=>?_)) (fun _ s' hq=>wpAny_pure (wpAny_pure hq)) fun _ _ e=>e)
  obtain ⟨it,fp,tn,J,H2,rfl,I2,T,st2,f2,W,⟨m0,w0⟩,turn⟩:=h2
  refine comp_block (RR:=fun acc C=>compPost (model X.prog X.w) X.A X.xe (some (assign (.Name y py) X.env)) (fun _ s'=>SP X pins D0 .next s') acc C) (Q:=fun x H1=>gName i x σ H1 D0.nx) hc S hg ht he I2 T st2 f2 w0 turn fun D C s4 H4 I4 fC hn q=>?_
  obtain ⟨m,hn⟩:=hn
  obtain ⟨f0,f1,f2',f3,f4,f5⟩:=fC
  show wpAny _ X.A (assign (.Name y py) X.env (.ref D)) _ _ _
  refine wpAny_assign_Name (store_ok2 I4 hN hy hx (show RelV (.ref D) (.ref D) from rfl) (fun s5 I5 sb5=>?_) hf)
  obtain ⟨a5,sb5,ha5⟩:=sb5
  have hCa:C≠a5:=by
    rcases ha5 with z | z
    · rw [z]; exact f1
    · exact fun e=>f4 _ _ z e.symm
  refine ⟨m,hn.sameBut sb5 hCa,fun h' sb=>?_⟩
  exact ⟨_,H4,I5.turned (t':=s5.toks) (it:=C) (fun b o hb e=>sb.extBut b o hb e) f0 f1 f3 f4 f5,q⟩
end
theorem comp_list {K:PySem.W.Frag} {a:Addr} {xs:List V} {cs:St} {tt:TT} {te:TE} {H:Hp} {Q:VK} (Pv:Nat->List V->Hp->Prop) (h0:Pv 0 [] H) (hl : ∀ i ys H,i<=xs.length->Pv i ys H->SqL K H a xs/\ys.length<=i) (hz:xs.length<=sizeLine)
    (hs : ∀ i x ys H (N:List V->Hp->Prop),xs[i]? = some x->Pv i ys H->(∀ ys' H',Pv (i+1) ys' H'->N ys' H')->tt (some x :: cs) H fun b H4=>if b=true then te (some x :: cs) H4 fun y H5=>N (ys++[y]) H5 else N ys H4)
    (hd : ∀ ys H p H',Pv xs.length ys H->Gro H p (.lst ys) H'->Q (.ref p) H') :
    CompW (Itl K a) H (List.replicate 1 none++cs) (gName 0) tt te Q:=by
  refine ⟨fun i m ys σ H=>m=xs.length - i/\i<=xs.length/\Pv i ys H/\∃ v0,σ=v0 :: cs,⟨xs.length,by simp,Nat.zero_le _,h0,none,rfl⟩,?_⟩
  rintro i m ys σ H2 ⟨rfl,hi,p,v0,rfl⟩
  obtain ⟨q,ql⟩:=hl i ys H2 hi p
  by_cases hlt:i < xs.length
  · refine .inr ⟨⟨xs,xs[i],q,by simp [hlt]⟩,by omega,fun ys' σ' H'=>Pv (i+1) ys' H'/\∃ v0,σ'=v0 :: cs,fun ys' σ' H' ⟨p',e⟩=>⟨xs.length - (i+1),by omega,rfl,hlt,p',e⟩,fun x H' y=>?_⟩
    obtain ⟨e,y⟩:=y
    subst e
    exact hs i x ys H' (fun ys' H'=>Pv (i+1) ys' H'/\∃ v0,some x :: cs=v0 :: cs) (y xs q) p fun _ _ z=>⟨z,_,rfl⟩
  · have e:i=xs.length:=by omega
    subst e
    exact .inl ⟨⟨xs,q,Nat.le_refl _⟩,by omega,fun p' H' g=>hd ys H2 p' H' p g⟩
theorem comp_range {lo:Int} {n:Nat} {cs:St} {tt:TT} {te:TE} {H:Hp} {Q:VK} (Pv:Nat->List V->Hp->Prop) (h0:Pv 0 [] H) (hl : ∀ i ys H,i<=n->Pv i ys H->ys.length<=i) (hz:n<=sizeLine)
    (hs : ∀ i ys H (N:List V->Hp->Prop),i < n->Pv i ys H->(∀ ys' H',Pv (i+1) ys' H'->N ys' H')->tt (some (.int (lo+i)) :: cs) H fun b H4=>if b=true then te (some (.int (lo+i)) :: cs) H4 fun y H5=>N (ys++[y]) H5 else N ys H4)
    (hd : ∀ ys H p H',Pv n ys H->Gro H p (.lst ys) H'->Q (.ref p) H') :
    CompW (Itr lo n) H (List.replicate 1 none++cs) (gName 0) tt te Q:=by
  refine ⟨fun i m ys σ H=>m=n - i/\i<=n/\Pv i ys H/\∃ v0,σ=v0 :: cs,⟨n,by simp,Nat.zero_le _,h0,none,rfl⟩,?_⟩
  rintro i m ys σ H2 ⟨rfl,hi,p,v0,rfl⟩
  have ql:=hl i ys H2 hi p
  by_cases hlt:i < n
  · refine .inr ⟨hlt,by omega,fun ys' σ' H'=>Pv (i+1) ys' H'/\∃ v0,σ'=v0 :: cs,fun ys' σ' H' ⟨p',e⟩=>⟨n - (i+1),by omega,rfl,hlt,p',e⟩,fun x H' y=>?_⟩
    obtain ⟨e,y⟩:=y
    subst e y
    exact hs i ys H' (fun ys' H'=>Pv (i+1) ys' H'/\∃ v0,some (V.int (lo+i)) :: cs=v0 :: cs) hlt p fun _ _ z=>⟨z,_,rfl⟩
  · have e:i=n:=by omega
    subst e
    exact .inl ⟨Nat.le_refl _,by omega,fun p' H' g=>hd ys H2 p' H' p g⟩
end L2
namespace L2
open PySem PySem.Spec PyProof.Rows
def cutL {α:Type} (xs:List α) (lo hi:Option Int):List α:=(xs.drop (HT.sIx xs.length 0 lo)).take (HT.sIx xs.length xs.length hi - HT.sIx xs.length 0 lo)
theorem cutL_map {α β:Type} (f:α->β) (xs:List α) (lo hi:Option Int):cutL (xs.map f) lo hi=(cutL xs lo hi).map f:=by
  unfold cutL
  rw [List.length_map,List.map_take,List.map_drop]
theorem cutL_to {α:Type} (xs:List α) (k:Nat):cutL xs none (some (k:Int))=xs.take k:=by
  unfold cutL HT.sIx
  simp only [List.drop_zero,Nat.sub_zero]
  have h : ¬ ((k:Int) < 0):=by omega
  rw [if_neg h,Int.toNat_natCast,<- List.take_take,List.take_length]
theorem cutL_from {α:Type} (xs:List α) (k:Nat):cutL xs (some (k:Int)) none=xs.drop k:=by
  unfold cutL HT.sIx
  have h : ¬ ((k:Int) < 0):=by omega
  dsimp only
  rw [if_neg h,Int.toNat_natCast]
  by_cases hk:k<=xs.length
  · rw [Nat.min_eq_left hk]
    exact List.take_of_length_le (by simp)
  · rw [Nat.min_eq_right (by omega),List.drop_length,List.take_nil,List.drop_eq_nil_of_le (by omega)]
theorem cutL_mid {α:Type} (xs:List α) (k m:Nat):cutL xs (some (k:Int)) (some ((k:Int)+(m:Int)))=(xs.drop k).take m:=by
  unfold cutL HT.sIx
  have h : ¬ ((k:Int) < 0):=by omega
  have h' : ¬ ((k:Int)+(m:Int) < 0):=by omega
  have e:((k:Int)+(m:Int)).toNat=k+m:=by omega
  dsimp only
  rw [if_neg h,if_neg h',Int.toNat_natCast,e]
  by_cases hk:k<=xs.length
  · rw [Nat.min_eq_left hk]
    by_cases hm:k+m<=xs.length
    · rw [Nat.min_eq_left hm,Nat.add_sub_cancel_left]
    · rw [Nat.min_eq_right (by omega),List.take_of_length_le (by simp),List.take_of_length_le (by simp; omega)]
  · rw [Nat.min_eq_right (by omega:xs.length<=k),List.drop_length,List.take_nil,List.drop_eq_nil_of_le (by omega),List.take_nil]
theorem cutV_ints (ns:List Int) (lo hi:Option Int):cutV (ns.map V.int) lo hi=(cutL ns lo hi).map V.int:=cutL_map _ _ _ _
theorem eqv_ints (ns ms:List Int):PyData.eqv (.list (ns.map PyData.int)) (.list (ms.map PyData.int))=decide (ns=ms):=by
  show PyData.eqvAll _ _=_
  exact PySem.W.ked_eqvAll ns ms
theorem eq_ints {K:PySem.W.Frag} {H:Hp} {a b:Addr} {ns ms:List Int} {neg:Bool} {Q:VK} (h1:SqL K H a (ns.map V.int)) (h2:SqL K H b (ms.map V.int)) (q:Q (.bl (if neg then !decide (ns=ms) else decide (ns=ms))) H) :
    gEq K neg (.ref a) (.ref b) H Q:=by
  refine ⟨_,_,DataV.lst h1 (DataVs.ints ns),DataV.lst h2 (DataVs.ints ms),PySem.W.ke_shaped_ints ns,PySem.W.ke_shaped_ints ms,?_⟩
  rw [eqv_ints]
  exact q
end L2
namespace L2
open PySem PySem.Spec PyProof.Rows
structure QE (X:Cx) (e:Expr) (t:TE):Prop where
  h:PE X e t
structure QT (X:Cx) (e:Expr) (t:TT):Prop where
  h:PT X e t
structure QW (X:Cx) (e:Expr) (t:TT):Prop where
  h:PW X e t
structure QA (X:Cx) (es:List Expr) (t:TA):Prop where
  h:PA X es t
structure QS (X:Cx) (st:Stmt) (t:TS):Prop where
  h:PS X st t
structure QSs (X:Cx) (st:List Stmt) (t:TS):Prop where
  h:PSs X st t
structure QG (X:Cx) (e:Expr) (t:TG):Prop where
  h:PG X e t
structure QGs (X:Cx) (es:List Expr) (t:TGs):Prop where
  h:PGs X es t
structure QI (X:Cx) (tg e:Expr) (t:TI):Prop where
  h:PI X tg e t
structure QO (X:Cx) (e:Option Expr) (t:TO):Prop where
  h:PO X e t
structure QTs (X:Cx) (es:List Expr) (t:TT):Prop where
  h:PTs X es t
section
variable {X:Cx} {a b c e o:Expr} {es rest:List Expr} {pos p p2:Pos} {ta tb tc te to:TE} {tA tB' tt:TT} {t tk:TA}
theorem q_pe_int {i j pos}:QE X (.Constant (.int i) j pos) (tC (.int i)):=⟨pe_int⟩
theorem q_pe_bl {b j pos}:QE X (.Constant (.bool b) j pos) (tC (.bl b)):=⟨pe_bl⟩
theorem q_pe_non {j pos}:QE X (.Constant .none j pos) (tC .non):=⟨pe_non⟩
theorem q_pe_str {x j pos}:QE X (.Constant (.str x) j pos) (tC (.str x)):=⟨pe_str⟩
theorem q_vv (i:Nat) {x:Str} (hN:X.N[i]? = some x:=by rfl) (hv:Vis X.env.scope x:=by first | exact Or.inl rfl | exact Or.inr (Or.inl rfl) | exact Or.inr (Or.inr rfl)) (hd:(x == ("__debug__" : Str))=false:=by decide)
    (hcd:(x == ("__classdict__" : Str))=false:=by decide):QE X (.Name x pos) (mV i):=⟨vv i hN hv hd hcd⟩
theorem q_gi {x:Str} {n:Int} {u:Tok} (hm:X.mg x=some (.int n u)) (hg:Gl X x:=by rfl) (hd:(x == ("__debug__" : Str))=false:=by decide):QE X (.Name x pos) (tC (.int n)):=⟨gi hm hg hd⟩
theorem q_pe_glob {x:Str} {v:V} {u:Value} (hg:Gl X x) (hm:X.mg x=some u) (r:RelV v u) (hd:(x == ("__debug__" : Str))=false:=by decide):QE X (.Name x pos) (tC v):=⟨pe_glob hg hm r hd⟩
theorem q_bty {x:Str} {T:String} (hg:Gl X x) (hm:X.mg x=none) (hv:bootBuiltins x=some (.type T)) (hn:x ≠ "__name__":=by decide) (hd:(x == ("__debug__" : Str))=false:=by decide):QE X (.Name x pos) (tC (.ty T)):=⟨bty hg hm hv hn hd⟩
theorem q_me_fd {j:Int} {k:Nat} (ha:QE X a ta) (hj:0 < j/\j < 1073741824:=by decide):QE X (.BinOp a .FloorDiv (.Constant (.int j) k p) pos) (mFd j ta):=⟨me_fd ha.h hj⟩
theorem q_me_md {j:Int} {k:Nat} (ha:QE X a ta) (hj:0 < j:=by decide):QE X (.BinOp a .Mod (.Constant (.int j) k p) pos) (mMd j ta):=⟨me_md ha.h hj⟩
theorem q_pe_op {op:Operator} {r:R2} (ho:OpR X (binaryOp op) r) (ha:QE X a ta) (hb:QE X b tb):QE X (.BinOp a op b pos) (tOp r ta tb):=⟨pe_op ho ha.h hb.h⟩
theorem q_pe_un {op:UnaryOp} {r:V->Hp->VK->Prop} (ho:UnR X (unaryOp op) r) (ha:QE X a ta):QE X (.UnaryOp op a pos) (tUn r ta):=⟨pe_un ho ha.h⟩
theorem q_me_not (ha:QE X a ta):QE X (.UnaryOp .Not a pos) (mNot ta):=⟨me_not ha.h⟩
theorem q_me_and (ha:QE X a ta) (hb:QE X (.BoolOp .And (b :: rest) pos) tb):QE X (.BoolOp .And (a :: b :: rest) pos) (mAnd ta tb):=⟨me_and ha.h hb.h⟩
theorem q_me_or (ha:QE X a ta) (hb:QE X (.BoolOp .Or (b :: rest) pos) tb):QE X (.BoolOp .Or (a :: b :: rest) pos) (mOr ta tb):=⟨me_or ha.h hb.h⟩
theorem q_pe_one {op} (h:QE X a ta):QE X (.BoolOp op [a] pos) ta:=⟨pe_one h.h⟩
theorem q_pe_cmpR {op:CmpOp} {r:R2} (ho:OpR X (compareOp op) r) (ha:QE X a ta) (hb:QE X b tb) (hm:behindInMarks op b=false):QE X (.Compare a [op] [b] pos) (tOp r ta tb):=⟨pe_cmpR ho ha.h hb.h hm⟩
theorem q_me_chain {op op':CmpOp} {r r':R2} (ho:OpR X (compareOp op) r) (ho':OpR X (compareOp op') r') (ha:QE X a ta) (hb:QE X b tb) (hc:QE X c tc)
    (hm:lastMarks [op,op'] [b,c]=false:=by with_unfolding_all rfl):QE X (.Compare a [op,op'] [b,c] pos) (mChain r r' ta tb tc):=⟨me_chain ho ho' ha.h hb.h hc.h hm⟩
theorem q_pe_ifExp (hc:QT X c tA) (ha:QE X a ta) (hb:QE X b tb):QE X (.IfExp c a b pos) (tIf tA ta tb):=⟨pe_ifExp hc.h ha.h hb.h⟩
theorem q_PW_pt (h:QW X e tt):QT X e tt:=⟨PW.pt h.h⟩
theorem q_pw_and1 (ha:QT X a tA):QW X (.BoolOp .And [a] pos) tA:=⟨pw_and1 ha.h⟩
theorem q_pw_or1 (ha:QT X a tA):QW X (.BoolOp .Or [a] pos) tA:=⟨pw_or1 ha.h⟩
theorem q_pw_and (ha:QT X a tA) (hb:QW X (.BoolOp .And (b :: rest) pos) tB'):QW X (.BoolOp .And (a :: b :: rest) pos) (tAnd tA tB'):=⟨pw_and ha.h hb.h⟩
theorem q_pw_or (ha:QT X a tA) (hb:QW X (.BoolOp .Or (b :: rest) pos) tB'):QW X (.BoolOp .Or (a :: b :: rest) pos) (tOr tA tB'):=⟨pw_or ha.h hb.h⟩
theorem q_pt_not (ha:QT X a tA):QT X (.UnaryOp .Not a pos) (tNot tA):=⟨pt_not ha.h⟩
theorem q_mt_cmp {op:CmpOp} {r:R2} (ho:OpR X (compareOp op) r) (ha:QE X a ta) (hb:QE X b tb) (hm:behindInMarks op b=false):QT X (.Compare a [op] [b] pos) (mB (tOp r ta tb)):=⟨mt_cmp ho ha.h hb.h hm⟩
theorem q_mt_chain {op op':CmpOp} {r r':R2} (ho:OpR X (compareOp op) r) (ho':OpR X (compareOp op') r') (ha:QE X a ta) (hb:QE X b tb) (hc:QE X c tc)
    (hm:lastMarks [op,op'] [b,c]=false:=by with_unfolding_all rfl):QT X (.Compare a [op,op'] [b,c] pos) (mB (mChain r r' ta tb tc)):=⟨mt_chain ho ho' ha.h hb.h hc.h hm⟩
theorem q_mt_val (h:QE X e te) (he : ∀ whole,isTrue e X.env whole=(do let v <- whole; standAt e.pos; holding [v] (truthy v)):=by intro _; rfl):QT X e (mB te):=⟨mt_val h.h he⟩
theorem q_mt_tru (h:QE X e te) (he : ∀ whole,isTrue e X.env whole=(do let v <- whole; standAt e.pos; holding [v] (truthy v)):=by intro _; rfl):QT X e (mTru X.K te):=⟨mt_tru h.h he⟩
theorem q_pa_nil:QA X [] tNil:=⟨pa_nil⟩
theorem q_pa_c (ha:QE X e te) (hr:QA X es t) (hs:isStar e=false:=by rfl):QA X (e :: es) (tCons te t):=⟨pa_c ha.h hr.h hs⟩
theorem q_pa_const {vs:List V} (h:constsOf es=some vs):QA X es (tConsts vs):=⟨pa_const h⟩
theorem q_me_lst (h:QA X es t):QE X (.List es pos) (mLst t):=⟨me_lst h.h⟩
theorem q_me_tup {x1} (h:QA X es t):QE X (.Tuple es x1 pos) (mTup t):=⟨me_tup h.h⟩
theorem q_me_dic:QE X (.Dict [] [] pos) mDic:=⟨me_dic⟩
theorem q_po_none:QO X none tNoPart:=⟨po_none⟩
theorem q_po_some (h:QE X e te):QO X (some e) (tPart te):=⟨po_some h.h⟩
theorem q_pe_slice {r:V->Option Int->Option Int->Hp->VK->Prop} {lo hi:Option Expr} {tl th:TO} (hr:SlR X r) (he:QE X e te) (hl:QO X lo tl) (hu:QO X hi th):QE X (.Subscript e (.Slice lo hi none p2) pos) (tSl r te tl th):=⟨pe_slice hr he.h hl.h hu.h⟩
theorem q_pe_ix {r:R2} (hr:IxR X r) (ha:QE X a ta) (hb:QE X b tb) (hs:PlainIx b):QE X (.Subscript a b pos) (tOp r ta tb):=⟨pe_ix hr ha.h hb.h hs⟩
section
variable {k j:Nat} {f:Addr} {fd:FuncData} {ps:List Str} {sp:Sp} {x:Str}
theorem q_cal (F:Has X.prog X.w X.K X.mg X.base x j f fd ps sp) (hr:Room k X.A) (ha:QA X (e :: es) t) (hj:j<=k:=by decide) (hg:Gl X x:=by rfl)
    (hdb:(x == ("__debug__" : Str))=false:=by decide) (hn:noStar (e :: es)=true:=by rfl):QE X (.Call (.Name x p) (e :: es) [] pos) (tCall sp [] E0 t):=⟨cal F hr ha.h hj hg hdb hn⟩
theorem q_calB {id:String} {r:List V->Hp->VK->Prop} (hc:CallR X (.builtin id) r) (hm:X.mg x=none) (hv:bootBuiltins x=some (.builtin id)) (ha:QA X (e :: es) t) (hg:Gl X x:=by rfl) (hx:x ≠ "__name__":=by decide) (hdb:(x == ("__debug__" : Str))=false:=by decide)
    (hn:noStar (e :: es)=true:=by rfl):QE X (.Call (.Name x p) (e :: es) [] pos) (tCB r t):=⟨calB hc hm hv ha.h hg hx hdb hn⟩
theorem q_calTy {T:String} {r:List V->Hp->VK->Prop} (hc:CallR X (.type T) r) (hm:X.mg x=none) (hv:bootBuiltins x=some (.type T)) (ha:QA X (e :: es) t) (hg:Gl X x:=by rfl) (hx:x ≠ "__name__":=by decide) (hdb:(x == ("__debug__" : Str))=false:=by decide)
    (hn:noStar (e :: es)=true:=by rfl):QE X (.Call (.Name x p) (e :: es) [] pos) (tCB r t):=⟨calTy hc hm hv ha.h hg hx hdb hn⟩
end
section
variable {name:Str} {apos cpos:Pos} {T id:String} {r:V->List V->Hp->VK->Prop}
theorem q_pe_bm0 (pa:PlainAttrs T) (slot:Slot T name id) (hty:typeOf (.builtin id)=pure (.type "method_descriptor")) (hm:MtR X id r) (ho:QE X o to)
    (hbase:attributeBase o name X.env (eval o X.env)=eval o X.env:=by rfl) (hline:(apos.endLine == cpos.line)=true:=by rfl):QE X (.Call (.Attribute o name apos) [] [] cpos) (tBM0 X.K T r to):=⟨pe_bm0 pa slot hty hm ho.h hbase hline⟩
theorem noStar_all {env:Env} {pos:Pos} : ∀ {es:List Expr},noStar es=true->(backTo pos (starEach es env)).all (fun x=>!x.1)=true
  | [],_=>rfl
  | e :: r,h=>by
    obtain ⟨h1,h2⟩:=noStar_head h
    rw [star_cons h1]
    show (!false && (backTo pos (starEach r env)).all (fun x=>!x.1))=true
    rw [noStar_all h2]
    rfl
theorem q_pe_bm (pa:PlainAttrs T) (slot:Slot T name id) (hty:typeOf (.builtin id)=pure (.type "method_descriptor")) (hm:MtR X id r) (ho:QE X o to) (ha:QA X (e :: es) t)
    (hbase:attributeBase o name X.env (eval o X.env)=eval o X.env:=by rfl) (hn:noStar (e :: es)=true:=by rfl) (hf:decide ((e :: es).length+0+0 < 30)=true:=by rfl)
    (hline:(apos.endLine == cpos.line)=true:=by rfl):QE X (.Call (.Attribute o name apos) (e :: es) [] cpos) (tBM X.K T r to t) :=
  ⟨pe_bm pa slot hty hm ho.h ha.h hbase (by rw [noStar_all hn]; exact hf) hline (star_cons (noStar_head hn).1) (noStar_any (noStar_head hn).2)⟩
end
section
variable {st:Stmt} {sts ss2:List Stmt} {s t1 u1:TS} {tg it:Expr} {g:TG} {gs:TGs} {wi:TI}
theorem q_pss_nil:QSs X [] tNext:=⟨pss_nil⟩
theorem q_pss_cons (h1:QS X st t1) (h2:QSs X sts u1):QSs X (st :: sts) (tSeq t1 u1):=⟨pss_cons h1.h h2.h⟩
theorem q_pss_one (h1:QS X st t1):QSs X [st] t1:=⟨pss_one h1.h⟩
theorem q_ps_never:QS X st tNever:=⟨ps_never⟩
theorem q_ps_break:QS X (.Break pos) tBreak:=⟨ps_break⟩
theorem q_ps_ret (he:QE X e te):QS X (.Return (some e) pos) (tRet te):=⟨ps_ret he.h⟩
theorem q_ps_expr (he:QE X e te) (hs:swapsWith e none pos.line X.env=pure false:=by rfl):QS X (.Expr e pos) (tDrop te):=⟨ps_expr he.h hs⟩
theorem q_ps_if (hc:QT X c tA) (ha:QSs X sts t1) (hb:QSs X ss2 u1):QS X (.If c sts ss2 pos) (tIfS tA t1 u1):=⟨ps_if hc.h ha.h hb.h⟩
theorem q_ps_set {i:Nat} {x:Str} {pos':Pos} (hN:X.N.Nodup) (hi:X.N[i]? = some x) (hx:Loc X.env.scope x) (he:QE X e te) (hs:swapsWith e (some (.Name x pos')) pos.line X.env=pure false:=by rfl) (hf:X.fn x=true\/X.env.scope.names.lookup x=some .local:=by first | exact .inl rfl | exact .inr rfl | assumption) :
    QS X (.Assign [.Name x pos'] e pos) (tAsg te (gName i)):=⟨ps_set hN hi hx he.h hs hf⟩
theorem q_ps_asg (he:QE X e te) (hg:QG X tg g) (hs:swapsWithSole [tg] e pos.line X.env=pure false:=by rfl) (hw:swappedStores [tg] e X.env=pure none:=by rfl)
    (h1:(assignEach [tg] X.env).map (·.2)=[assign tg X.env]:=by rfl):QS X (.Assign [tg] e pos) (tAsg te g):=⟨ps_asg he.h hg.h hs hw h1⟩
theorem q_pg_name {i:Nat} {x:Str} (hN:X.N.Nodup) (hi:X.N[i]? = some x) (hx:Loc X.env.scope x) (hf:X.fn x=true\/X.env.scope.names.lookup x=some .local:=by first | exact .inl rfl | exact .inr rfl | assumption):QG X (.Name x pos) (gName i):=⟨pg_name hN hi hx hf⟩
theorem q_pgs_nil:QGs X [] gNil:=⟨pgs_nil⟩
theorem q_pgs_cons (h1:QG X e g) (h2:QGs X es gs) (hs:(assignEach (e :: es) X.env).map (·.2)=assign e X.env :: (assignEach es X.env).map (·.2):=by rfl):QGs X (e :: es) (gCons g gs):=⟨pgs_cons h1.h h2.h hs⟩
theorem q_pg_tup {k n:Nat} (hc:X.calm=true) (h:QGs X es gs) (hn:(assignEach es X.env).length=n:=by rfl) (hst:(assignEach es X.env).findIdx? (·.1)=none:=by rfl):QG X (.Tuple es k pos) (gTup X.K n gs):=⟨pg_tup hc h.h hn hst⟩
theorem q_pg_sub {i:Expr} {ti:TE} {ts:TSet} (ho:QE X o to) (hi:QE X i ti) (hs:PSet X ts)
    (ha : ∀ v,assign (.Subscript o i pos) X.env v=(do
      let ov <- holding [v] (eval o X.env)
      let iv <- holding [v,ov] (eval i X.env)
      standAt pos
      holding [v,ov,iv] (setItem ov iv v)
      release [v,ov,iv] []):=by intro _; rfl):QG X (.Subscript o i pos) (gSub to ti ts):=⟨pg_sub ho.h hi.h hs ha⟩
theorem q_pi_list {l:Expr} {tl:TE} (hl:QE X l tl):QI X tg l (iList X.K tl):=⟨pi_list hl.h⟩
theorem q_pi_tup {l:Expr} {tl:TE} (hl:QE X l tl):QI X tg l (iTup X.K tl):=⟨pi_tup hl.h⟩
theorem q_pi_range1 (hg:Gl X "range") (hm:X.mg "range" = none) (ha:QA X [a] t) (hs:isStar a=false:=by rfl):QI X tg (.Call (.Name "range" p) [a] [] pos) (iRng1 t):=⟨pi_range1 hg hm ha.h (star_cons hs)⟩
theorem q_pi_range2 (hg:Gl X "range") (hm:X.mg "range" = none) (ha:QA X [a,b] t) (hs:isStar a=false:=by rfl) (hs2:isStar b=false:=by rfl):QI X tg (.Call (.Name "range" p) [a,b] [] pos) (iRng2 t) :=
  ⟨pi_range2 hg hm ha.h (by rw [star_cons hs,star_cons hs2]; rfl) (star_cons hs2)⟩
theorem q_ps_for {body:List Stmt} {tb1:TS} (hp:PassesOwn (model X.prog X.w) X.A X.env X.xe) (hc:X.calm=true) (hi:QI X tg it wi) (hg:QG X tg g) (hb:QSs X body tb1)
    (hs : ∀ x,foldedSetIterable it X.env x=pure x:=by intro _; rfl):QS X (.For tg it body [] pos) (tFor wi g tb1):=⟨ps_for hp hc hi.h hg.h hb.h hs⟩
theorem q_ps_while {body:List Stmt} {tb1:TS} (hp:PassesOwn (model X.prog X.w) X.A X.env X.xe) (hc:QT X c tA) (hb:QSs X body tb1):QS X (.While c body [] pos) (tWhile tA tb1):=⟨ps_while hp hc.h hb.h⟩
theorem q_pts_nil:QTs X [] tTrue:=⟨pts_nil⟩
theorem q_pts_one (h:QT X c tA):QTs X [c] tA:=⟨pts_one h.h⟩
theorem q_pe_comp {scope:Scope} {Nc:List Str} {nv:Nat} {caps:List Nat} {ifs:List Expr} (hc:X.calm=true) (S:CompScope X Nc nv caps scope) (hi:QI X tg it wi)
    (hg : ∀ C s H fp,QG (cxComp X Nc scope C s H fp) tg g) (ht : ∀ C s H fp,QTs (cxComp X Nc scope C s H fp) ifs tt) (he : ∀ C s H fp,QE (cxComp X Nc scope C s H fp) e te)
    (hs : ∀ x,foldedSetIterable it X.env x=pure x:=by intro _; rfl):QE X (.ListComp e [⟨tg,it,ifs,0⟩] scope pos) (tComp nv caps wi g tt te) :=
  ⟨pe_comp hc S hi.h (fun C s H fp=>(hg C s H fp).h) (fun C s H fp=>(ht C s H fp).h) (fun C s H fp=>(he C s H fp).h) hs⟩
theorem q_ps_setC {scope:Scope} {Nc:List Str} {nv:Nat} {caps:List Nat} {ifs:List Expr} {spos py:Pos} {i:Nat} {y:Str} (hN:X.N.Nodup) (hy:X.N[i]? = some y) (hx:Loc X.env.scope y) (hc:X.calm=true) (S:CompScope X Nc nv caps scope) (hi:QI X tg it wi)
    (hg : ∀ C s H fp,QG (cxComp X Nc scope C s H fp) tg g) (ht : ∀ C s H fp,QTs (cxComp X Nc scope C s H fp) ifs tt) (he : ∀ C s H fp,QE (cxComp X Nc scope C s H fp) e te)
    (hsw:swapsWith (.ListComp e [⟨tg,it,ifs,0⟩] scope pos) (some (.Name y py)) spos.line X.env=pure true:=by rfl)
    (hs : ∀ x,foldedSetIterable it X.env x=pure x:=by intro _; rfl) (hf:X.fn y=true\/X.env.scope.names.lookup y=some .local:=by first | exact .inl rfl | exact .inr rfl | assumption) :
    QS X (.Assign [.Name y py] (.ListComp e [⟨tg,it,ifs,0⟩] scope pos) spos) (tAsg (tComp nv caps wi g tt te) (gName i)) :=
  ⟨ps_setC hN hy hx hc S hi.h (fun C s H fp=>(hg C s H fp).h) (fun C s H fp=>(ht C s H fp).h) (fun C s H fp=>(he C s H fp).h) hsw hs hf⟩
end
end
section
variable {X:Cx} {K:PySem.W.Frag} {a b c e o:Expr} {es rest:List Expr} {pos p p2:Pos} {ta tb tc te to:TE} {tA tB' tt:TT} {t tk:TA}
theorem g_ixK (h:X.K=K):IxR X (gIx K):=by subst h; exact g_ix
theorem g_slK (h:X.K=K):SlR X (gSl K):=by subst h; exact g_sl
theorem g_addK (h:X.K=K):OpR X (binaryOp .Add) (gAdd K):=by subst h; exact g_add
theorem g_eqK (h:X.K=K) (hu:X.A.units+64 < cLine):OpR X (compareOp .Eq) (gEq K false):=by subst h; exact g_eq hu
theorem g_neK (h:X.K=K) (hu:X.A.units+64 < cLine):OpR X (compareOp .NotEq) (gEq K true):=by subst h; exact g_ne hu
theorem g_inK (h:X.K=K):OpR X (compareOp .In) (gIn K false):=by subst h; exact g_in
theorem g_notinK (h:X.K=K):OpR X (compareOp .NotIn) (gIn K true):=by subst h; exact g_notin
theorem c_lenK (h:X.K=K):CallR X (.builtin "len") (gLen K):=by subst h; exact c_len
theorem c_listK (h:X.K=K):CallR X (.type "list") (gList K):=by subst h; exact c_list
theorem c_tupleK (h:X.K=K):CallR X (.type "tuple") (gTupF K):=by subst h; exact c_tuple
theorem c_allK (h:X.K=K) (hc:X.calm=true):CallR X (.builtin "all") (gAll K false):=by subst h; exact c_all hc
theorem c_anyK (h:X.K=K) (hc:X.calm=true):CallR X (.builtin "any") (gAll K true):=by subst h; exact c_any hc
theorem c_instK (h:X.K=K):CallR X (.builtin "isinstance") (gInst K):=by subst h; exact c_inst
theorem mg_extendK (h:X.K=K):MtR X "list.extend" (gExt K):=by subst h; exact mg_extend
theorem q_mt_truK (h:X.K=K) (q:QE X e te) (he : ∀ whole,isTrue e X.env whole=(do let v <- whole; standAt e.pos; holding [v] (truthy v)):=by intro _; rfl):QT X e (mTru K te):=by subst h; exact q_mt_tru q he
theorem q_pi_listK {tg l:Expr} {tl:TE} (h:X.K=K) (hl:QE X l tl):QI X tg l (iList K tl):=by subst h; exact q_pi_list hl
theorem q_pi_tupK {tg l:Expr} {tl:TE} (h:X.K=K) (hl:QE X l tl):QI X tg l (iTup K tl):=by subst h; exact q_pi_tup hl
theorem q_pg_tupK {k n:Nat} {gs:TGs} (h:X.K=K) (hc:X.calm=true) (q:QGs X es gs) (hn:(assignEach es X.env).length=n:=by rfl) (hst:(assignEach es X.env).findIdx? (·.1)=none:=by rfl):QG X (.Tuple es k pos) (gTup K n gs):=by subst h; exact q_pg_tup hc q hn hst
theorem q_pe_bmK {name:Str} {apos cpos:Pos} {T id:String} {r:V->List V->Hp->VK->Prop} (h:X.K=K) (pa:PlainAttrs T) (slot:Slot T name id) (hty:typeOf (.builtin id)=pure (.type "method_descriptor")) (hm:MtR X id r) (ho:QE X o to) (ha:QA X (e :: es) t)
    (hbase:attributeBase o name X.env (eval o X.env)=eval o X.env:=by rfl) (hn:noStar (e :: es)=true:=by rfl) (hf:decide ((e :: es).length+0+0 < 30)=true:=by rfl)
    (hline:(apos.endLine == cpos.line)=true:=by rfl):QE X (.Call (.Attribute o name apos) (e :: es) [] cpos) (tBM K T r to t):=by subst h; exact q_pe_bm pa slot hty hm ho ha hbase hn hf hline
theorem q_pe_bm0K {name:Str} {apos cpos:Pos} {T id:String} {r:V->List V->Hp->VK->Prop} (h:X.K=K) (pa:PlainAttrs T) (slot:Slot T name id) (hty:typeOf (.builtin id)=pure (.type "method_descriptor")) (hm:MtR X id r) (ho:QE X o to)
    (hbase:attributeBase o name X.env (eval o X.env)=eval o X.env:=by rfl) (hline:(apos.endLine == cpos.line)=true:=by rfl):QE X (.Call (.Attribute o name apos) [] [] cpos) (tBM0 K T r to):=by subst h; exact q_pe_bm0 pa slot hty hm ho hbase hline
end
theorem Fun.okQ {P:Program} {w:World} {K:PySem.W.Frag} {mg:Str->Option Value} {base:Heap} {x qual:Str} {st:Stmt} {f:Addr} {fd:FuncData} {N ps:List Str} {k:Nat} {sp:Sp} (F:Fun K x qual st f fd) (S:FnScope N ps (defScope st)) (len : ∀ vs H Q E,sp vs H Q E->vs.length=ps.length)
    (hbody : ∀ (cdv:Value) (A:Around) (outer:List Env) (s:Shared) (H:Hp) (vs:List V) (Q:VK) (E:XK),Room k (A.deeper (envOfC qual (defScope st) s.heap.objs.size f cdv))->sp vs H Q E ->
      ∃ t,QSs (cxOf CX0 P w K mg base N qual (defScope st) f cdv A outer s H E).nox (defBody st) t/\t { nx:=fun _ H'=>Q .non H',rt:=Q } (start N vs) H):FnOk P w K mg base CX0 (k+1) f fd ps sp :=
  F.ok S len fun cdv A outer s H vs Q E hr h=>let ⟨t,q,r⟩:=hbody cdv A outer s H vs Q E hr h; ⟨t,q.h,r⟩
end L2
namespace L2
open PySem PySem.Spec PyProof.Rows
section
variable {X:Cx} {pins:List (Addr × Obj)} {σ:St} {H:Hp} {s:Shared} {h':Heap}
theorem Inv.turnedL {t':Nat} {fp:List Addr} (I:Inv X pins σ H s) (k : ∀ b o,b∉fp->s.heap.get? b=some o->h'.get? b=some o) (hf : ∀ b∈fp,FpOk X pins H b):Inv X pins σ H { s with heap:=h',toks:=t' }:=by
  have nit : ∀ b u,H b=some u->b∉fp:=fun b u e z=>by rw [(hf b z).1] at e; cases e
  refine I.step (g':=s.gens) (d':=s.drawn) (ch:=fp) (fun b hb=>?_) (fun b o _ _ hc e _=>k b o hc e) (fun b o _ _ hc e _=>⟨o.slots,k b o hc e⟩) (fun _ _ _ _ n=>n) (fun b o hc e=>⟨o,k b o hc e⟩) (fun _ _ e=>e) (fun _ _ _ e=>e) (fun b ps e=>⟨#[],by rw [e]; simp⟩) (fun m hm=>?_) (fun b u e=>?_) I.bare
  · obtain ⟨f0,f1,f2,f3,f4,f5⟩:=hf b hb
    exact ⟨f3,f1,f4,f5⟩
  · obtain ⟨o,es,ep,ho,r⟩:=hm
    exact ⟨o,es,ep,k _ o (fun z=>(hf _ z).2.1 rfl) ho,r⟩
  · refine (I.hok b u e).stay (fun c v hc q=>k c v ?_ q) (fun _ q=>q) fun _ _ q=>q
    rcases hc with z | z
    · rw [z]; exact nit b u e
    · exact nit c _ z
theorem Inv.turnedN {t':Nat} {fp:List Addr} {T:Addr} {ob:HO} (I:Inv X pins σ H s) (k : ∀ b o,b∉fp->s.heap.get? b=some o->h'.get? b=some o) (hf : ∀ b∈fp,FpOk X pins H b) (hT:s.heap.objs.size<=T)
    (new:ObjOk X.prog X.w (upd H T ob) h' T ob):Inv X pins σ (upd H T ob) { s with heap:=h',toks:=t' }:=by
  have I1:Inv X pins σ H { s with heap:=h',toks:=t' }:=I.turnedL k hf
  have hn:H T=none:=I.hok.fresh hT
  have ne : ∀ b u,H b=some u->b≠T:=fun b u e z=>by rw [z,hn] at e; cases e
  refine I.step (g':=s.gens) (d':=s.drawn) (ch:=fp) (fun b hb=>?_) (fun b o _ _ hc e _=>k b o hc e) (fun b o _ _ hc e _=>⟨o.slots,k b o hc e⟩) (fun b o _ e n=>?_) (fun b o hc e=>⟨o,k b o hc e⟩) (fun b xs e=>by rw [upd_ne (ne b _ e)]; exact e) (fun b o u e=>by rw [upd_ne (ne b _ e)]; exact e) (fun b ps e=>⟨#[],by rw [upd_ne (ne b _ e),e]; simp⟩) (fun m hm=>?_) (I1.hok.adopt hn new) I.bare
  · obtain ⟨f0,f1,f2,f3,f4,f5⟩:=hf b hb
    exact ⟨f3,f1,f4,f5⟩
  · rw [upd_ne (fun z=>absurd (Nat.lt_of_lt_of_le (Heap.lt_size e) (by rw [z]; exact hT)) (Nat.lt_irrefl _))]
    exact n
  · obtain ⟨o,es,ep,ho,r⟩:=hm
    exact ⟨o,es,ep,k _ o (fun z=>(hf _ z).2.1 rfl) ho,r⟩
end
def Ite (K:PySem.W.Frag) (a:Addr):It :=
  ⟨fun i H=>∃ xs x,SqL K H a xs/\xs[i]? = some x,fun i H x H'=>∃ p v,x=.ref p/\(∀ xs,SqL K H a xs->xs[i]? = some v)/\Gro H p (.tup [.int (i:Int),v]) H',fun i H=>∃ xs,SqL K H a xs/\xs.length<=i⟩
theorem pairOk {P:Program} {w:World} {H:Hp} {h:Heap} {T:Addr} {v1 v2:V} {u1 u2:Value} (hT:h.IsTuple T #[u1,u2]) (r1:RelV v1 u1) (r2:RelV v2 u2):ObjOk P w (upd H T (.tup [v1,v2])) h T (.tup [v1,v2]):=by
  refine ⟨sz rfl,[u1,u2],.cons r1 (.cons r2 .nil),?_⟩
  exact hT
theorem turn_enum {P:Program} {w:World} {K:PySem.W.Frag} {es:List Expr} {kk:Nat} {pp:Pos} (a e it:Addr) (hei:e≠it):Turn P w K (.Tuple es kk pp) (Ite K a) [e,it] e (fun i h=>(∃ old,IsEnum h e it i old)/\h.IsListIter it a i) where
  mem:=by simp
  obj:=fun i h st b hb=>by
    obtain ⟨⟨old,h1⟩,o,e2,c,d⟩:=st
    have hb':b=e\/b=it:=by simpa using hb
    rcases hb' with z | z
    · subst z
      exact ⟨_,h1,fun v z=>by cases (show Data.fields _=Data.cell v from z)⟩
    · subst z
      exact ⟨o,e2,fun v z=>by rw [d] at z; cases z⟩
  keep:=fun i h h' st k=>by
    obtain ⟨⟨old,h1⟩,h2⟩:=st
    exact ⟨⟨old,k e (by simp) _ h1⟩,h2.at fun o x=>k it (by simp) o x⟩
  item:=by
    intro X hP hw hK hc i pins s σ H E I hf st hg
    subst hP hw hK
    obtain ⟨⟨old,h1⟩,h2⟩:=st
    obtain ⟨xs,x,hq,hx⟩:=hg
    obtain ⟨its,rv,p,hz⟩:=I.list hq
    obtain ⟨u,hu,ru⟩:=rv.get hx
    have helt:e < s.heap.objs.size:=Heap.lt_size h1
    have hilt:it < s.heap.objs.size:=by obtain ⟨_,z,_⟩:=h2; exact Heap.lt_size z
    refine wpAny_pyNext_enum_item h1 h2 p.isList (x:=u) (by simpa using hu) hei fun h' ho hit' hT hsz hk=>?_
    refine ⟨_,rfl,wpAny_letOwnedTupleGo_enum (s:={ s with heap:=h',toks:=s.toks+1 }) ho fun h'' he' hs'=>?_⟩
    have hTe:s.heap.objs.size≠e:=Nat.ne_of_gt helt
    have hT2:h''.get? s.heap.objs.size=some { cls:=.type "tuple",data:=.seq #[.int i s.toks,u] }:=(hs'.2 _ hTe).trans hT
    have I2:Inv X pins σ (upd H s.heap.objs.size (.tup [.int (i:Int),x])) { s with heap:=h'',toks:=s.toks+1 }:=by
      refine I.turnedN (fp:=[e,it]) (fun b o hb eo=>?_) hf (Nat.le_refl _) (pairOk ⟨_,hT2,rfl,_,rfl⟩ ⟨_,rfl⟩ ru)
      have hbe:b≠e:=fun z=>hb (by simp [z])
      have hbi:b≠it:=fun z=>hb (by simp [z])
      exact (hs'.2 b hbe).trans (hk b o hbe hbi eo)
    refine ⟨.ref s.heap.objs.size,_,I2,rfl,⟨_,x,rfl,fun ys hy=>by rw [I.list_inj hy hq]; exact hx,.mk' I.fresh⟩,⟨⟨_,by simpa using he'⟩,hit'.at fun o y=>(hs'.2 it hei.symm).trans y⟩,fun b hb=>?_⟩
    have hb':b=e\/b=it:=by simpa using hb
    rw [upd_ne (by rcases hb' with z | z <;> (rw [z]; first | exact Nat.ne_of_lt helt | exact Nat.ne_of_lt hilt))]
    exact (hf b hb).1
  done:=by
    intro X hP hw hK hc i pins s σ H E I hf st hg
    subst hP hw hK
    obtain ⟨⟨old,h1⟩,h2⟩:=st
    obtain ⟨xs,hq,hx⟩:=hg
    obtain ⟨its,rv,p,hz⟩:=I.list hq
    have hl:=rv.length
    refine wpAny_pyNext_enum_end (I.ok.hd hc) h1 h2 p.isList (by simp; omega) fun h' eb=>⟨rfl,I.turnedL (t':=s.toks) (fp:=[e,it]) (fun b o hb eo=>eb b o (fun z=>hb (by simp [z])) eo) hf⟩
  self:=fun _ _ _ _ _ st h=>wpAny_pyIter_enum st.1.choose_spec h
def iEnum (K:PySem.W.Frag) (ta:TA):TI:=fun σ H R=>ta σ H fun vs H1=>∃ a xs,vs=[.ref a]/\SqL K H1 a xs/\R (Ite K a) H1
section
variable {X:Cx} {tg:Expr} {es:List Expr} {kk:Nat} {pp:Pos}
theorem pi_enum {a:Expr} {ta:TA} {p pos:Pos} (hg:Gl X "enumerate") (hm:X.mg "enumerate" = none) (ha:PA X [a] ta) (hs:starEach [a] X.env=[(false,eval a X.env)]:=by rfl):PI X (.Tuple es kk pp) (.Call (.Name "enumerate" p) [a] [] pos) (iEnum X.K ta):=by
  intro pins s σ H R I h
  refine Call_ (ld_blt I hg hm boot_enumerate (PyProof.Rows.callWith_type1 (thn (ha pos pins s σ H _ I h) fun us s1 ⟨vs,H1,I1,r1,q1⟩=>?_) hs rfl))
  obtain ⟨l,xs,e,hq,q⟩:=q1
  subst e
  cases r1 with
  | cons r rr =>
    cases rr
    cases r
    obtain ⟨its,rv,pl,hz⟩:=I1.list hq
    refine call_enumerate_list pl.isList fun h' he hit hsz hk=>?_
    refine wpAny_pyIter_enum (s:={ s1 with heap:=h' }) he ?_
    have I2:Inv X pins σ H1 { s1 with heap:=h' }:=I1.kept (t':=s1.toks) hk
    refine ⟨s1.heap.objs.size+1,[s1.heap.objs.size+1,s1.heap.objs.size],_,Ite X.K l,H1,rfl,I2,turn_enum l _ _ (Nat.succ_ne_self _),⟨⟨_,he⟩,hit⟩,fun b hb=>?_,q⟩
    have hb':b=s1.heap.objs.size+1\/b=s1.heap.objs.size:=by simpa using hb
    have hle:s1.heap.objs.size<=b:=by
      rcases hb' with z | z
      · rw [z]; exact Nat.le_succ _
      · rw [z]; exact Nat.le_refl _
    exact I1.fpOk hle (I1.hok.fresh hle)
end
end L2
namespace L2
open PySem PySem.Spec PyProof.Rows
def Itr3 (lo c:Int) (n:Nat):It:=⟨fun i _=>i < n,fun i H x H'=>H'=H/\x=.int (lo+i*c),fun i _=>n<=i⟩
theorem turn_range3 {P:Program} {w:World} {K:PySem.W.Frag} {tg:Expr} (it:Addr) (lo c:Int) (n:Nat):Turn P w K tg (Itr3 lo c n) [it] it (fun i h=>IsRangeIter h it (lo+(i:Nat)*c) ((n:Int) - (i:Nat)) c) where
  mem:=by simp
  obj:=fun i h st b hb=>by
    have e:b=it:=by simpa using hb
    subst e
    exact ⟨_,st,fun v z=>by
      have z':Data.fields _=Data.cell v:=z
      cases z'⟩
  keep:=fun i h h' st k=>k it (by simp) _ st
  item:=by
    intro X hP hw hK hc i pins s σ H E I hf st hg
    subst hP hw hK
    obtain ⟨f0,f1,f2,f3,f4,f5⟩:=hf it (by simp)
    have W:=Walks.range (prog:=X.prog) (w:=X.w) (I.ok.hd hc) it lo c n
    refine W.item i s _ _ hg st fun v h' tk hv st' kk=>?_
    obtain ⟨t,rfl⟩:=hv
    have I1:Inv X pins σ H { s with heap:=h',toks:=tk }:=I.turned (fun b o hb e=>kk b o (by simpa using hb) e) f0 f1 f3 f4 f5
    exact ⟨_,rfl,go_of (s:={ s with heap:=h',toks:=tk }) (n := "range_iterator") st' rfl rfl (by decide) ⟨.int (lo+i*c),H,I1,⟨t,rfl⟩,⟨rfl,rfl⟩,st',fun b hb=>(hf b hb).1⟩⟩
  done:=by
    intro X hP hw hK hc i pins s σ H E I hf st hg
    subst hP hw hK
    obtain ⟨f0,f1,f2,f3,f4,f5⟩:=hf it (by simp)
    exact wpAny_pyNext_range_end (I.ok.hd hc) st (by have:n<=i:=hg; omega) fun h' eb=>⟨rfl,I.turned (t':=s.toks) (fun b o hb e=>eb b o hb e) f0 f1 f3 f4 f5⟩
  self:=fun _ _ _ _ _ st h=>wpAny_pyIter_rangeiter st h
def iRng3 (ta:TA):TI:=fun σ H R=>ta σ H fun vs H1=>∃ (n c:Nat),vs=[.int 0,.int (n:Int),.int (c:Int)]/\n<=1000000000/\0 < c/\c<=1000000/\R (Itr3 0 (c:Int) ((n+(c - 1)) / c)) H1
theorem small3 {n c:Nat} (hn:n<=1000000000) (h0:0 < c) (hc:c<=1000000):Builtin.Range.rangeSize 0 (n:Int) (c:Int)=(((n+(c - 1)) / c:Nat):Int)/\Builtin.Range.small 0 (n:Int) (c:Int)=true:=by
  have e:Builtin.Range.rangeSize 0 (n:Int) (c:Int)=(((n+(c - 1)) / c:Nat):Int):=by
    rw [rangeSize_pos (by omega) (by omega)]
    rw [Int.natCast_ediv]
    congr 1
    omega
  refine ⟨e,?_⟩
  have hle:(n+(c - 1)) / c<=n+(c - 1):=Nat.div_le_self _ _
  have hmul:(((n+(c - 1)) / c:Nat):Int)*(c:Int)<=n+(c - 1):=by
    have:=Nat.div_mul_le_self (n+(c - 1)) c
    rw [<- Int.natCast_mul]
    omega
  unfold Builtin.Range.small
  rw [e]
  generalize (n+(c - 1)) / c=k at hle hmul ⊢
  simp only [Builtin.Range.rangeFitsLong,Bool.and_eq_true,Bool.or_eq_true,decide_eq_true_eq,beq_iff_eq]
  refine ⟨by omega,Or.inr ?_⟩
  rw [if_pos (by omega)]
  simp only [Bool.and_eq_true,decide_eq_true_eq]
  omega
section
variable {X:Cx} {tg:Expr}
theorem pi_range3 {a b d:Expr} {ta:TA} {p pos:Pos} (hg:Gl X "range") (hm:X.mg "range" = none) (ha:PA X [a,b,d] ta) (hs:starEach [a,b,d] X.env=(false,eval a X.env) :: starEach [b,d] X.env:=by rfl) (hpl:(backTo pos (starEach [b,d] X.env)).any (·.1)=false:=by rfl) :
    PI X tg (.Call (.Name "range" p) [a,b,d] [] pos) (iRng3 ta):=by
  intro pins s σ H R I h
  refine Call_ (ld_blt I hg hm boot_range (PyProof.Rows.callWith_type1 (thn (ha pos pins s σ H _ I h) fun us s1 ⟨vs,H1,I1,r1,q1⟩=>?_) hs hpl))
  obtain ⟨n,c,e,q1,q2,q3,q⟩:=q1
  subst e
  cases r1 with
  | cons r rr =>
    cases rr with
    | cons r' rr =>
      cases rr with
      | cons r'' rr =>
        cases rr
        obtain ⟨t,rfl⟩:=r
        obtain ⟨t',rfl⟩:=r'
        obtain ⟨t'',rfl⟩:=r''
        obtain ⟨e,sm⟩:=small3 q1 q2 q3
        refine call_range_3 (by omega) ?_ (Or.inl (PyProof.noPylong_small (by omega)))
        refine wpAny_pyIter_range (IsRange.new ..) sm ?_
        have I2:Inv X pins σ H1 { s1 with heap:=s1.heap.push { cls:=.type "range",data:=.fields #[.int 0 t,.int n t',.int c t''] },toks:=s1.toks }:=I1.kept fun b o e=>Heap.get?_push_of_some _ e
        refine ⟨_,[_],_,_,H1,rfl,I2.kept (t':=s1.toks) fun b o e=>Heap.get?_push_of_some _ e,turn_range3 _ 0 (c:Int) ((n+(c - 1)) / c),?_,fun b hb=>?_,q⟩
        · show IsRangeIter _ _ (0+((0:Nat):Int)*_) ((((n+(c - 1)) / c:Nat):Int) - ((0:Nat):Int)) _
          have e1:(0:Int)+((0:Nat):Int)*(c:Int)=0:=by simp
          have e2:((((n+(c - 1)) / c:Nat):Int) - ((0:Nat):Int))=Builtin.Range.rangeSize 0 (n:Int) (c:Int):=by rw [e]; simp
          rw [e1,e2]
          exact Heap.get?_push_size _ rfl
        · have e:=List.mem_singleton.mp hb
          subst e
          exact I2.fpOk (Nat.le_refl _) (I2.hok.fresh (Nat.le_refl _))
theorem for_enum {K:PySem.W.Frag} {a:Addr} {xs:List V} {g:TG} {tb:TS} {D:Ends} {σ:St} {H:Hp} (Pv:Nat->St->Hp->Prop) (h0:Pv 0 σ H) (hl : ∀ i σ H,i<=xs.length->Pv i σ H->SqL K H a xs)
    (hs : ∀ i x p σ H H',xs[i]? = some x->Pv i σ H->Gro H p (.tup [.int (i:Int),x]) H'->g (.ref p) σ H' fun σ2 H2=>tb { D with nx:=Pv (i+1),ct:=Pv (i+1),bk:=D.nx } σ2 H2) (hd : ∀ σ H,Pv xs.length σ H->D.nx σ H) :
    ∃ W:Nat->Nat->St->Hp->Prop,(∃ m,W 0 m σ H)/\∀ i m σ H,W i m σ H ->
      ((Ite K a).stop i H/\D.nx σ H)\/((Ite K a).go i H/\∃ N:St->Hp->Prop,(∀ σ' H',N σ' H'->∃ m',m' < m/\W (i+1) m' σ' H')/\∀ x H',(Ite K a).yld i H x H'->g x σ H' fun σ2 H2=>tb { D with nx:=N,ct:=N,bk:=D.nx } σ2 H2):=by
  refine ⟨fun i m σ H=>m=xs.length - i/\i<=xs.length/\Pv i σ H,⟨xs.length,by simp,Nat.zero_le _,h0⟩,?_⟩
  rintro i m σ H ⟨rfl,hi,p⟩
  have q:=hl i σ H hi p
  by_cases hlt:i < xs.length
  · refine .inr ⟨⟨xs,xs[i],q,by simp [hlt]⟩,Pv (i+1),fun σ' H' p'=>⟨xs.length - (i+1),by omega,rfl,hlt,p'⟩,fun x H' y=>?_⟩
    obtain ⟨pp,v,rfl,y,gr⟩:=y
    exact hs i v pp σ H H' (y xs q) p gr
  · have e:i=xs.length:=by omega
    subst e
    exact .inl ⟨⟨xs,q,Nat.le_refl _⟩,hd σ H p⟩
end
def gSum (K:PySem.W.Frag):List V->Hp->VK->Prop:=fun xs H Q=>match xs with
  | [.ref p]=>∃ ns:List Int,SqL K H p (ns.map V.int)/\Q (.int ns.sum) H
  | _=>False
theorem preSum_list (ns:List Int) : ∀ k,k<=ns.length->preSum (fun i=>(ns[i]?).getD 0) k=(ns.take k).sum
  | 0,_=>by simp [preSum]
  | k+1,h=>by
    have hk:k < ns.length:=by omega
    rw [preSum,preSum_list ns k (by omega),<- List.take_append_getElem hk,List.sum_append]
    simp [List.getElem?_eq_getElem hk]
theorem c_sum {X:Cx} (hc:X.calm=true):CallR X (.builtin "sum") (gSum X.K):=by
  intro pins s σ H xs us Q I r q
  unfold gSum at q
  split at q
  · rename_i p
    obtain ⟨ns,hq,q⟩:=q
    obtain ⟨u,rfl,rx⟩:=vals1 r
    cases rx
    obtain ⟨its,rv,pl,_⟩:=I.list hq
    have hl:=rv.length
    rw [List.length_map] at hl
    have hlt:p < s.heap.objs.size:=by
      obtain ⟨o,n,e,_⟩:=pl
      exact Heap.lt_size e
    have hne:p≠s.heap.objs.size:=Nat.ne_of_lt hlt
    refine call_sum_walkG (wpAny_pyIter_list pl.isList ⟨s.heap.objs.size,_,_,_,_,_,fun i=>(ns[i]?).getD 0,rfl,Walks.list (A:=X.A.in1) (show X.A.in1.handled=none from I.ok.hd hc) s.heap.objs.size p hne its.toArray,⟨⟨_,Heap.get?_push_size _ rfl,rfl,rfl⟩,?_⟩,fun b hb=>?_,fun i v hv=>?_,fun h' tk t' k=>?_⟩)
    · exact pl.isList.at fun o e=>Heap.get?_push_of_some _ e
    · have hb':b=s.heap.objs.size\/b=p:=by simpa using hb
      show b < (s.heap.push _).objs.size
      rw [Heap.size_push]
      rcases hb' with z | z
      · rw [z]; exact Nat.lt_succ_self _
      · rw [z]; exact Nat.lt_succ_of_lt hlt
    · have hi:i < its.length:=by
        have:=(Array.getElem?_eq_some_iff.mp hv).1
        simpa using this
      have hb:i < ns.length:=by omega
      obtain ⟨u,hu,ru⟩:=rv.get (i:=i) (x:=V.int ns[i]) (by simp [hb])
      have e:its.toArray[i]? = some u:=by simpa using hu
      rw [e] at hv
      cases hv
      obtain ⟨t,rfl⟩:=ru
      exact ⟨t,by simp [hb]⟩
    · refine ⟨.int ns.sum,H,I.kept (h':=h') (t':=tk) fun b o e=>k b o (fun z=>?_) (Heap.get?_push_of_some _ e),⟨t',?_⟩,q⟩
      · have e':b=s.heap.objs.size:=by simpa using z
        exact absurd (Heap.lt_size e) (by rw [e']; exact Nat.lt_irrefl _)
      · rw [List.size_toArray,<- hl,preSum_list ns _ (Nat.le_refl _),List.take_length]
  · exact q.elim
def CShl (i j:Int):Prop:=0<=j/\(Builtin.Int.intBits i:Int)+j<=2 ^ 27
theorem g_shlB {X:Cx}:OpR X (binaryOp .LShift) (gI CShl fun i j=>.int (i*2 ^ j.toNat)):=gI_of (opI fun _ _ _ _ _ _ _ hc q=>lshift_int hc.1 hc.2 q)
def gBits:V->List V->Hp->VK->Prop:=fun x vs H Q=>match x,vs with
  | .int i,[]=>Q (.int (Builtin.Int.intBits i)) H
  | _,_=>False
theorem mg_bits {X:Cx}:MtR X "int.bit_length" gBits:=by
  intro pins s σ H x vs v us Q I rx rs q
  unfold gBits at q
  split at q
  · obtain ⟨t,rfl⟩:=rx
    cases rs
    exact call_int_bit_length ⟨.int _,H,I.tok _,⟨_,rfl⟩,q⟩
  · exact q.elim
end L2
namespace L2
open PySem PySem.Spec PyProof.Rows
def Itz (K:PySem.W.Frag) (a b:Addr):It :=
  ⟨fun i H=>∃ xs ys x y,SqL K H a xs/\xs[i]? = some x/\SqL K H b ys/\ys[i]? = some y,fun i H x H'=>∃ p v u,x=.ref p/\(∀ xs,SqL K H a xs->xs[i]? = some v)/\(∀ ys,SqL K H b ys->ys[i]? = some u)/\Gro H p (.tup [v,u]) H',fun i H=>∃ xs ys,SqL K H a xs/\SqL K H b ys/\(xs.length<=i\/ys.length<=i)⟩
theorem turn_zip {P:Program} {w:World} {K:PySem.W.Frag} {es:List Expr} {kk:Nat} {pp:Pos} (a b z TI TO i1 i2:Addr) (D:ZipApart z TI TO i1 i2 a b) :
    Turn P w K (.Tuple es kk pp) (Itz K a b) [z,TI,TO,i1,i2] z (fun i h=>IsZip h z TI TO .none/\IsPair h TI (.ref i1) (.ref i2)/\(∃ a b,IsPair h TO a b)/\h.IsListIter i1 a i/\h.IsListIter i2 b i) where
  mem:=by simp
  obj:=fun i h st c hc=>by
    obtain ⟨h1,h2,⟨u,v,h3⟩,⟨o4,e4,c4,d4⟩,o5,e5,c5,d5⟩:=st
    have hc':c=z\/c=TI\/c=TO\/c=i1\/c=i2:=by simpa using hc
    rcases hc' with rfl | rfl | rfl | rfl | rfl
    · exact ⟨_,h1,fun v z=>by cases (show Data.fields _=Data.cell v from z)⟩
    · exact ⟨_,h2,fun v z=>by cases (show Data.seq _ _=Data.cell v from z)⟩
    · exact ⟨_,h3,fun v z=>by cases (show Data.seq _ _=Data.cell v from z)⟩
    · exact ⟨o4,e4,fun v z=>by rw [d4] at z; cases z⟩
    · exact ⟨o5,e5,fun v z=>by rw [d5] at z; cases z⟩
  keep:=fun i h h' st k=>by
    obtain ⟨h1,h2,⟨u,v,h3⟩,h4,h5⟩:=st
    exact ⟨k z (by simp) _ h1,k TI (by simp) _ h2,⟨u,v,k TO (by simp) _ h3⟩,h4.at fun o x=>k i1 (by simp) o x,h5.at fun o x=>k i2 (by simp) o x⟩
  item:=by
    intro X hP hw hK hc i pins s σ H E I hf st hg
    subst hP hw hK
    obtain ⟨h1,h2,⟨u,v,h3⟩,h4,h5⟩:=st
    obtain ⟨xs,ys,x,y,hq,hx,hq2,hy⟩:=hg
    obtain ⟨its,rv,p,hz⟩:=I.list hq
    obtain ⟨its2,rv2,p2,hz2⟩:=I.list hq2
    obtain ⟨ux,hu,ru⟩:=rv.get hx
    obtain ⟨uy,hu2,ru2⟩:=rv2.get hy
    have lz:z < s.heap.objs.size:=Heap.lt_size h1
    have lTI:TI < s.heap.objs.size:=Heap.lt_size h2
    have lTO:TO < s.heap.objs.size:=Heap.lt_size h3
    have l1:i1 < s.heap.objs.size:=by obtain ⟨_,e,_⟩:=h4; exact Heap.lt_size e
    have l2:i2 < s.heap.objs.size:=by obtain ⟨_,e,_⟩:=h5; exact Heap.lt_size e
    refine wpAny_pyNext_zip_item D h1 h2 h3 h4 h5 p.isList p2.isList (x:=ux) (y:=uy) (by simpa using hu) (by simpa using hu2) fun h' a1 a2 a3 a4 a5 a6 hk=>?_
    refine ⟨_,rfl,wpAny_letOwnedTupleGo_zip (s:={ s with heap:=h' }) a1 fun h'' hz' hs'=>?_⟩
    have kk : ∀ c o,c∉[z,TI,TO,i1,i2]->s.heap.get? c=some o->h''.get? c=some o:=fun c o hb e=>by
      have n1:c≠z:=fun w=>hb (by simp [w])
      exact (hs'.2 c n1).trans (hk c o n1 (fun w=>hb (by simp [w])) (fun w=>hb (by simp [w])) (fun w=>hb (by simp [w])) e)
    have hT2:h''.get? s.heap.objs.size=some { cls:=.type "tuple",data:=.seq #[ux,uy] }:=(hs'.2 _ (Nat.ne_of_gt lz)).trans a5
    have I2:Inv X pins σ (upd H s.heap.objs.size (.tup [x,y])) { s with heap:=h'' } :=
      I.turnedN (t':=s.toks) (fp:=[z,TI,TO,i1,i2]) kk hf (Nat.le_refl _) (pairOk ⟨_,hT2,rfl,_,rfl⟩ ru ru2)
    refine ⟨.ref s.heap.objs.size,_,I2,rfl,⟨_,x,y,rfl,fun ys hy=>by rw [I.list_inj hy hq]; exact hx,fun zs hz=>by rw [I.list_inj hz hq2]; exact hy,.mk' I.fresh⟩,
      ⟨hz',(hs'.2 _ D.TIz).trans (hk _ _ D.TIz D.TITO D.TIi1 D.TIi2 h2),⟨_,_,(hs'.2 _ D.TOz).trans a2⟩,a3.at fun o e=>(hs'.2 _ D.i1z).trans e,a4.at fun o e=>(hs'.2 _ D.i2z).trans e⟩,fun c hc=>?_⟩
    have hc':c=z\/c=TI\/c=TO\/c=i1\/c=i2:=by simpa using hc
    have lc:c < s.heap.objs.size:=by rcases hc' with w | w | w | w | w <;> rw [w] <;> assumption
    rw [upd_ne (Nat.ne_of_lt lc)]
    exact (hf c hc).1
  done:=by
    intro X hP hw hK hc i pins s σ H E I hf st hg
    subst hP hw hK
    obtain ⟨h1,h2,⟨u,v,h3⟩,h4,h5⟩:=st
    obtain ⟨xs,ys,hq,hq2,hx⟩:=hg
    obtain ⟨its,rv,p,hz⟩:=I.list hq
    obtain ⟨its2,rv2,p2,hz2⟩:=I.list hq2
    have hl:=rv.length
    have hl2:=rv2.length
    refine wpAny_pyNext_zip_end (I.ok.hd hc) D h1 h2 h3 h4 h5 p.isList p2.isList (by rcases hx with w | w; exact .inl (by simp; omega); exact .inr (by simp; omega)) fun h' hk=>⟨rfl,I.turnedL (t':=s.toks) (fp:=[z,TI,TO,i1,i2]) (fun c o hb e=>hk c o (fun w=>hb (by simp [w])) (fun w=>hb (by simp [w])) (fun w=>hb (by simp [w])) (fun w=>hb (by simp [w])) e) hf⟩
  self:=fun _ _ _ _ _ st h=>wpAny_pyIter_zip st.1 h
def iZip (K:PySem.W.Frag) (ta:TA):TI:=fun σ H R=>ta σ H fun vs H1=>∃ a b xs ys,vs=[.ref a,.ref b]/\SqL K H1 a xs/\SqL K H1 b ys/\R (Itz K a b) H1
theorem zip_apart (I l1 l2:Nat) (h1:l1 < I) (h2:l2 < I):ZipApart (I+4) (I+2) (I+3) I (I+1) l1 l2:=PySem.W.ktu_apart I l1 l2 h1 h2
theorem pi_zip {X:Cx} {es:List Expr} {kk:Nat} {pp:Pos} {a b:Expr} {ta:TA} {p pos:Pos} (hg:Gl X "zip") (hm:X.mg "zip" = none) (ha:PA X [a,b] ta) (hs:starEach [a,b] X.env=(false,eval a X.env) :: starEach [b] X.env:=by rfl) (hpl:(backTo pos (starEach [b] X.env)).any (·.1)=false:=by rfl) :
    PI X (.Tuple es kk pp) (.Call (.Name "zip" p) [a,b] [] pos) (iZip X.K ta):=by
  intro pins s σ H R I h
  refine Call_ (ld_blt I hg hm boot_zip (PyProof.Rows.callWith_type1 (thn (ha pos pins s σ H _ I h) fun us s1 ⟨vs,H1,I1,r1,q1⟩=>?_) hs hpl))
  obtain ⟨l1,l2,xs,ys,e,hq,hq2,q⟩:=q1
  subst e
  cases r1 with
  | cons r rr =>
    cases rr with
    | cons r' rr =>
      cases rr
      cases r
      cases r'
      obtain ⟨its,rv,pl,hz⟩:=I1.list hq
      obtain ⟨its2,rv2,pl2,hz2⟩:=I1.list hq2
      have ll1:l1 < s1.heap.objs.size:=by obtain ⟨o,_,e,_⟩:=pl; exact Heap.lt_size e
      have ll2:l2 < s1.heap.objs.size:=by obtain ⟨o,_,e,_⟩:=pl2; exact Heap.lt_size e
      have D:ZipApart (s1.heap.objs.size+4) (s1.heap.objs.size+2) (s1.heap.objs.size+3) s1.heap.objs.size (s1.heap.objs.size+1) l1 l2:=zip_apart _ _ _ ll1 ll2
      refine call_zip_2 pl.isList pl2.isList fun h' hz hTI hTO hi1 hi2 hsz hk=>?_
      refine wpAny_pyIter_zip (s:={ s1 with heap:=h' }) hz ?_
      have I2:Inv X pins σ H1 { s1 with heap:=h' }:=I1.kept (t':=s1.toks) hk
      refine ⟨s1.heap.objs.size+4,_,_,Itz X.K l1 l2,H1,rfl,I2,turn_zip l1 l2 _ _ _ _ _ D,⟨hz,hTI,⟨_,_,hTO⟩,hi1,hi2⟩,fun b hb=>?_,q⟩
      have hb':b=s1.heap.objs.size+4\/b=s1.heap.objs.size+2\/b=s1.heap.objs.size+3\/b=s1.heap.objs.size\/b=s1.heap.objs.size+1:=by simpa using hb
      have hle:s1.heap.objs.size<=b:=by rcases hb' with w | w | w | w | w <;> rw [w] <;> first | exact Nat.le_add_right _ _ | exact Nat.le_refl _
      exact I1.fpOk hle (I1.hok.fresh hle)
end L2
namespace L2
open PySem PySem.Spec PyProof.Rows
theorem comp_zip {K:PySem.W.Frag} {a b:Addr} {xs zs:List V} {cs:St} {tt:TT} {te:TE} {H:Hp} {Q:VK} (hlen:zs.length=xs.length) (Pv:Nat->List V->Hp->Prop) (h0:Pv 0 [] H) (hl : ∀ i ys H,i<=xs.length->Pv i ys H->SqL K H a xs/\SqL K H b zs/\ys.length<=i) (hz:xs.length<=sizeLine)
    (hs : ∀ i x z ys H H' (N:List V->Hp->Prop),xs[i]? = some x->zs[i]? = some z->Pv i ys H->Same H H'->(∀ ys' H',Pv (i+1) ys' H'->N ys' H')->tt (some x :: some z :: cs) H' fun b H4=>if b=true then te (some x :: some z :: cs) H4 fun y H5=>N (ys++[y]) H5 else N ys H4)
    (hd : ∀ ys H p H',Pv xs.length ys H->Gro H p (.lst ys) H'->Q (.ref p) H') :
    CompW (Itz K a b) H (List.replicate 2 none++cs) (gTup K 2 (gCons (gName 0) (gCons (gName 1) gNil))) tt te Q:=by
  refine ⟨fun i m ys σ H=>m=xs.length - i/\i<=xs.length/\Pv i ys H/\∃ v0 v1,σ=v0 :: v1 :: cs,⟨xs.length,by simp,Nat.zero_le _,h0,none,none,rfl⟩,?_⟩
  rintro i m ys σ H2 ⟨rfl,hi,p,v0,v1,rfl⟩
  obtain ⟨q,q2,ql⟩:=hl i ys H2 hi p
  by_cases hlt:i < xs.length
  · refine .inr ⟨⟨xs,zs,xs[i],zs[i]'(by omega),q,by simp [hlt],q2,by simp [hlen,hlt]⟩,by omega,fun ys' σ' H'=>Pv (i+1) ys' H'/\∃ v0 v1,σ'=v0 :: v1 :: cs,fun ys' σ' H' ⟨p',e⟩=>⟨xs.length - (i+1),by omega,rfl,hlt,p',e⟩,fun x H' y=>?_⟩
    obtain ⟨pp,v,u,rfl,y,y2,gr⟩:=y
    refine ⟨pp,_,rfl,gr.tup,rfl,_,_,rfl,_,_,rfl,rfl,?_⟩
    exact hs i v u ys H2 H' (fun ys' H'=>Pv (i+1) ys' H'/\∃ v0 v1,some v :: some u :: cs=v0 :: v1 :: cs) (y xs q) (y2 zs q2) p gr.sm fun _ _ z=>⟨z,_,_,rfl⟩
  · have e:i=xs.length:=by omega
    subst e
    exact .inl ⟨⟨xs,zs,q,q2,.inl (Nat.le_refl _)⟩,by omega,fun p' H' g=>hd ys H2 p' H' p g⟩
section
variable {X:Cx} {K:PySem.W.Frag} {a b c e o:Expr} {es rest:List Expr} {pos p p2 pos2:Pos} {t:TA} {kk:Nat}
theorem c_sumK (h:X.K=K) (hc:X.calm=true):CallR X (.builtin "sum") (gSum K):=by subst h; exact c_sum hc
theorem q_pi_enumK (h:X.K=K) (hg:Gl X "enumerate") (hm:X.mg "enumerate" = none) (ha:QA X [a] t) (hs:isStar a=false:=by rfl):QI X (.Tuple es kk p2) (.Call (.Name "enumerate" p) [a] [] pos) (iEnum K t):=by subst h; exact ⟨pi_enum hg hm ha.h (star_cons hs)⟩
theorem q_pi_zipK (h:X.K=K) (hg:Gl X "zip") (hm:X.mg "zip" = none) (ha:QA X [a,b] t) (hs:isStar a=false:=by rfl) (hs2:isStar b=false:=by rfl):QI X (.Tuple es kk p2) (.Call (.Name "zip" p) [a,b] [] pos) (iZip K t):=by
  subst h
  exact ⟨pi_zip hg hm ha.h (star_cons hs) (by rw [star_cons hs2]; rfl)⟩
theorem q_pi_range3 {tg:Expr} (hg:Gl X "range") (hm:X.mg "range" = none) (ha:QA X [a,b,c] t) (hs:isStar a=false:=by rfl) (hs2:isStar b=false:=by rfl) (hs3:isStar c=false:=by rfl):QI X tg (.Call (.Name "range" p) [a,b,c] [] pos) (iRng3 t) :=
  ⟨pi_range3 hg hm ha.h (star_cons hs) (by rw [star_cons hs2,star_cons hs3]; rfl)⟩
end
def intsAre:List Int->List Value->Bool
  | [],[]=>true
  | n :: r,.int m _ :: u=>n == m && intsAre r u
  | _,_=>false
theorem intsAre.vals : ∀ {ns:List Int} {us:List Value},intsAre ns us=true->Vals (ns.map V.int) us
  | [],[],_=>.nil
  | n :: r,.int m _ :: u,h=>by
    have h':(n == m && intsAre r u)=true:=h
    rw [Bool.and_eq_true,beq_iff_eq] at h'
    obtain ⟨rfl,h2⟩:=h'
    exact .cons ⟨_,rfl⟩ (intsAre.vals h2)
theorem tupK {K:PySem.W.Frag} {a:Addr} {od:Option Addr} {its:Array Value} {n:Nat} {sl:Array (Option Value)} {ns:List Int} (h:K.lookup a=some ⟨.type "tuple",od,.seq its n,sl⟩) (hv:intsAre ns its.toList=true) (hz:its.size<=1000:=by decide) (H:Hp):SqT K H a (ns.map V.int) :=
  .inr ⟨_,its,n,h,rfl,rfl,sz (Nat.ble_eq_true_of_le hz),intsAre.vals hv⟩
end L2
namespace L2
open PySem PySem.Spec PyProof.Rows
theorem Gro.after {H H1 H2:Hp} {p:Addr} {o:HO} (s:Same H H1) (g:Gro H1 p o H2):Gro H p o H2:=⟨s.free g.nw,s.trans g.sm,g.at_⟩
def tog (b:Nat) (ps:List Int):Int:=ps.foldl (fun a p=>a*2 ^ b+p) 0
theorem tog_fold (b:Nat) : ∀ (ps:List Int) (a:Int),ps.foldl (fun a p=>a*2 ^ b+p) a=a*2 ^ (b*ps.length)+tog b ps
  | [],a=>by simp [tog]
  | p :: r,a=>by
    unfold tog
    rw [List.foldl_cons,List.foldl_cons,tog_fold b r,tog_fold b r,List.length_cons,Nat.mul_succ,Int.pow_add]
    generalize (2:Int) ^ (b*r.length)=X
    generalize (2:Int) ^ b=Y
    rw [Int.add_mul,Int.add_mul,Int.mul_assoc,Int.mul_comm Y X]
    omega
theorem tog_append (b:Nat) (ps qs:List Int):tog b (ps++qs)=tog b ps*2 ^ (b*qs.length)+tog b qs:=by
  conv=>lhs; unfold tog
  rw [List.foldl_append,tog_fold b qs]
  rfl
theorem tog_snoc (b:Nat) (ps:List Int) (p:Int):tog b (ps++[p])=tog b ps*2 ^ b+p:=by
  rw [tog_append]
  simp [tog]
theorem two_pos (k:Nat):(0:Int) < 2 ^ k:=Int.pow_pos (by decide)
theorem tog_lt {b:Nat} : ∀ {ps:List Int},(∀ p∈ps,0<=p/\p < 2 ^ b)->0<=tog b ps/\tog b ps < 2 ^ (b*ps.length):=by
  intro ps h
  induction ps with
  | nil=>simp [tog]
  | cons p r ih =>
    have h1:=h p (.head _)
    have h2:=ih fun q hq=>h q (.tail _ hq)
    have e:tog b (p :: r)=p*2 ^ (b*r.length)+tog b r:=by
      have:=tog_append b [p] r
      simpa [tog] using this
    rw [e,List.length_cons,Nat.mul_succ,Int.pow_add]
    have hp:=two_pos (b*r.length)
    generalize (2:Int) ^ (b*r.length)=X at *
    generalize (2:Int) ^ b=Y at *
    have m1:0<=p*X:=Int.mul_nonneg h1.1 (Int.le_of_lt hp)
    have m2:p*X+X<=X*Y:=by
      have:(p+1)*X<=Y*X:=Int.mul_le_mul_of_nonneg_right (by omega) (Int.le_of_lt hp)
      rw [Int.add_mul,Int.one_mul] at this
      rw [Int.mul_comm X Y]
      exact this
    omega
abbrev Byts (r:List Int):Prop:=∀ p∈r,0<=p/\p < 256
theorem take_snoc {α:Type} {rs:List α} {i:Nat} {y:α} (h:rs[i]? = some y):rs.take (i+1)=rs.take i++[y]:=by rw [List.take_add_one,h]; rfl
theorem get_of_len {α β:Type} {xs:List α} {rs:List β} {i:Nat} {x:α} (hl:rs.length=xs.length) (h:xs[i]? = some x) : ∃ y,rs[i]? = some y:=by
  have:=(List.getElem?_eq_some_iff.mp h).1
  exact ⟨rs[i]'(by omega),by simp⟩
theorem comp_to {K:PySem.W.Frag} {a:Addr} {xs:List V} {cs:St} {te:TE} {H:Hp} {Q:VK} (rs:List V) (hl:rs.length=xs.length) (hq:SqL K H a xs) (hz:xs.length<=sizeLine)
    (hs : ∀ (i:Nat) x y H' (N:VK),xs[i]? = some x->rs[i]? = some y->Same H H'->(∀ H'',Same H' H''->N y H'')->te (some x :: cs) H' N) (hd : ∀ p H',Gro H p (.lst rs) H'->Q (.ref p) H') :
    CompW (Itl K a) H (List.replicate 1 none++cs) (gName 0) tTrue te Q:=by
  refine comp_list (fun i ys H'=>Same H H'/\ys=rs.take i) ⟨Same.refl _,rfl⟩ (fun i ys H' hi z=>⟨z.1.seq hq,by rw [z.2,List.length_take]; omega⟩) hz (fun i x ys H' N hx z hN=>?_) fun ys H' p H'' z g=>?_
  · obtain ⟨s,rfl⟩:=z
    obtain ⟨y,hy⟩:=get_of_len hl hx
    simp only [tTrue,if_true]
    exact hs i x y H' _ hx hy s fun H'' s'=>hN _ _ ⟨s.trans s',by rw [take_snoc hy]⟩
  · obtain ⟨s,rfl⟩:=z
    rw [<- hl,List.take_length] at g
    exact hd p H'' (g.after s)
theorem comp_toR {lo:Int} {n:Nat} {cs:St} {te:TE} {H:Hp} {Q:VK} (rs:List V) (hl:rs.length=n) (hz:n<=sizeLine)
    (hs : ∀ (i:Nat) y H' (N:VK),i < n->rs[i]? = some y->Same H H'->(∀ H'',Same H' H''->N y H'')->te (some (.int (lo+(i:Int))) :: cs) H' N) (hd : ∀ p H',Gro H p (.lst rs) H'->Q (.ref p) H') :
    CompW (Itr lo n) H (List.replicate 1 none++cs) (gName 0) tTrue te Q:=by
  refine comp_range (fun i ys H'=>Same H H'/\ys=rs.take i) ⟨Same.refl _,rfl⟩ (fun i ys H' hi z=>by rw [z.2,List.length_take]; omega) hz (fun i ys H' N hi z hN=>?_) fun ys H' p H'' z g=>?_
  · obtain ⟨s,rfl⟩:=z
    have hy:rs[i]? = some (rs[i]'(by omega)):=by simp
    simp only [tTrue,if_true]
    exact hs i (rs[i]'(by omega)) H' _ hi hy s fun H'' s'=>hN _ _ ⟨s.trans s',by rw [take_snoc hy]⟩
  · obtain ⟨s,rfl⟩:=z
    rw [<- hl,List.take_length] at g
    exact hd p H'' (g.after s)
theorem ints_at {ns:List Int} {i:Nat} {x:V} (h:(ns.map V.int)[i]? = some x) : ∃ p,ns[i]? = some p/\x=.int p:=by
  rw [List.getElem?_map] at h
  cases e:ns[i]? with
  | none=>rw [e] at h; cases h
  | some p=>rw [e] at h; cases h; exact ⟨p,rfl,rfl⟩
end L2
namespace L2
open PySem PySem.Spec PyProof.Rows
theorem seq_nx {t u:TS} {D:Ends} {σ:St} {H:Hp} (M:St->Hp->Prop) (h1 : ∀ nx:St->Hp->Prop,(∀ σ' H',M σ' H'->nx σ' H')->t { D with nx:=nx } σ H) (h2 : ∀ σ' H',M σ' H'->u D σ' H'):tSeq t u D σ H:=h1 (u D) h2
end L2
namespace L2
open PySem PySem.Spec PyProof.Rows
structure HasM (P:Program) (w:World) (K:PySem.W.Frag) (mg:Str->Option Value) (base:Heap) (C:Addr) (m:Str) (k:Nat) (f:Addr) (fd:FuncData) (ps:List Str) (sp:Sp):Prop where
  c:Cls K C
  mt:Meth K C m f
  b:Binds K fd ps []
  ok:FnOk P w K mg base CX0 k f fd ps sp
structure HasK (P:Program) (w:World) (K:PySem.W.Frag) (mg:Str->Option Value) (base:Heap) (x:Str) (C:Addr) (k:Nat) (f:Addr) (fd:FuncData) (ps:List Str) (sp:Sp):Prop where
  g:mg x=some (.ref C)
  mkx:Mk K C f
  b:Binds K fd ps []
  ok:FnOk P w K mg base CX0 k f fd ps sp
section
variable {X:Cx} {K:PySem.W.Frag} {k j:Nat} {f C:Addr} {fd:FuncData} {ps:List Str} {sp:Sp} {x m:Str} {p pos apos pos':Pos} {e o value:Expr} {es:List Expr} {ta tv:TE} {t:TA}
theorem passes0 {X:Cx}:Passes CX0 X E0:=fun _ _ _ _ _ _ _ z=>z.elim
theorem q_meth {pl:Sem Bool} (F:HasM X.prog X.w X.K X.mg X.base C m j f fd ps sp) (hr:Room k X.A) (ho:QE X o ta) (ha:QA X (e :: es) t) (hj:j<=k:=by decide) (hn:noStar (e :: es)=true:=by rfl)
    (ht:eval (.Call (.Attribute o m apos) (e :: es) [] pos) X.env=(do
      let ov <- eval o X.env
      standAt apos.atName
      let (f,first) <- holding [ov] (getMethod ov m pl)
      callWith pos f first (backTo pos (starEach (e :: es) X.env)) (backToKw pos (keywordEach [] X.env))):=by rfl) :
    QE X (.Call (.Attribute o m apos) (e :: es) [] pos) (tMeth C m sp [] E0 ta t) :=
  ⟨pe_meth (pl:=pl) ho.h F.c F.mt F.ok (hr.mono hj) F.b .nil passes0 ha.h (star_cons (noStar_head hn).1) (noStar_any (noStar_head hn).2) ht⟩
theorem q_meth0 {pl:Sem Bool} (F:HasM X.prog X.w X.K X.mg X.base C m j f fd ps sp) (hr:Room k X.A) (ho:QE X o ta) (hj:j<=k:=by decide)
    (ht:eval (.Call (.Attribute o m apos) [] [] pos) X.env=(do
      let ov <- eval o X.env
      standAt apos.atName
      let (f,first) <- holding [ov] (getMethod ov m pl)
      callWith pos f first (backTo pos (starEach [] X.env)) (backToKw pos (keywordEach [] X.env))):=by rfl) :
    QE X (.Call (.Attribute o m apos) [] [] pos) (tMeth C m sp [] E0 ta tNil) :=
  ⟨pe_meth0 (pl:=pl) ho.h F.c F.mt F.ok (hr.mono hj) F.b .nil passes0 ht⟩
theorem q_fldK {f:Str} (h:X.K=K) (he:QE X e ta) (hb:attributeBase e f X.env (eval e X.env)=eval e X.env:=by rfl):QE X (.Attribute e f pos) (tFld K ta f):=by subst h; exact ⟨pe_fld he.h hb⟩
theorem q_ps_fldK {f:Str} (h:X.K=K) (ha:QE X o ta) (hv:QE X value tv) (hs:swapsWith value (some (.Attribute o f pos')) pos.line X.env=pure false:=by rfl):QS X (.Assign [.Attribute o f pos'] value pos) (sFld K ta tv f):=by subst h; exact ⟨ps_fld ha.h hv.h hs⟩
end
end L2
namespace L2
open PySem PySem.Spec PyProof.Rows
structure Mk0 (K:PySem.W.Frag) (C:Addr):Prop where
  makes:PySem.W.makesIn K C=true
  init:PySem.W.findIn K (.ref C) "__init__" = some (some (.builtin "object.__init__"))
  kp:PySem.W.keepIn K (.ref C)=true
def tMk0 (C:Addr):TE:=fun _ H Q=>∀ x dx,H x=none->H dx=none->dx≠x->Q (.ref x) (upd (upd H dx (.own x)) x (.ins C dx []))
section
variable {X:Cx} {C:Addr} {x:Str} {p pos:Pos}
theorem run_mk0 {pins:List (Addr × Obj)} {σ:St} {H:Hp} {s:Shared} {Q:VK} (M:Mk0 X.K C) (I:Inv X pins σ H s) (h:tMk0 C σ H Q) :
    wpAny (model X.prog X.w) X.A (call (.ref C) []) (EP X pins σ Q) X.xe s:=by
  have hq:=h (s.heap.objs.size+1) s.heap.objs.size (I.hok.fresh (Nat.le_succ _)) (I.hok.fresh (Nat.le_refl _)) (Nat.ne_of_lt (Nat.lt_succ_self _))
  have I2:=Inv.made (C:=C) I
  have Y:=PySem.W.makes_of (M:=model X.prog X.w) I.kIn M.makes
  refine wpAny_call (make_map0 I.kIn M.makes M.init (fun self=>PySem.W.Looks.of_pure (PySem.W.oi_bind self)) ?_)
  obtain ⟨hh,g,d,t,os⟩:=s
  have e2:((hh.push PySem.W.emptyDict).push (PySem.W.instObj C hh.objs.size)).get? (hh.objs.size+1)=some (PySem.W.instObj C hh.objs.size):=by
    have:=Heap.get?_push_size (hh.push PySem.W.emptyDict) (o:=PySem.W.instObj C hh.objs.size) rfl
    rwa [Heap.size_push] at this
  have t1:PySem.W.Looks (model X.prog X.w) ((hh.push PySem.W.emptyDict).push (PySem.W.instObj C hh.objs.size)) (typeOf (.ref (hh.objs.size+1))) (.ref C):=(PySem.W.Looks.ld e2).andThen .now
  have t2:PySem.W.Looks (model X.prog X.w) ((hh.push PySem.W.emptyDict).push (PySem.W.instObj C hh.objs.size)) (isInstance (.ref (hh.objs.size+1)) (.type "object")) true :=
    t1.andThen (Y.top.keeps fun b o e=>Heap.get?_push_of_some _ (Heap.get?_push_of_some _ e))
  refine codeAny_call_builtin PySem.W.oi_plain PySem.W.entry_oi (@PySem.W.check_slot (model X.prog X.w) _ _ _ "object.__init__" "object" "__init__" (.ref (hh.objs.size+1)) [] [] _ PySem.W.oi_kind PySem.W.oi_split t2 (PySem.W.oi_args (.ref (hh.objs.size+1))) ?_)
  rw [PySem.W.oi_run]
  exact wpAny_pure (And.intro rfl ⟨V.ref (hh.objs.size+1),_,I2,rfl,hq⟩)
theorem q_mk0 (M:Mk0 X.K C) (hm:X.mg x=some (.ref C)) (hg:Gl X x:=by rfl) (hdb:(x == ("__debug__" : Str))=false:=by decide):QE X (.Call (.Name x p) [] [] pos) (tMk0 C):=⟨by
  intro pins s σ H Q I h
  refine wpAny_Call_Name_kw (ld_glob I hg hm ?_ hdb)
  exact PySem.W.callWith_K0 I.kIn M.kp (run_mk0 M I h)⟩
end
structure FunD (K:PySem.W.Frag) (x qual:Str) (st:Stmt) (f:Addr) (fd:FuncData) (vs:List Value):Prop where
  ex : ∃ (oc:Value) (od:Option Addr) (kV doc pm:Value) (an:Option Addr) (cdv ct:Value) (osl:Array (Option Value)) (d:Addr) (dc:Value) (dd:Option Addr) (n:Nat) (dsl:Array (Option Value)),
    fd=PySem.W.fnOf x qual (defArgs st) (defBody st) (defScope st) (.ref d) kV doc pm an cdv ct/\K.lookup f=some ⟨oc,od,.func fd,osl⟩/\PySem.W.codeIn K cdv qual=true/\K.lookup d=some ⟨dc,dd,.seq vs.toArray n,dsl⟩
  kp:PySem.W.keepIn K (.ref f)=true
section
variable {P:Program} {w:World} {K:PySem.W.Frag} {mg:Str->Option Value} {base:Heap} {x qual:Str} {st:Stmt} {f:Addr} {fd:FuncData} {N ps:List Str} {k:Nat} {sp:Sp} {vs:List Value}
theorem FunD.okQ (F:FunD K x qual st f fd vs) (S:FnScope N ps (defScope st)) (len : ∀ vs H Q E,sp vs H Q E->vs.length=ps.length)
    (hbody : ∀ (cdv:Value) (A:Around) (outer:List Env) (s:Shared) (H:Hp) (vs:List V) (Q:VK) (E:XK),Room k (A.deeper (envOfC qual (defScope st) s.heap.objs.size f cdv))->sp vs H Q E ->
      ∃ t,QSs (cxOf CX0 P w K mg base N qual (defScope st) f cdv A outer s H E).nox (defBody st) t/\t { nx:=fun _ H'=>Q .non H',rt:=Q } (start N vs) H):FnOk P w K mg base CX0 (k+1) f fd ps sp:=by
  obtain ⟨oc,od,kV,doc,pm,an,cdv,ct,osl,d,dc,dd,n,dsl,rfl,lk,hcd,_⟩:=F.ex
  refine fn_of lk hcd S len fun A outer s H vs Q E hr hsp=>?_
  obtain ⟨t,h,q⟩:=hbody cdv A outer s H vs Q E hr hsp
  exact ⟨t,h.h.nox,q⟩
theorem funD_mk {oc dc:Value} {od an dd:Option Addr} {osl dsl:Array (Option Value)} {kV doc pm cdv ct:Value} {d:Addr} {n:Nat} (l:K.lookup f=some ⟨oc,od,.func (PySem.W.fnOf x qual (defArgs st) (defBody st) (defScope st) (.ref d) kV doc pm an cdv ct),osl⟩)
    (c:PySem.W.codeIn K cdv qual=true) (k:PySem.W.keepIn K (.ref f)=true) (ld:K.lookup d=some ⟨dc,dd,.seq vs.toArray n,dsl⟩):FunD K x qual st f (PySem.W.fnOf x qual (defArgs st) (defBody st) (defScope st) (.ref d) kV doc pm an cdv ct) vs :=
  ⟨⟨oc,od,kV,doc,pm,an,cdv,ct,osl,d,dc,dd,n,dsl,rfl,l,c,ld⟩,k⟩
theorem FunD.binds {ds:List Value} (F:FunD K x qual st f fd vs)
    (h : ∀ (d:Addr) (kV doc pm:Value) (an:Option Addr) (cdv ct:Value) (us:List Value),(us++ds).length=ps.length->∃ kk:Option (Array Value)->Sem (List (Str × Value)),
      bindArgs (PySem.W.fnOf x qual (defArgs st) (defBody st) (defScope st) (.ref d) kV doc pm an cdv ct) ⟨us,[]⟩=seqItems? (.ref d) >>= kk/\kk (some vs.toArray)=pure (ps.zip (us++ds))):Binds K fd ps ds:=by
  obtain ⟨oc,od,kV,doc,pm,an,cdv,ct,osl,d,dc,dd,n,dsl,rfl,lk,hcd,ld⟩:=F.ex
  intro s us KX hl
  obtain ⟨kk,h1,h2⟩:=h d kV doc pm an cdv ct us hl
  exact BindsTo.of_defaults (T:=d) rfl (KX _ _ ld) rfl h1 h2
end
structure HasMD (P:Program) (w:World) (K:PySem.W.Frag) (mg:Str->Option Value) (base:Heap) (C:Addr) (m:Str) (k:Nat) (f:Addr) (fd:FuncData) (ps:List Str) (dvs:List V) (sp:Sp):Prop where
  c:Cls K C
  mt:Meth K C m f
  b : ∃ ds,Binds K fd ps ds/\Vals dvs ds
  ok:FnOk P w K mg base CX0 k f fd ps sp
section
variable {X:Cx} {k j:Nat} {f C:Addr} {fd:FuncData} {ps:List Str} {sp:Sp} {m:Str} {pos apos:Pos} {e o:Expr} {es:List Expr} {ta:TE} {t:TA} {dvs:List V}
theorem q_methD {pl:Sem Bool} (F:HasMD X.prog X.w X.K X.mg X.base C m j f fd ps dvs sp) (hr:Room k X.A) (ho:QE X o ta) (ha:QA X (e :: es) t) (hj:j<=k:=by decide) (hn:noStar (e :: es)=true:=by rfl)
    (ht:eval (.Call (.Attribute o m apos) (e :: es) [] pos) X.env=(do
      let ov <- eval o X.env
      standAt apos.atName
      let (f,first) <- holding [ov] (getMethod ov m pl)
      callWith pos f first (backTo pos (starEach (e :: es) X.env)) (backToKw pos (keywordEach [] X.env))):=by rfl) :
    QE X (.Call (.Attribute o m apos) (e :: es) [] pos) (tMeth C m sp dvs E0 ta t):=by
  obtain ⟨ds,hb,hd⟩:=F.b
  exact ⟨pe_meth (pl:=pl) ho.h F.c F.mt F.ok (hr.mono hj) hb hd passes0 ha.h (star_cons (noStar_head hn).1) (noStar_any (noStar_head hn).2) ht⟩
end
def dictOf:List DictEntry->Option (List (Int × Addr))
  | []=>some []
  | ⟨h,.int k _,.ref a⟩ :: r=>if h == hashInt k then (match dictOf r with | some l=>some ((k,a) :: l) | none=>none) else none
  | _=>none
theorem dictOf.pairs {P:Program} {w:World} : ∀ {es:List DictEntry} {m:List (Int × Addr)},dictOf es=some m ->
    (∀ e∈es,∃ k,(mixKind P w).is k e.key=true/\e.hash=(mixKind P w).hash k)/\Pairs (mixKind P w) es (m.map fun p=>((Sum.inl p.1:Key),Value.ref p.2))
  | [],m,h=>by cases h; exact ⟨fun _ z=>(nomatch z),.nil⟩
  | ⟨hh,.int k tk,.ref a⟩ :: r,m,h=>by
    unfold dictOf at h
    by_cases c:hh == hashInt k
    · rw [if_pos c] at h
      cases q:dictOf r with
      | none=>rw [q] at h; cases h
      | some l =>
        rw [q] at h
        cases h
        obtain ⟨i1,i2⟩:=dictOf.pairs (P:=P) (w:=w) q
        refine ⟨fun e he=>?_,.cons (mixKind_int P w k tk) rfl i2⟩
        cases he with
        | head=>exact ⟨.inl k,mixKind_int P w k tk,eq_of_beq c⟩
        | tail _ z=>exact i1 e z
    · rw [if_neg c] at h; cases h
structure DctK (K:PySem.W.Frag) (a:Addr) (m:List (Int × Addr)):Prop where
  ex : ∃ es ep,K.lookup a=some ⟨.type "dict",none,.dict es ep,#[]⟩/\dictOf es.toList=some m
  nd:(m.map (·.1)).Nodup
  ns:(a == sysModules)=false
theorem DctK.rd {K:PySem.W.Frag} {a:Addr} {m:List (Int × Addr)} {P:Program} {w:World} {h:Heap} (D:DctK K a m) (X:K.In h):h.DictOf (mixKind P w) a (m.map fun p=>((Sum.inl p.1:Key),Value.ref p.2)):=by
  obtain ⟨es,ep,l,e⟩:=D.ex
  obtain ⟨i1,i2⟩:=dictOf.pairs (P:=P) (w:=w) e
  refine ⟨_,es,ep,X _ _ l,⟨rfl,rfl,rfl⟩,rfl,fun e he=>i1 e (Array.mem_toList_iff.mpr he),i2,?_⟩
  rw [List.map_map]
  have:(((fun x=>x.1) ∘ fun p:Int × Addr=>((Sum.inl p.1:Key),Value.ref p.2)):Int × Addr->Key)=(fun i:Int=>(Sum.inl i:Key)) ∘ (·.1):=rfl
  rw [this,<- List.map_map]
  exact List.Pairwise.map _ (fun a b (z:a≠b) (q:(Sum.inl a:Key)=Sum.inl b)=>z (Sum.inl.inj q)) D.nd
def gotK (m:List (Int × Addr)) (i:Int):Option V:=(m.find? fun p=>decide (p.1=i)).map fun p=>V.ref p.2
theorem gotK_rel : ∀ (m:List (Int × Addr)) (i:Int) (z:V) (r:Value),RelV z r->RelV ((gotK m i).getD z) ((valueAt (m.map fun p=>((Sum.inl p.1:Key),Value.ref p.2)) (Sum.inl i)).getD r)
  | [],i,z,r,h=>h
  | p :: m,i,z,r,h=>by
    have ih:=gotK_rel m i z r h
    unfold gotK valueAt at ih ⊢
    rw [List.map_cons,List.find?_cons,List.find?_cons]
    by_cases c:p.1=i
    · have c':(Sum.inl p.1:Key)=Sum.inl i:=congrArg _ c
      simp only [decide_eq_true c,decide_eq_true c',Option.map_some,Option.getD_some]
      rfl
    · have c' : ¬ (Sum.inl p.1:Key)=Sum.inl i:=fun q=>c (Sum.inl.inj q)
      simp only [decide_eq_false c,decide_eq_false c']
      exact ih
def tDGetK (m:List (Int × Addr)) (ty tx:TE):TE:=fun σ H Q=>ty σ H fun y H2=>tx σ H2 fun z H3=>∃ i,y=.int i/\Q ((gotK m i).getD z) H3
section
variable {X:Cx} {K:PySem.W.Frag} {a:Addr} {m:List (Int × Addr)} {e f:Expr} {x:Str} {p apos cpos:Pos} {ty tx:TE}
theorem q_dgetK (h:X.K=K) (D:DctK K a m) (hg:Gl X x) (hm:X.mg x=some (.ref a)) (he:QE X e ty) (hf:QE X f tx) (hd:(x == ("__debug__" : Str))=false:=by decide)
    (hbase:attributeBase (.Name x p) "get" X.env (eval (.Name x p) X.env)=eval (.Name x p) X.env:=by rfl)
    (hfew:((backTo cpos (starEach [e,f] X.env)).all (fun x=>!x.1) && (backToKw cpos (keywordEach [] X.env)).all (fun x=>x.1.isSome)
      && decide (([e,f]:List Expr).length+([]:List Keyword).length+(if ([]:List Keyword).isEmpty then 0 else 1) < 30))=true:=by rfl)
    (hline:(apos.endLine == cpos.line)=true:=by rfl) (htr:backTo cpos (starEach [e,f] X.env)=[(false,eval e X.env),(false,eval f X.env)]:=by rfl) :
    QE X (.Call (.Attribute (.Name x p) "get" apos) [e,f] [] cpos) (tDGetK m ty tx):=⟨by
  subst h
  intro pins s σ H Q I h
  have ho:PE X (.Name x p) (tC (.ref a)):=(q_pe_glob (v:=.ref a) hg hm rfl hd).h
  refine wpAny_Call_method hbase hfew hline PySem.F.plainAttrs_dict PySem.F.slot_dict_get PySem.F.type_dict_get (thn (ho pins s σ H (fun v H'=>v=.ref a/\tDGetK m ty tx σ H' Q) I ⟨rfl,h⟩) fun u s1 ⟨x,H1,I1,rx,ex,q1⟩=>?_)
  subst ex
  obtain rfl:u=Value.ref a:=rx
  have d1:=D.rd (P:=X.prog) (w:=X.w) I1.kIn
  refine ⟨d1.typeIs,fun b q=>?_,?_⟩
  · cases q
    obtain ⟨ob,_,_,h1,h2,_⟩:=d1
    exact ⟨ob,h1,h2.2.1⟩
  rw [htr]
  refine Calls.callWith_builtin rfl (Calls.evalArgs_plain (Calls.spliced_cons (thn (he.h pins s1 σ H1 _ I1 q1) fun iv s2 ⟨y,H2,I2,ry,q2⟩ =>
    Calls.spliced_cons (thn (hf.h pins s2 σ H2 _ I2 q2) fun fv s3 ⟨z,H3,I3,rz,i,ey,q3⟩=>Calls.spliced_nil ?_))))
  subst ey
  have d3:=D.rd (P:=X.prog) (w:=X.w) I3.kIn
  exact call_meetsIn PySem.F.slot_dict_get d3.typeIs PySem.F.entry_dict_get (PySem.F.args_dict_get_3 _ _ _) (meets_dict_get_default (mixKind X.prog X.w) a (kV_is (k:=.inl i) ry) D.ns fv) ⟨_,d3.mapOf,_,_,I3.tok _,gotK_rel m i z fv rz,q3⟩⟩
end
end L2
namespace L2
open PySem PySem.Spec PyProof.Rows
structure XAt (h:Heap) (e C:Addr) (od:Option Addr) (tb:Value) (oe:Obj) (vs:Array Value) (q:Bool:=false):Prop where
  at_:h.get? e=some oe
  cls:oe.cls=.ref C
  dict:oe.dict=od
  data:oe.data=.fields vs
  size:vs.size=6
  tb1:vs[1]? = some tb
  cx:q=false->vs[2]? = some .none
def TbAt (h:Heap) (e T:Addr) (fl:Value):Prop:=∃ oT ts,h.get? T=some oT/\oT.data=.fields ts/\ts[3]? = some fl/\T≠e
section
variable {M:Model} {A:Around} {E:Value->Shared->Prop} {s:Shared}
structure Noted (l:List Env) (e C T':Addr) (od:Option Addr) (tb fl:Value) (h h':Heap) (q:Bool:=false):Prop where
  keep : ∀ b o,h.get? b=some o->b≠e->.ref b≠tb->b∉frs l->h'.get? b=some o
  slot : ∀ b o,h.get? b=some o->b∈frs l->∃ sl,h'.get? b=some { o with slots:=sl }
  there : ∀ b o,h.get? b=some o->∃ o',h'.get? b=some o'
  new:h.objs.size<=T'
  size:h.objs.size<=h'.objs.size
  exc : ∃ oe vs,XAt h' e C od (.ref T') oe vs q
  ent:TbAt h' e T' fl
def TbOk (h:Heap) (e:Addr) (tb:Value):Prop:=tb=.none\/∃ T,tb=.ref T/\TbAt h e T .none
end
def xφ (e C:Addr) (od:Option Addr) (q:Bool):Heap->Prop:=fun h=>∃ tb oe vs,XAt h e C od tb oe vs q
def xν (e C:Addr) (od:Option Addr):Heap->Prop:=fun h=>∃ oe vs,XAt h e C od .none oe vs
def XO (e C:Addr) (od:Option Addr) (q:Bool:=false):HO:=.ext (xφ e C od q)
def XN (e C:Addr) (od:Option Addr):HO:=.ext (xν e C od)
def CX1 (P:Program) (w:World):CXT:=fun outer H s E v s'=>∃ (e C T:Addr) (od:Option Addr) (q:Bool) (H':Hp) (oe:Obj) (vs:Array Value),v=.ref e/\s'.os=s.os/\AllBare s'.gens /\
  Un (frs outer) [] H H' s.heap s'.heap/\HOk P w H' s'.heap/\H' e=some (XO e C od q)/\s.heap.get? e=none/\s.heap.objs.size<=T/\s.heap.objs.size<=s'.heap.objs.size/\H' T=none /\
  XAt s'.heap e C od (.ref T) oe vs q/\TbAt s'.heap e T .none/\E (.ref C) (some e) H'
def Flew (X:Cx) (pins:List (Addr × Obj)) (Es:St->XK) (v:Value) (s':Shared):Prop:=∃ (σ:St) (H':Hp) (e C:Addr) (od:Option Addr) (q:Bool) (tb:Value) (oe:Obj) (vs:Array Value),v=.ref e/\Inv X pins σ H' s' /\
  H' e=some (XO e C od q)/\XAt s'.heap e C od tb oe vs q/\TbOk s'.heap e tb/\(∀ T,tb=.ref T->H' T=none/\X.s₀.heap.objs.size<=T/\∀ p∈X.pn++pins,p.1≠T)/\(X.ex=[]->X.s₀.heap.get? e=none)/\Es σ (.ref C) (some e) H'
structure Lets (X:Cx) (Es:St->XK):Prop where
  up : ∀ pins v s',Flew X pins Es v s'->X.xe v s'
structure HasX (P:Program) (w:World) (K:PySem.W.Frag) (mg:Str->Option Value) (base:Heap) (x:Str) (k:Nat) (f:Addr) (fd:FuncData) (ps:List Str) (dvs:List V) (sp:Sp):Prop where
  g:mg x=some (.ref f)
  kp:PySem.W.keepIn K (.ref f)=true
  b : ∃ ds,Binds K fd ps ds/\Vals dvs ds
  ok:FnOk P w K mg base (CX1 P w) k f fd ps sp
structure HasMX (P:Program) (w:World) (K:PySem.W.Frag) (mg:Str->Option Value) (base:Heap) (C:Addr) (m:Str) (k:Nat) (f:Addr) (fd:FuncData) (ps:List Str) (dvs:List V) (sp:Sp):Prop where
  c:Cls K C
  mt:Meth K C m f
  b : ∃ ds,Binds K fd ps ds/\Vals dvs ds
  ok:FnOk P w K mg base (CX1 P w) k f fd ps sp
structure HasKX (P:Program) (w:World) (K:PySem.W.Frag) (mg:Str->Option Value) (base:Heap) (x:Str) (C:Addr) (k:Nat) (f:Addr) (fd:FuncData) (ps:List Str) (dvs:List V) (sp:Sp):Prop where
  g:mg x=some (.ref C)
  mkx:Mk K C f
  b : ∃ ds,Binds K fd ps ds/\Vals dvs ds
  ok:FnOk P w K mg base (CX1 P w) k f fd ps sp
end L2
namespace L2
open PySem PySem.Spec PyProof.Rows
abbrev bmV:List Value:=[.type "ValueError",.type "Exception",.type "BaseException",.type "object"]
end L2
namespace L2
open PySem PySem.Spec PyProof.Rows
structure HasKD (P:Program) (w:World) (K:PySem.W.Frag) (mg:Str->Option Value) (base:Heap) (x:Str) (C:Addr) (k:Nat) (f:Addr) (fd:FuncData) (ps:List Str) (dvs:List V) (sp:Sp):Prop where
  g:mg x=some (.ref C)
  mkx:Mk K C f
  b : ∃ ds,Binds K fd ps ds/\Vals dvs ds
  ok:FnOk P w K mg base CX0 k f fd ps sp
section
variable {X:Cx} {k j:Nat} {f C:Addr} {fd:FuncData} {ps:List Str} {sp:Sp} {x:Str} {p pos:Pos} {e:Expr} {es:List Expr} {t:TA} {dvs:List V}
theorem q_two {t1 t2:TE} (h1:QE X e t1) (h2:QE X e t2):QE X e (fun σ H Q=>t1 σ H Q\/t2 σ H Q) :=
  ⟨fun pins s σ H Q I z=>z.elim (h1.h pins s σ H Q I) (h2.h pins s σ H Q I)⟩
theorem q_makeD (F:HasKD X.prog X.w X.K X.mg X.base x C j f fd ps dvs sp) (hr:Room k X.A) (ha:QA X (e :: es) t) (hj:j+1<=k:=by decide) (hg:Gl X x:=by rfl) (hdb:(x == ("__debug__" : Str))=false:=by decide) (hn:noStar (e :: es)=true:=by rfl) :
    QE X (.Call (.Name x p) (e :: es) [] pos) (tMake C sp dvs E0 t):=by
  obtain ⟨ds,hb,hd⟩:=F.b
  exact ⟨pe_make F.mkx F.ok (hr.mono hj) hg F.g hb hd passes0 ha.h hdb (star_cons (noStar_head hn).1) (noStar_any (noStar_head hn).2)⟩
end
end L2
namespace L2
open PySem PySem.Spec PyProof.Rows PySem.W
structure XCls (K:PySem.W.Frag) (C:Addr):Prop where
  ga:findIn K (.ref C) "__getattribute__" = some (some (.builtin "BaseException.__getattribute__"))
  noga:findIn K (.ref C) "__getattr__" = some none
  base:mroIn K C (.type "BaseException")=some true
  obj:mroIn K C (.type "object")=some true
  hd:hasDictIn K C=true
  cls:findIn K (.ref C) "__class__" = some (some (.builtin "object.__class__"))
  clsG:specialIn K (.builtin "object.__class__") "__get__" = some (some (.builtin "getset_descriptor.__get__"))
  clsT:takesIn K (.builtin "object.__class__")=some true
inductive TyX (K:PySem.W.Frag) (H:Hp):V->Value->Prop where
  | of {x:V} {t:Value} (h:TyOf K H x t):TyX K H x t
  | exc {e C:Addr} {q:Bool} (h:H e=some (XO e C none q)) (c:XCls K C):TyX K H (.ref e) (.ref C)
end L2
namespace L2
open PySem PySem.Spec PyProof.Rows
def excAny (K:PySem.W.Frag) (C:Addr) (bmB:List Value) (newId:String):Bool:=match K.lookup C with
  | some ⟨.type "type",_,.cls cd,sl⟩=>(match cd.mro,sl.toList with
    | .ref C' :: bm,[_,_,_,_,some (.builtin n),_]=>C' == C && (n == newId && (!cd.hasDel && (PySem.W.tailIn K bmB bm && PySem.W.nsOkIn K cd.ns)))
    | _,_=>false)
  | _=>false
end L2
namespace L2
open PySem PySem.Spec PyProof.Rows
structure MkE (K:PySem.W.Frag) (C f:Addr):Prop where
  x:excAny K C bmV "ValueError.__new__" = true
  init:PySem.W.findIn K (.ref C) "__init__" = some (some (.ref f))
  fn:PySem.W.isFn K (.ref f)=true
  kp:PySem.W.keepIn K (.ref C)=true
structure HasE (P:Program) (w:World) (K:PySem.W.Frag) (mg:Str->Option Value) (base:Heap) (x:Str) (C:Addr) (k:Nat) (f:Addr) (fd:FuncData) (ps:List Str) (sp:Sp):Prop where
  g:mg x=some (.ref C)
  mkx:MkE K C f
  b:Binds K fd ps []
  ok:FnOk P w K mg base CX0 k f fd ps sp
end L2
namespace L2
open PySem PySem.Spec PyProof.Rows
section
variable {X:Cx} {pins:List (Addr × Obj)} {σ:St} {H:Hp} {s:Shared} {h':Heap} {e C d0:Addr} {fs:List (Str × V)} {f:Str}
structure StE (K:PySem.W.Frag) (C:Addr):Prop where
  x:excAny K C bmV "ValueError.__new__" = true
  c:XCls K C
  sa:PySem.W.findIn K (.ref C) "__setattr__" = some (some (.builtin "object.__setattr__"))
end
structure BaseI (K:PySem.W.Frag) (Y:Addr):Prop where
  sp:PySem.W.specialIn K (.ref Y) "__getattribute__" = some (some (.builtin "type.__getattribute__"))
  rd:PySem.W.readsIn K Y (.type "type")=true
  fc:PySem.W.findCls K (.ref Y) (.type "type") "__init__" = some (.val (.builtin "ValueError.__init__"))
end L2
namespace L2
open PySem PySem.Spec PyProof.Rows
inductive TyY (K:PySem.W.Frag) (H:Hp):V->Value->Prop where
  | of {x:V} {t:Value} (h:TyX K H x t):TyY K H x t
  | exd {e C d0:Addr} {fs:List (Str × V)} (h:H e=some (XN e C (some d0))\/∃ q,H e=some (XO e C (some d0) q)) (hd:H d0=some (.xd fs)) (c:XCls K C):TyY K H (.ref e) (.ref C)
end L2
namespace L2
open PySem PySem.Spec PyProof.Rows
structure RoomH (k:Nat) (A:Around):Prop where
  dp:A.depth+3*k+5 < recursionLimit
  un:A.units+16*k+200 < cLine
structure FnOkH (P:Program) (w:World) (K:PySem.W.Frag) (mg:Str->Option Value) (base:Heap) (k:Nat) (f:Addr) (fd:FuncData) (ps:List Str) (sp:Sp):Prop where
  len : ∀ vs H Q E,sp vs H Q E->vs.length=ps.length
  run : ∀ (A:Around) (outer:List Env) (s:Shared) (H:Hp) (args:Args) (us:List Value) (vs:List V) (Q:VK) (E:XK),RoomH k A->Env0 P w K mg base A outer s H->BindsTo s fd args (ps.zip us)->Vals vs us->sp vs H Q E ->
    codeAny (model P w) A (.call (.ref f) args) (CR CX0 outer P w H s Q E) s
structure HasEH (P:Program) (w:World) (K:PySem.W.Frag) (mg:Str->Option Value) (base:Heap) (x:Str) (C:Addr) (k:Nat) (f:Addr) (fd:FuncData) (ps:List Str) (sp:Sp):Prop where
  g:mg x=some (.ref C)
  mkx:MkE K C f
  b:Binds K fd ps []
  ok:FnOkH P w K mg base k f fd ps sp
end L2
namespace L2
open PySem PySem.Spec PyProof.Rows
section
variable {X:Cx} {k j:Nat} {f C:Addr} {fd:FuncData} {ps:List Str} {sp:Sp} {x m:Str} {p pos:Pos} {e:Expr} {es:List Expr} {t:TA} {dvs:List V} {ds:List Value} {Es:St->XK}
structure HasH (P:Program) (w:World) (K:PySem.W.Frag) (mg:Str->Option Value) (base:Heap) (x:Str) (k:Nat) (f:Addr) (fd:FuncData) (ps:List Str) (sp:Sp):Prop where
  g:mg x=some (.ref f)
  kp:PySem.W.keepIn K (.ref f)=true
  b:Binds K fd ps []
  ok:FnOkH P w K mg base k f fd ps sp
end
end L2
namespace L2
open PySem PySem.Spec PyProof.Rows
section
variable {X:Cx} {K:PySem.W.Frag} {o i value:Expr} {td ty tv:TE} {pos pos':Pos}
def gNotInM:R2:=fun y x H Q=>∃ a ov,x=.ref a/\DGet H a y ov/\Q (.bl (!ov.isSome)) H
theorem g_notinM (hu:X.A.units+64 < cLine):OpR X (compareOp .NotIn) gNotInM:=by
  intro pins s σ H x y v u Q I rx ry q
  obtain ⟨a,ov,rfl,g,q⟩:=q
  obtain rfl:u=Value.ref a:=ry
  exact d_notIn (by omega) I g rx fun s' I'=>⟨.bl (!ov.isSome),H,I',rfl,q⟩
theorem q_dputM (hu:X.A.units+64 < cLine) (ho:QE X o td) (hi:QE X i ty) (hv:QE X value tv) (hs:swapsWith value (some (.Subscript o i pos')) pos.line X.env=pure false:=by rfl):QS X (.Assign [.Subscript o i pos'] value pos) (sDPut td ty tv):=⟨ps_dput (by omega) ho.h hi.h hv.h hs⟩
end
end L2
namespace L2
open PySem PySem.Spec PyProof.Rows
section
variable {X:Cx} {K:PySem.W.Frag} {k j:Nat} {f C:Addr} {fd:FuncData} {ps:List Str} {sp:Sp} {x m:Str} {p pos apos pos' tpos:Pos} {e o value:Expr} {es:List Expr} {ta tv:TE} {t:TA}
theorem q_fldaugK {f:Str} (h:X.K=K) (ha:QE X o ta) (hv:QE X value tv):QS X (.AugAssign (.Attribute o f tpos) .Add value pos) (sFldAug K ta tv rAdd f):=by subst h; exact ⟨ps_fldaug ha.h hv.h in_add⟩
structure HasMH (P:Program) (w:World) (K:PySem.W.Frag) (mg:Str->Option Value) (base:Heap) (C:Addr) (m:Str) (k:Nat) (f:Addr) (fd:FuncData) (ps:List Str) (sp:Sp):Prop where
  c:Cls K C
  mt:Meth K C m f
  b:Binds K fd ps []
  ok:FnOkH P w K mg base k f fd ps sp
end
end L2
namespace L2
open PySem PySem.Spec PyProof.Rows
section
variable {X:Cx} {K:PySem.W.Frag}
def gInM:R2:=fun y x H Q=>∃ a ov,x=.ref a/\DGet H a y ov/\Q (.bl ov.isSome) H
theorem g_inM (hu:X.A.units+64 < cLine):OpR X (compareOp .In) gInM:=by
  intro pins s σ H x y v u Q I rx ry q
  obtain ⟨a,ov,rfl,g,q⟩:=q
  obtain rfl:u=Value.ref a:=ry
  exact d_in (by omega) I g rx fun s' I'=>⟨.bl ov.isSome,H,I',rfl,q⟩
def gLstIx (K:PySem.W.Frag):V->List V->Hp->VK->Prop:=fun x vs H Q=>∃ (a:Addr) (y:V) (xs:List V) (j:Nat),x=.ref a/\vs=[y]/\H a=some (.lst xs)/\flatV y=true/\xs.all flatV=true/\(∃ z,xs[j]? = some z/\eqV z y=true)/\(∀ i z,i < j->xs[i]? = some z->eqV z y=false)/\Q (.int (j:Int)) H
theorem mg_lstIx:MtR X "list.index" (gLstIx X.K):=by
  intro pins s σ H x vs v us Q I rx rs q
  obtain ⟨a,y,xs,j,rfl,rfl,hx,fy,fx,⟨z,hz,ez⟩,hno,q⟩:=q
  cases rx
  obtain ⟨u,rfl,ru⟩:=vals1 rs
  obtain ⟨its,rv,pl,hsz⟩:=I.list (.of hx)
  have hl:=rv.length
  have hj:j < its.length:=by have:=(List.getElem?_eq_some_iff.mp hz).1; omega
  obtain ⟨⟨ocl,odc,oda,osl⟩,n,e1,e2,e3,e4⟩:=pl
  simp only at e2 e3 e4
  subst e2 e3 e4
  have at_ : ∀ i (hi:i < its.toArray.size),∃ z,xs[i]? = some z/\eqU y its.toArray[i]=eqV z y:=fun i hi=>by
    have hi':i < xs.length:=by rw [List.size_toArray] at hi; omega
    obtain ⟨w,hw,rw'⟩:=rv.get (i:=i) (x:=xs[i]) (by simp [hi'])
    have e:its.toArray[i]=w:=by simpa using (List.getElem?_eq_some_iff.mp hw).2
    refine ⟨xs[i],by simp [hi'],?_⟩
    rw [e]
    exact eqU_of rw' (List.all_eq_true.mp fx _ (List.getElem_mem hi'))
  refine call_meets PySem.F.slot_list_index ⟨_,e1,rfl⟩ PySem.F.entry_list_index (PySem.F.args_list_index_2 _ _)
    (SeqAt.list_indexAt a its.toArray n _ _ u (eqU y) j (by simpa using hj) ?_ ?_ ?_) ⟨e1,fun w hw=>mem_eqAt ru fy rv fx w (by simpa using hw),⟨.int j,H,I.tok _,⟨_,rfl⟩,q⟩⟩
  · have:sizeLine<=2 ^ 40:=by decide
    have:(2:Int) ^ 63=9223372036854775808:=by decide
    have:(2:Nat) ^ 40=1099511627776:=by decide
    omega
  · obtain ⟨z',h1,h2⟩:=at_ j (by simpa using hj)
    rw [hz] at h1
    cases h1
    rw [h2]; exact ez
  · intro i hi hij
    obtain ⟨z',h1,h2⟩:=at_ i hi
    rw [h2]
    exact hno i z' hij h1
theorem mg_lstIxK (h:X.K=K):MtR X "list.index" (gLstIx K):=by subst h; exact mg_lstIx
end
end L2
namespace L2
open PySem PySem.Spec PyProof.Rows
section
open HT
variable {prog:Program} {w:World} {A:Around} {E:Value->Shared->Prop} {s:Shared}
theorem getItem_tuple_whole {t sl:Addr} {items:Array Value} {vl vu:Value} {lo hi:Option Int} {Q:Value->Shared->Prop} (ht:IsTup s.heap t items) (hs:s.heap.IsSliceOf sl vl vu .none) (pl:IsPart vl lo) (pu:IsPart vu hi)
    (hw:sIx items.size 0 lo=0/\sIx items.size items.size hi=items.size) (h:Q (.ref t) s):wpAny (model prog w) A (getItem (.ref t) (.ref sl)) Q E s:=by
  obtain ⟨os,hos,hcs,hds⟩:=id hs
  have hTs:s.TypeIs (.ref sl) "slice":=⟨os,hos,hcs⟩
  unfold getItem
  try with_reducible refine wpAny_holding ?_
  first | refine wpAny_bind (wpAny_pure ?_) | skip
  refine wpAny_bind (wpAny_sequenceKey ht.typeIs (by decide) ?_)
  refine wpAny_bind (wpAny_callSpecial?_slot (name:=Str.ofString "__getitem__") ht.typeIs PyProof.Rows.slot_tuple_getitem
    (wpAny_call_entry PyProof.Rows.slot_tuple_getitem ht.typeIs entry_tuple_getitem ?_ (args_tuple_getitem _ _)))
  show wpAny _ _ (Builtin.Tuple.tupleItemsOf (.ref t) >>= _) _ _ s
  refine wpAny_bind (tupleItemsOf_ ht ?_)
  refine wpAny_bind (wpAny_typeOf hTs ?_)
  rw [if_pos (by decide)]
  refine wpAny_bind (sliceApplied_gen hs pl pu ?_)
  have hyes:((((sIx items.size 0 lo:Nat):Int) == 0 && (1:Int) == 1 && (sIx items.size items.size hi - sIx items.size 0 lo) == items.size)=true):=by
    rw [hw.1,hw.2]
    simp
  show wpAny _ _ (if (((sIx items.size 0 lo:Nat):Int) == 0 && (1:Int) == 1 && (sIx items.size items.size hi - sIx items.size 0 lo) == items.size)=true then _ else _) _ _ s
  rw [if_pos hyes]
  unfold Builtin.Tuple.tupleIsExact
  refine wpAny_bind (wpAny_bind (wpAny_typeOf ht.typeIs (wpAny_pure ?_)))
  rw [if_pos (by decide)]
  refine wpAny_bind (wpAny_rule ?_)
  first
    | exact wpAny_pure ⟨_,rfl,wpAny_pure h⟩
    | exact wpAny_bind (wpAny_pure ⟨_,rfl,wpAny_pure h⟩)
    | exact wpAny_bind (wpAny_pure (wpAny_pure ⟨_,rfl,wpAny_pure h⟩))
end
section
variable {X:Cx} {K:PySem.W.Frag} {pos:Pos}
def mDicT:TE:=fun _ H Q=>∀ p H',Gro H p (.dT []) H'->Q (.ref p) H'
theorem q_me_dicT:QE X (.Dict [] [] pos) mDicT:=⟨pe_dnewT.imp fun σ H Q q=>fun p hp=>q p _ (.mk' hp)⟩
def gSlT (K:PySem.W.Frag):V->Option Int->Option Int->Hp->VK->Prop:=fun x lo hi H Q=>match x with
  | .ref a=>∃ xs,SqT K H a xs/\H a=some (.tup xs)/\∀ p H',Same H H'->H' p=some (.tup (cutV xs lo hi))->Q (.ref p) H'
  | _=>False
theorem g_slT:SlR X (gSlT X.K):=by
  intro pins s σ H x v vl vu lo hi sl Q I rx hs pl pu q
  cases x with
  | ref a =>
    obtain ⟨xs,h1,h2,q⟩:=q
    by_cases hw:HT.sIx xs.length 0 lo=0/\HT.sIx xs.length xs.length hi=xs.length
    · cases rx
      obtain ⟨its,r,ht,hz⟩:=I.tuple h1
      have hlen:its.toArray.size=xs.length:=by rw [List.size_toArray]; exact r.length.symm
      refine ⟨"tuple",_,PyProof.Rows.slot_tuple_getitem.lookup,ht.typeIs,?_⟩
      refine getItem_tuple_whole ht hs pl pu (by rw [hlen]; exact hw) ?_
      refine ⟨.ref a,H,I,rfl,q a H (Same.refl _) ?_⟩
      rw [h2]
      unfold cutV
      rw [hw.1,hw.2,List.drop_zero,List.take_of_length_le (by omega)]
    · exact sl_tup pins s σ H _ v vl vu lo hi sl Q I rx hs pl pu ⟨a,xs,rfl,h1,hw,fun p hp=>q p _ (Gro.mk' hp).sm (Gro.mk' hp).at_⟩
  | _=>exact False.elim q
theorem g_slTK (h:X.K=K):SlR X (gSlT K):=by subst h; exact g_slT
end
end L2
namespace L2
open PySem PySem.Spec PyProof.Rows
open PySem.AutoSeq1 (wpAny_loadPart')
open PySem.MeetsSeq
theorem inV_int (n:Int) (ns:List Int):inV (.int n) (ns.map V.int)=decide (n∈ns):=by
  induction ns with
  | nil=>rfl
  | cons m ns ih =>
    unfold inV at *
    rw [List.map_cons,List.any_cons,ih]
    simp only [eqV,List.mem_cons]
    by_cases e:m=n
    · simp [e]
    · have : ¬ n=m:=fun z=>e z.symm
      simp [e,this]
end L2
namespace L2
open PySem PySem.Spec PyProof.Rows
section
variable {X:Cx} {o e:Expr} {apos cpos:Pos} {td ty:TE}
theorem q_dget1M (hu:X.A.units+64 < cLine) (ho:QE X o td) (he:QE X e ty) (hb:attributeBase o "get" X.env (eval o X.env)=eval o X.env:=by rfl)
    (hf:((backTo cpos (starEach [e] X.env)).all (fun x=>!x.1) && (backToKw cpos (keywordEach [] X.env)).all (fun x=>x.1.isSome)
      && decide (([e]:List Expr).length+([]:List Keyword).length+(if ([]:List Keyword).isEmpty then 0 else 1) < 30))=true:=by rfl)
    (hl:(apos.endLine == cpos.line)=true:=by rfl) (ht:backTo cpos (starEach [e] X.env)=[(false,eval e X.env)]:=by rfl) :
    QE X (.Call (.Attribute o "get" apos) [e] [] cpos) (tDGet1 td ty):=⟨pe_dget1 (by omega) ho.h he.h ⟨hb,hf,hl,ht⟩⟩
end
end L2
namespace L2
open PySem PySem.Spec PyProof.Rows
section
variable {X:Cx} {K:PySem.W.Frag}
def FlL (H:Hp) (y:V):Prop:=flatV y=true\/∃ a zs,y=.ref a/\H a=some (.lst zs)
end
end L2
namespace L2
open PySem PySem.Spec PyProof.Rows
def strOf? : Value->Option Str
  | .str x _=>some x
  | _=>none
def refOf? : Value->Option Addr
  | .ref a=>some a
  | _=>none
theorem strOf?.eq {v:Value} {x:Str} (h:strOf? v=some x) : ∃ t,v=.str x t:=by
  cases v <;> first | (cases h; exact ⟨_,rfl⟩) | cases h
theorem refOf?.eq {v:Value} {a:Addr} (h:refOf? v=some a):v=.ref a:=by
  cases v <;> first | (cases h; rfl) | cases h
def dictOfS:List DictEntry->Option (List (Int × Str × Addr))
  | []=>some []
  | e :: r=>(strOf? e.key).bind fun x=>(refOf? e.val).bind fun a=>(dictOfS r).map fun l=>(e.hash,x,a) :: l
theorem dictOfS.pairs {P:Program} {w:World} : ∀ {es:List DictEntry} {m:List (Int × Str × Addr)},dictOfS es=some m->(∀ p∈m,p.1=hashStr w p.2.1) ->
    (∀ e∈es,∃ k,(mixKind P w).is k e.key=true/\e.hash=(mixKind P w).hash k)/\Pairs (mixKind P w) es (m.map fun p=>((Sum.inr p.2.1:Key),Value.ref p.2.2))
  | [],m,h,_=>by cases h; exact ⟨fun _ z=>(nomatch z),.nil⟩
  | e :: r,m,h,hs=>by
    unfold dictOfS at h
    obtain ⟨x,hx,h⟩:=Option.bind_eq_some_iff.mp h
    obtain ⟨a,ha,h⟩:=Option.bind_eq_some_iff.mp h
    obtain ⟨l,hl,h⟩:=Option.map_eq_some_iff.mp h
    subst h
    obtain ⟨tk,ek⟩:=strOf?.eq hx
    obtain ⟨i1,i2⟩:=dictOfS.pairs (P:=P) (w:=w) hl fun p hp=>hs p (List.mem_cons_of_mem _ hp)
    have kk:(mixKind P w).is (.inr x) e.key=true:=by rw [ek]; exact mixKind_str P w x tk
    refine ⟨fun e' he=>?_,.cons kk (refOf?.eq ha) i2⟩
    rcases List.mem_cons.mp he with rfl | he
    · exact ⟨.inr x,kk,hs _ List.mem_cons_self⟩
    · exact i1 e' he
structure DctS (K:PySem.W.Frag) (w:World) (a:Addr) (m:List (Int × Str × Addr)):Prop where
  ex : ∃ es ep,K.lookup a=some ⟨.type "dict",none,.dict es ep,#[]⟩/\dictOfS es.toList=some m
  hs : ∀ p∈m,p.1=hashStr w p.2.1
  nd:(m.map (·.2.1)).Nodup
  ns:(a == sysModules)=false
theorem DctS.rd {K:PySem.W.Frag} {a:Addr} {m:List (Int × Str × Addr)} {P:Program} {w:World} {h:Heap} (D:DctS K w a m) (X:K.In h):h.DictOf (mixKind P w) a (m.map fun p=>((Sum.inr p.2.1:Key),Value.ref p.2.2)):=by
  obtain ⟨es,ep,l,e⟩:=D.ex
  obtain ⟨i1,i2⟩:=dictOfS.pairs (P:=P) (w:=w) e D.hs
  refine ⟨_,es,ep,X _ _ l,⟨rfl,rfl,rfl⟩,rfl,fun e he=>i1 e (Array.mem_toList_iff.mpr he),i2,?_⟩
  rw [List.map_map]
  have:(((fun x=>x.1) ∘ fun p:Int × Str × Addr=>((Sum.inr p.2.1:Key),Value.ref p.2.2)):Int × Str × Addr->Key)=(fun i:Str=>(Sum.inr i:Key)) ∘ (·.2.1):=rfl
  rw [this,<- List.map_map]
  exact List.Pairwise.map _ (fun a b (z:a≠b) (q:(Sum.inr a:Key)=Sum.inr b)=>z (Sum.inr.inj q)) D.nd
def gotS (m:List (Int × Str × Addr)) (z:Str):Option Addr:=(m.find? fun p=>decide (p.2.1=z)).map (·.2.2)
theorem gotS_val : ∀ (m:List (Int × Str × Addr)) (z:Str),valueAt (m.map fun p=>((Sum.inr p.2.1:Key),Value.ref p.2.2)) (Sum.inr z)=(gotS m z).map Value.ref
  | [],z=>rfl
  | p :: m,z=>by
    have ih:=gotS_val m z
    unfold gotS valueAt at ih ⊢
    rw [List.map_cons,List.find?_cons,List.find?_cons]
    by_cases c:p.2.1=z
    · have c':(Sum.inr p.2.1:Key)=Sum.inr z:=congrArg _ c
      simp only [decide_eq_true c,decide_eq_true c',Option.map_some]
    · have c' : ¬ (Sum.inr p.2.1:Key)=Sum.inr z:=fun q=>c (Sum.inr.inj q)
      simp only [decide_eq_false c,decide_eq_false c']
      exact ih
def gInS (a:Addr) (m:List (Int × Str × Addr)) (neg:Bool):R2:=fun x y H Q=>∃ z,x=.str z/\y=.ref a/\Q (.bl (if neg then !(gotS m z).isSome else (gotS m z).isSome)) H
section
variable {X:Cx} {K:PySem.W.Frag} {w:World} {a:Addr} {m:List (Int × Str × Addr)}
theorem g_notinS (h:X.K=K) (hw:X.w=w) (D:DctS K w a m):OpR X (compareOp .NotIn) (gInS a m true):=by
  subst h hw
  intro pins s σ H x y v u Q I rx ry q
  obtain ⟨z,rfl,rfl,q⟩:=q
  obtain rfl:u=Value.ref a:=ry
  refine wpAny_notIn_of (kV_is (k:=.inr z) rx) D.ns (D.rd (P:=X.prog) (w:=X.w) I.kIn).mapOf ?_
  rw [gotS_val,Option.isSome_map]
  exact ⟨.bl _,H,I.tok _,rfl,q⟩
theorem q_dixS {i:Expr} {ti:TE} {x:Str} {p pos:Pos} (h:X.K=K) (hw:X.w=w) (D:DctS K w a m) (hg:Gl X x) (hm:X.mg x=some (.ref a)) (hi:QE X i ti) (hs:NoSl i:=by intro _ _; rfl) (hd:(x == ("__debug__" : Str))=false:=by decide) :
    QE X (.Subscript (.Name x p) i pos) (fun σ H Q=>ti σ H fun y H1=>∃ z b,y=.str z/\gotS m z=some b/\Q (.ref b) H1):=⟨by
  subst h hw
  intro pins s σ H Q I h
  have ho:PE X (.Name x p) (tC (.ref a)):=(q_pe_glob (v:=.ref a) hg hm rfl hd).h
  refine subD_of PySem.F.slot_dict_getitem.lookup hs (thn (ho pins s σ H (fun v H'=>v=.ref a/\ti σ H' fun y H1=>∃ z b,y=.str z/\gotS m z=some b/\Q (.ref b) H1) I ⟨rfl,h⟩) fun u s1 ⟨x,H1,I1,rx,ex,q1⟩=>thn (hi.h pins s1 σ H1 _ I1 q1) fun iv s2 ⟨y,H2,I2,ry,z,b,ey,g,q2⟩=>?_)
  subst ex ey
  obtain rfl:u=Value.ref a:=rx
  have dd:=D.rd (P:=X.prog) (w:=X.w) I2.kIn
  exact ⟨dd.typeIs,wpAny_getItem_of (kV_is (k:=.inr z) ry) dd.mapOf (by rw [gotS_val,g]; rfl) ⟨.ref b,H2,I2.tok _,rfl,q2⟩⟩⟩
end
structure HasD (P:Program) (w:World) (K:PySem.W.Frag) (mg:Str->Option Value) (base:Heap) (x:Str) (k:Nat) (f:Addr) (fd:FuncData) (ps:List Str) (dvs:List V) (sp:Sp):Prop where
  g:mg x=some (.ref f)
  kp:PySem.W.keepIn K (.ref f)=true
  b : ∃ ds,Binds K fd ps ds/\Vals dvs ds
  ok:FnOk P w K mg base CX0 k f fd ps sp
def refsOf:List Value->Option (List Addr)
  | []=>some []
  | .ref m :: u=>(match refsOf u with | some l=>some (m :: l) | none=>none)
  | _=>none
theorem refsOf.vals : ∀ {us:List Value} {ns:List Addr},refsOf us=some ns->Vals (ns.map V.ref) us
  | [],ns,h=>by cases h; exact .nil
  | .ref m :: u,ns,h=>by
    unfold refsOf at h
    cases q:refsOf u with
    | none=>rw [q] at h; cases h
    | some l=>rw [q] at h; cases h; exact .cons rfl (refsOf.vals q)
theorem tupR {K:PySem.W.Frag} {a:Addr} {od:Option Addr} {its:Array Value} {n:Nat} {sl:Array (Option Value)} {ns:List Addr} (h:K.lookup a=some ⟨.type "tuple",od,.seq its n,sl⟩) (hv:refsOf its.toList=some ns) (hz:its.size<=1000:=by decide) (H:Hp):SqT K H a (ns.map V.ref) :=
  .inr ⟨_,its,n,h,rfl,rfl,sz (Nat.ble_eq_true_of_le hz),refsOf.vals hv⟩
end L2
namespace L2
open PySem
theorem comp_range3 {lo c:Int} {n:Nat} {cs:St} {tt:TT} {te:TE} {H:Hp} {Q:VK} (Pv:Nat->List V->Hp->Prop) (h0:Pv 0 [] H) (hl : ∀ i ys H,i<=n->Pv i ys H->ys.length<=i) (hz:n<=sizeLine)
    (hs : ∀ i ys H (N:List V->Hp->Prop),i < n->Pv i ys H->(∀ ys' H',Pv (i+1) ys' H'->N ys' H')->tt (some (.int (lo+i*c)) :: cs) H fun b H4=>if b=true then te (some (.int (lo+i*c)) :: cs) H4 fun y H5=>N (ys++[y]) H5 else N ys H4)
    (hd : ∀ ys H p H',Pv n ys H->Gro H p (.lst ys) H'->Q (.ref p) H') :
    CompW (Itr3 lo c n) H (List.replicate 1 none++cs) (gName 0) tt te Q:=by
  refine ⟨fun i m ys σ H=>m=n - i/\i<=n/\Pv i ys H/\∃ v0,σ=v0 :: cs,⟨n,by simp,Nat.zero_le _,h0,none,rfl⟩,?_⟩
  rintro i m ys σ H2 ⟨rfl,hi,p,v0,rfl⟩
  have ql:=hl i ys H2 hi p
  by_cases hlt:i < n
  · refine .inr ⟨hlt,by omega,fun ys' σ' H'=>Pv (i+1) ys' H'/\∃ v0,σ'=v0 :: cs,fun ys' σ' H' ⟨p',e⟩=>⟨n - (i+1),by omega,rfl,hlt,p',e⟩,fun x H' y=>?_⟩
    obtain ⟨e,y⟩:=y
    subst e y
    exact hs i ys H' (fun ys' H'=>Pv (i+1) ys' H'/\∃ v0,some (V.int (lo+i*c)) :: cs=v0 :: cs) hlt p fun _ _ z=>⟨z,_,rfl⟩
  · have e:i=n:=by omega
    subst e
    exact .inl ⟨Nat.le_refl _,by omega,fun p' H' g=>hd ys H2 p' H' p g⟩
theorem comp_toR3 {lo c:Int} {n:Nat} {cs:St} {te:TE} {H:Hp} {Q:VK} (rs:List V) (hl:rs.length=n) (hz:n<=sizeLine)
    (hs : ∀ (i:Nat) y H' (N:VK),i < n->rs[i]? = some y->Same H H'->(∀ H'',Same H' H''->N y H'')->te (some (.int (lo+i*c)) :: cs) H' N) (hd : ∀ p H',Gro H p (.lst rs) H'->Q (.ref p) H') :
    CompW (Itr3 lo c n) H (List.replicate 1 none++cs) (gName 0) tTrue te Q:=by
  refine comp_range3 (fun i ys H'=>Same H H'/\ys=rs.take i) ⟨Same.refl _,rfl⟩ (fun i ys H' hi z=>by rw [z.2,List.length_take]; omega) hz (fun i ys H' N hi z hN=>?_) fun ys H' p H'' z g=>?_
  · obtain ⟨s,rfl⟩:=z
    have hi':i < rs.length:=by omega
    have hy:rs[i]? = some rs[i]:=List.getElem?_eq_getElem hi'
    simp only [tTrue,if_true]
    exact hs i _ H' _ hi hy s fun H'' s'=>hN _ _ ⟨s.trans s',by rw [take_snoc hy]⟩
  · obtain ⟨s,rfl⟩:=z
    rw [<- hl,List.take_length] at g
    exact hd p H'' (g.after s)
end L2
namespace My
open PySem L2
def top (i:Nat):Stmt:=PySem.Challenge.pw_bytetongue_k62_in_pieces.main.body.getD i (.Pass ⟨0,0,0,0⟩)
abbrev s_Reader_init:Stmt:=inClass (top 2) 0
abbrev s_Reader_page:Stmt:=inClass (top 2) 1
abbrev s_Reader_held:Stmt:=inClass (top 2) 2
abbrev s_Reader_taken:Stmt:=inClass (top 2) 3
abbrev s_Reader_faults:Stmt:=inClass (top 2) 4
abbrev s_Reader_over:Stmt:=inClass (top 2) 5
abbrev s_Reader_feed:Stmt:=inClass (top 2) 7
abbrev s_Reader_end:Stmt:=inClass (top 2) 8
abbrev s_Reader_take:Stmt:=inClass (top 2) 9
abbrev s_Reader_look_at_begun:Stmt:=inClass (top 2) 10
abbrev s_Reader_meet_none:Stmt:=inClass (top 2) 11
abbrev s_Reader_meet:Stmt:=inClass (top 2) 12
abbrev s_Reader_note:Stmt:=inClass (top 2) 13
abbrev s_check_room:Stmt:=top 10
abbrev s_together:Stmt:=top 11
abbrev s_is_number:Stmt:=top 21
abbrev s_is_byte:Stmt:=top 22
abbrev s_is_head:Stmt:=top 23
abbrev s_is_tail:Stmt:=top 24
abbrev s_is_seen_byte:Stmt:=top 25
abbrev s_is_sign:Stmt:=top 26
abbrev s_is_row:Stmt:=top 27
abbrev s_Tongue_unit:Stmt:=inClass (top 29) 1
abbrev s_Tongue_whole:Stmt:=inClass (top 29) 4
abbrev s_Tongue_fill:Stmt:=inClass (top 29) 5
abbrev s_Tongue_look:Stmt:=inClass (top 29) 6
abbrev s_length_behind:Stmt:=top 36
abbrev s_bounds_behind:Stmt:=top 37
abbrev s_fits_behind:Stmt:=top 38
abbrev s_missing:Stmt:=top 39
abbrev s_carried:Stmt:=top 40
abbrev s_LeadTongue_whole:Stmt:=inClass (top 41) 2
abbrev s_LeadTongue_fill:Stmt:=inClass (top 41) 3
abbrev s_sign_of:Stmt:=top 46
abbrev s_PairTongue_init:Stmt:=inClass (top 47) 0
abbrev s_PairTongue_unit:Stmt:=inClass (top 47) 1
abbrev s_PairTongue_turned:Stmt:=inClass (top 47) 3
abbrev s_PairTongue_units_in:Stmt:=inClass (top 47) 5
abbrev s_PairTongue_whole:Stmt:=inClass (top 47) 7
abbrev s_PairTongue_fill:Stmt:=inClass (top 47) 8
abbrev s_begins:Stmt:=top 49
abbrev s_places_in:Stmt:=top 53
abbrev s_ShiftTongue_init:Stmt:=inClass (top 54) 0
abbrev s_ShiftTongue_row_beyond:Stmt:=inClass (top 54) 1
abbrev s_ShiftTongue_sign_of:Stmt:=inClass (top 54) 7
abbrev s_ShiftTongue_whole:Stmt:=inClass (top 54) 8
abbrev s_ShiftTongue_fill:Stmt:=inClass (top 54) 9
abbrev s_is_entry:Stmt:=top 58
abbrev s_collide:Stmt:=top 59
abbrev s_check_table:Stmt:=top 60
abbrev s_TableTongue_init:Stmt:=inClass (top 61) 0
abbrev s_TableTongue_enter:Stmt:=inClass (top 61) 1
abbrev s_TableTongue_whole:Stmt:=inClass (top 61) 5
abbrev s_TableTongue_fill:Stmt:=inClass (top 61) 6
abbrev s_z_drawn:Stmt:=top 63
abbrev s_z_is_number:Stmt:=top 64
abbrev s_z_mixed:Stmt:=top 65
abbrev s_z_gapped:Stmt:=top 66
abbrev s_z_as_sign:Stmt:=top 67
abbrev s_z_lists:Stmt:=top 68
abbrev s_z_table:Stmt:=top 69
abbrev s_z_model:Stmt:=top 70
abbrev s_z_tongue:Stmt:=top 71
abbrev s_z_lead_row:Stmt:=top 73
abbrev s_z_pair_row:Stmt:=top 74
abbrev s_z_spell:Stmt:=top 75
abbrev s_z_text:Stmt:=top 76
abbrev s_z_pieces:Stmt:=top 77
abbrev s_z_state:Stmt:=top 78
abbrev s_z_behind:Stmt:=top 79
abbrev s_z_fed:Stmt:=top 80
abbrev s_z_over:Stmt:=top 81
abbrev s_law:Stmt:=top 82
theorem sc_Reader_init:FnScope ["self", "tongue", "place"] ["self", "tongue", "place"] (defScope s_Reader_init):=⟨rfl,rfl,rfl,by decide +kernel,rfl,by decide +kernel,by decide +kernel⟩
theorem sc_Reader_page:FnScope ["self"] ["self"] (defScope s_Reader_page):=⟨rfl,rfl,rfl,by decide +kernel,rfl,by decide +kernel,by decide +kernel⟩
theorem sc_Reader_held:FnScope ["self"] ["self"] (defScope s_Reader_held):=⟨rfl,rfl,rfl,by decide +kernel,rfl,by decide +kernel,by decide +kernel⟩
theorem sc_Reader_taken:FnScope ["self"] ["self"] (defScope s_Reader_taken):=⟨rfl,rfl,rfl,by decide +kernel,rfl,by decide +kernel,by decide +kernel⟩
theorem sc_Reader_faults:FnScope ["self"] ["self"] (defScope s_Reader_faults):=⟨rfl,rfl,rfl,by decide +kernel,rfl,by decide +kernel,by decide +kernel⟩
theorem sc_Reader_over:FnScope ["self"] ["self"] (defScope s_Reader_over):=⟨rfl,rfl,rfl,by decide +kernel,rfl,by decide +kernel,by decide +kernel⟩
theorem sc_Reader_feed:FnScope ["self", "row", "signs", "byte"] ["self", "row"] (defScope s_Reader_feed):=⟨rfl,rfl,rfl,by decide +kernel,rfl,by decide +kernel,by decide +kernel⟩
theorem sc_Reader_end:FnScope ["self", "signs"] ["self"] (defScope s_Reader_end):=⟨rfl,rfl,rfl,by decide +kernel,rfl,by decide +kernel,by decide +kernel⟩
theorem sc_Reader_take:FnScope ["self", "byte"] ["self", "byte"] (defScope s_Reader_take):=⟨rfl,rfl,rfl,by decide +kernel,rfl,by decide +kernel,by decide +kernel⟩
theorem sc_Reader_look_at_begun:FnScope ["self", "found"] ["self"] (defScope s_Reader_look_at_begun):=⟨rfl,rfl,rfl,by decide +kernel,rfl,by decide +kernel,by decide +kernel⟩
theorem sc_Reader_meet_none:FnScope ["self", "ahead_of_last"] ["self"] (defScope s_Reader_meet_none):=⟨rfl,rfl,rfl,by decide +kernel,rfl,by decide +kernel,by decide +kernel⟩
theorem sc_Reader_meet:FnScope ["self", "length", "kind"] ["self", "length", "kind"] (defScope s_Reader_meet):=⟨rfl,rfl,rfl,by decide +kernel,rfl,by decide +kernel,by decide +kernel⟩
theorem sc_check_room:FnScope ["number", "bits"] ["number", "bits"] (defScope s_check_room):=⟨rfl,rfl,rfl,by decide +kernel,rfl,by decide +kernel,by decide +kernel⟩
theorem sc_together:FnScope ["parts", "bits", "number", "part"] ["parts", "bits"] (defScope s_together):=⟨rfl,rfl,rfl,by decide +kernel,rfl,by decide +kernel,by decide +kernel⟩
theorem sc_is_number:FnScope ["thing"] ["thing"] (defScope s_is_number):=⟨rfl,rfl,rfl,by decide +kernel,rfl,by decide +kernel,by decide +kernel⟩
theorem sc_is_byte:FnScope ["thing"] ["thing"] (defScope s_is_byte):=⟨rfl,rfl,rfl,by decide +kernel,rfl,by decide +kernel,by decide +kernel⟩
theorem sc_is_head:FnScope ["number"] ["number"] (defScope s_is_head):=⟨rfl,rfl,rfl,by decide +kernel,rfl,by decide +kernel,by decide +kernel⟩
theorem sc_is_tail:FnScope ["number"] ["number"] (defScope s_is_tail):=⟨rfl,rfl,rfl,by decide +kernel,rfl,by decide +kernel,by decide +kernel⟩
theorem sc_is_seen_byte:FnScope ["thing"] ["thing"] (defScope s_is_seen_byte):=⟨rfl,rfl,rfl,by decide +kernel,rfl,by decide +kernel,by decide +kernel⟩
theorem sc_is_sign:FnScope ["thing"] ["thing"] (defScope s_is_sign):=⟨rfl,rfl,rfl,by decide +kernel,rfl,by decide +kernel,by decide +kernel⟩
theorem sc_is_row:FnScope ["thing"] ["thing"] (defScope s_is_row):=⟨rfl,rfl,rfl,by decide +kernel,rfl,by decide +kernel,by decide +kernel⟩
theorem sc_Tongue_unit:FnScope ["self"] ["self"] (defScope s_Tongue_unit):=⟨rfl,rfl,rfl,by decide +kernel,rfl,by decide +kernel,by decide +kernel⟩
theorem sc_Tongue_whole:FnScope ["self", "row", "page"] ["self", "row", "page"] (defScope s_Tongue_whole):=⟨rfl,rfl,rfl,by decide +kernel,rfl,by decide +kernel,by decide +kernel⟩
theorem sc_Tongue_fill:FnScope ["self", "row", "page"] ["self", "row", "page"] (defScope s_Tongue_fill):=⟨rfl,rfl,rfl,by decide +kernel,rfl,by decide +kernel,by decide +kernel⟩
theorem sc_Tongue_look:FnScope ["self", "begun", "page", "found"] ["self", "begun", "page"] (defScope s_Tongue_look):=⟨rfl,rfl,rfl,by decide +kernel,rfl,by decide +kernel,by decide +kernel⟩
theorem sc_length_behind:FnScope ["first"] ["first"] (defScope s_length_behind):=⟨rfl,rfl,rfl,by decide +kernel,rfl,by decide +kernel,by decide +kernel⟩
theorem sc_bounds_behind:FnScope ["row", "place"] ["row", "place"] (defScope s_bounds_behind):=⟨rfl,rfl,rfl,by decide +kernel,rfl,by decide +kernel,by decide +kernel⟩
theorem sc_fits_behind:FnScope ["row", "place", "bounds"] ["row"] (defScope s_fits_behind):=⟨rfl,rfl,rfl,by decide +kernel,rfl,by decide +kernel,by decide +kernel⟩
theorem sc_missing:FnScope ["row", "lack"] ["row"] (defScope s_missing):=⟨rfl,rfl,rfl,by decide +kernel,rfl,by decide +kernel,by decide +kernel⟩
theorem sc_carried:FnScope ["row"] ["row"] (defScope s_carried):=⟨rfl,rfl,rfl,by decide +kernel,rfl,by decide +kernel,by decide +kernel⟩
theorem sc_LeadTongue_whole:FnScope ["self", "row", "page"] ["self", "row", "page"] (defScope s_LeadTongue_whole):=⟨rfl,rfl,rfl,by decide +kernel,rfl,by decide +kernel,by decide +kernel⟩
theorem sc_LeadTongue_fill:FnScope ["self", "row", "page", "lack"] ["self", "row", "page"] (defScope s_LeadTongue_fill):=⟨rfl,rfl,rfl,by decide +kernel,rfl,by decide +kernel,by decide +kernel⟩
theorem sc_sign_of:FnScope ["units"] ["units"] (defScope s_sign_of):=⟨rfl,rfl,rfl,by decide +kernel,rfl,by decide +kernel,by decide +kernel⟩
theorem sc_PairTongue_init:FnScope ["self", "order"] ["self", "order"] (defScope s_PairTongue_init):=⟨rfl,rfl,rfl,by decide +kernel,rfl,by decide +kernel,by decide +kernel⟩
theorem sc_PairTongue_unit:FnScope ["self"] ["self"] (defScope s_PairTongue_unit):=⟨rfl,rfl,rfl,by decide +kernel,rfl,by decide +kernel,by decide +kernel⟩
theorem sc_PairTongue_turned:FnScope ["self", "pair"] ["self", "pair"] (defScope s_PairTongue_turned):=⟨rfl,rfl,rfl,by decide +kernel,rfl,by decide +kernel,by decide +kernel⟩
theorem sc_PairTongue_units_in:FnScope ["self", "row"] ["self", "row"] (defScope s_PairTongue_units_in):=⟨rfl,rfl,rfl,by decide +kernel,rfl,by decide +kernel,by decide +kernel⟩
theorem sc_PairTongue_whole:FnScope ["self", "row", "page", "sign"] ["self", "row", "page"] (defScope s_PairTongue_whole):=⟨rfl,rfl,rfl,by decide +kernel,rfl,by decide +kernel,by decide +kernel⟩
theorem sc_PairTongue_fill:FnScope ["self", "row", "page", "rest"] ["self", "row", "page"] (defScope s_PairTongue_fill):=⟨rfl,rfl,rfl,by decide +kernel,rfl,by decide +kernel,by decide +kernel⟩
theorem sc_begins:FnScope ["one", "other"] ["one", "other"] (defScope s_begins):=⟨rfl,rfl,rfl,by decide +kernel,rfl,by decide +kernel,by decide +kernel⟩
theorem sc_places_in:FnScope ["signs", "which", "places", "place", "sign"] ["signs", "which"] (defScope s_places_in):=⟨rfl,rfl,rfl,by decide +kernel,rfl,by decide +kernel,by decide +kernel⟩
theorem sc_ShiftTongue_init:FnScope ["self", "first", "second"] ["self", "first", "second"] (defScope s_ShiftTongue_init):=⟨rfl,rfl,rfl,by decide +kernel,rfl,by decide +kernel,by decide +kernel⟩
theorem sc_ShiftTongue_row_beyond:FnScope ["self", "page", "place", "sign"] ["self", "page"] (defScope s_ShiftTongue_row_beyond):=⟨rfl,rfl,rfl,by decide +kernel,rfl,by decide +kernel,by decide +kernel⟩
theorem sc_ShiftTongue_sign_of:FnScope ["self", "byte", "page"] ["self", "byte", "page"] (defScope s_ShiftTongue_sign_of):=⟨rfl,rfl,rfl,by decide +kernel,rfl,by decide +kernel,by decide +kernel⟩
theorem sc_ShiftTongue_whole:FnScope ["self", "row", "page", "sign"] ["self", "row", "page"] (defScope s_ShiftTongue_whole):=⟨rfl,rfl,rfl,by decide +kernel,rfl,by decide +kernel,by decide +kernel⟩
theorem sc_ShiftTongue_fill:FnScope ["self", "row", "page"] ["self", "row", "page"] (defScope s_ShiftTongue_fill):=⟨rfl,rfl,rfl,by decide +kernel,rfl,by decide +kernel,by decide +kernel⟩
theorem sc_is_entry:FnScope ["thing"] ["thing"] (defScope s_is_entry):=⟨rfl,rfl,rfl,by decide +kernel,rfl,by decide +kernel,by decide +kernel⟩
theorem sc_collide:FnScope ["one", "other"] ["one", "other"] (defScope s_collide):=⟨rfl,rfl,rfl,by decide +kernel,rfl,by decide +kernel,by decide +kernel⟩
theorem sc_check_table:FnScope ["rows", "other", "entry", "one", "earlier"] ["rows"] (defScope s_check_table):=⟨rfl,rfl,rfl,by decide +kernel,rfl,by decide +kernel,by decide +kernel⟩
theorem sc_TableTongue_init:FnScope ["self", "rows", "entry"] ["self", "rows"] (defScope s_TableTongue_init):=⟨rfl,rfl,rfl,by decide +kernel,rfl,by decide +kernel,by decide +kernel⟩
theorem sc_TableTongue_enter:FnScope ["self", "sign", "row", "size"] ["self", "sign", "row"] (defScope s_TableTongue_enter):=⟨rfl,rfl,rfl,by decide +kernel,rfl,by decide +kernel,by decide +kernel⟩
theorem sc_TableTongue_whole:FnScope ["self", "row", "page", "sign"] ["self", "row", "page"] (defScope s_TableTongue_whole):=⟨rfl,rfl,rfl,by decide +kernel,rfl,by decide +kernel,by decide +kernel⟩
theorem sc_TableTongue_fill:FnScope ["self", "row", "page", "rest"] ["self", "row", "page"] (defScope s_TableTongue_fill):=⟨rfl,rfl,rfl,by decide +kernel,rfl,by decide +kernel,by decide +kernel⟩
theorem sc_z_drawn:FnScope ["_law_script", "_law_at"] ["_law_script", "_law_at"] (defScope s_z_drawn):=⟨rfl,rfl,rfl,by decide +kernel,rfl,by decide +kernel,by decide +kernel⟩
theorem sc_z_is_number:FnScope ["_law_found"] ["_law_found"] (defScope s_z_is_number):=⟨rfl,rfl,rfl,by decide +kernel,rfl,by decide +kernel,by decide +kernel⟩
theorem sc_z_mixed:FnScope ["_law_number", "_law_k"] ["_law_number", "_law_k"] (defScope s_z_mixed):=⟨rfl,rfl,rfl,by decide +kernel,rfl,by decide +kernel,by decide +kernel⟩
theorem sc_z_gapped:FnScope ["_law_number", "_law_sign"] ["_law_number"] (defScope s_z_gapped):=⟨rfl,rfl,rfl,by decide +kernel,rfl,by decide +kernel,by decide +kernel⟩
theorem sc_z_as_sign:FnScope ["_law_number", "_law_edges"] ["_law_number"] (defScope s_z_as_sign):=⟨rfl,rfl,rfl,by decide +kernel,rfl,by decide +kernel,by decide +kernel⟩
theorem sc_z_lists:FnScope ["_law_number", "_law_sizes", "_law_base", "_law_first", "_law_second"] ["_law_number"] (defScope s_z_lists):=⟨rfl,rfl,rfl,by decide +kernel,rfl,by decide +kernel,by decide +kernel⟩
theorem sc_z_table:FnScope ["_law_number", "_law_signs", "_law_rows", "_law_k", "_law_far", "_law_row"] ["_law_number"] (defScope s_z_table):=⟨rfl,rfl,rfl,by decide +kernel,rfl,by decide +kernel,by decide +kernel⟩
theorem sc_z_model:FnScope ["_law_cell", "_law_number", "_law_first", "_law_second", "_law_signs", "_law_rows"] ["_law_cell"] (defScope s_z_model):=⟨rfl,rfl,rfl,by decide +kernel,rfl,by decide +kernel,by decide +kernel⟩
theorem sc_z_tongue:FnScope ["_law_model_here", "_law_word", "_law_first", "_law_second"] ["_law_model_here"] (defScope s_z_tongue):=⟨rfl,rfl,rfl,by decide +kernel,rfl,by decide +kernel,by decide +kernel⟩
theorem sc_z_lead_row:FnScope ["_law_sign"] ["_law_sign"] (defScope s_z_lead_row):=⟨rfl,rfl,rfl,by decide +kernel,rfl,by decide +kernel,by decide +kernel⟩
theorem sc_z_pair_row:FnScope ["_law_sign", "_law_word", "_law_units", "_law_row", "_law_number"] ["_law_sign", "_law_word"] (defScope s_z_pair_row):=⟨rfl,rfl,rfl,by decide +kernel,rfl,by decide +kernel,by decide +kernel⟩
theorem sc_z_spell:FnScope ["_law_model_here", "_law_sign", "_law_page", "_law_word", "_law_first", "_law_second"] ["_law_model_here", "_law_sign", "_law_page"] (defScope s_z_spell):=⟨rfl,rfl,rfl,by decide +kernel,rfl,by decide +kernel,by decide +kernel⟩
theorem sc_z_text:FnScope ["_law_model_here", "_law_cells", "_law_word", "_law_first", "_law_second", "_law_some"] ["_law_model_here", "_law_cells"] (defScope s_z_text):=⟨rfl,rfl,rfl,by decide +kernel,rfl,by decide +kernel,by decide +kernel⟩
theorem sc_z_pieces:FnScope ["_law_row", "_law_cell", "_law_pieces_here", "_law_at", "_law_number", "_law_size"] ["_law_row", "_law_cell"] (defScope s_z_pieces):=⟨rfl,rfl,rfl,by decide +kernel,rfl,by decide +kernel,by decide +kernel⟩
theorem sc_z_state:FnScope ["_law_reader", "_law_found"] ["_law_reader"] (defScope s_z_state):=⟨rfl,rfl,rfl,by decide +kernel,rfl,by decide +kernel,by decide +kernel⟩
theorem sc_z_behind:FnScope ["_law_model_here", "_law_text_here", "_law_found", "_law_sign", "_law_done", "_law_page", "_law_held", "_law_part", "_law_after", "_law_k"] ["_law_model_here", "_law_text_here"] (defScope s_z_behind):=⟨rfl,rfl,rfl,by decide +kernel,rfl,by decide +kernel,by decide +kernel⟩
theorem sc_z_fed:FnScope ["_law_reader", "_law_piece", "_law_text_here", "_law_behind_here", "_law_taken", "_law_told", "_law_handed", "_law_found", "_law_done", "_law_page", "_law_held"] ["_law_reader", "_law_piece", "_law_text_here", "_law_behind_here", "_law_taken", "_law_told"] (defScope s_z_fed):=⟨rfl,rfl,rfl,by decide +kernel,rfl,by decide +kernel,by decide +kernel⟩
theorem sc_z_over:FnScope ["_law_reader", "_law_taken", "_law_found"] ["_law_reader", "_law_taken"] (defScope s_z_over):=⟨rfl,rfl,rfl,by decide +kernel,rfl,by decide +kernel,by decide +kernel⟩
theorem sc_law:FnScope ["_law_script", "_law_model_here", "_law_text_here", "_law_behind_here", "_law_row", "_law_page", "_law_sign", "_law_part", "_law_tongue_here", "_law_way", "_law_first", "_law_second", "_law_ones", "_law_others", "_law_taken", "_law_told", "_law_k", "_law_at", "_law_some"] ["_law_script"] (defScope s_law):=⟨rfl,rfl,rfl,by decide +kernel,rfl,by decide +kernel,by decide +kernel⟩
set_option genInjectivity false in
structure Adr where
  a_Reader_init:Addr
  f_Reader_init:FuncData
  ud_Reader_init_0:Tok
  a_Reader_page:Addr
  f_Reader_page:FuncData
  a_Reader_held:Addr
  f_Reader_held:FuncData
  a_Reader_taken:Addr
  f_Reader_taken:FuncData
  a_Reader_faults:Addr
  f_Reader_faults:FuncData
  a_Reader_over:Addr
  f_Reader_over:FuncData
  a_Reader_feed:Addr
  f_Reader_feed:FuncData
  a_Reader_end:Addr
  f_Reader_end:FuncData
  a_Reader_take:Addr
  f_Reader_take:FuncData
  a_Reader_look_at_begun:Addr
  f_Reader_look_at_begun:FuncData
  a_Reader_meet_none:Addr
  f_Reader_meet_none:FuncData
  a_Reader_meet:Addr
  f_Reader_meet:FuncData
  a_Reader_note:Addr
  f_Reader_note:FuncData
  a_check_room:Addr
  f_check_room:FuncData
  a_together:Addr
  f_together:FuncData
  a_is_number:Addr
  f_is_number:FuncData
  a_is_byte:Addr
  f_is_byte:FuncData
  a_is_head:Addr
  f_is_head:FuncData
  a_is_tail:Addr
  f_is_tail:FuncData
  a_is_seen_byte:Addr
  f_is_seen_byte:FuncData
  a_is_sign:Addr
  f_is_sign:FuncData
  a_is_row:Addr
  f_is_row:FuncData
  a_Tongue_unit:Addr
  f_Tongue_unit:FuncData
  a_Tongue_whole:Addr
  f_Tongue_whole:FuncData
  ud_Tongue_whole_0:Tok
  a_Tongue_fill:Addr
  f_Tongue_fill:FuncData
  ud_Tongue_fill_0:Tok
  a_Tongue_look:Addr
  f_Tongue_look:FuncData
  ud_Tongue_look_0:Tok
  a_length_behind:Addr
  f_length_behind:FuncData
  a_bounds_behind:Addr
  f_bounds_behind:FuncData
  a_fits_behind:Addr
  f_fits_behind:FuncData
  a_missing:Addr
  f_missing:FuncData
  a_carried:Addr
  f_carried:FuncData
  a_LeadTongue_whole:Addr
  f_LeadTongue_whole:FuncData
  ud_LeadTongue_whole_0:Tok
  a_LeadTongue_fill:Addr
  f_LeadTongue_fill:FuncData
  ud_LeadTongue_fill_0:Tok
  a_sign_of:Addr
  f_sign_of:FuncData
  a_PairTongue_init:Addr
  f_PairTongue_init:FuncData
  ud_PairTongue_init_0:Tok
  a_PairTongue_unit:Addr
  f_PairTongue_unit:FuncData
  a_PairTongue_turned:Addr
  f_PairTongue_turned:FuncData
  a_PairTongue_units_in:Addr
  f_PairTongue_units_in:FuncData
  a_PairTongue_whole:Addr
  f_PairTongue_whole:FuncData
  ud_PairTongue_whole_0:Tok
  a_PairTongue_fill:Addr
  f_PairTongue_fill:FuncData
  ud_PairTongue_fill_0:Tok
  a_begins:Addr
  f_begins:FuncData
  a_places_in:Addr
  f_places_in:FuncData
  a_ShiftTongue_init:Addr
  f_ShiftTongue_init:FuncData
  a_ShiftTongue_row_beyond:Addr
  f_ShiftTongue_row_beyond:FuncData
  a_ShiftTongue_sign_of:Addr
  f_ShiftTongue_sign_of:FuncData
  a_ShiftTongue_whole:Addr
  f_ShiftTongue_whole:FuncData
  ud_ShiftTongue_whole_0:Tok
  a_ShiftTongue_fill:Addr
  f_ShiftTongue_fill:FuncData
  ud_ShiftTongue_fill_0:Tok
  a_is_entry:Addr
  f_is_entry:FuncData
  a_collide:Addr
  f_collide:FuncData
  a_check_table:Addr
  f_check_table:FuncData
  a_TableTongue_init:Addr
  f_TableTongue_init:FuncData
  a_TableTongue_enter:Addr
  f_TableTongue_enter:FuncData
  a_TableTongue_whole:Addr
  f_TableTongue_whole:FuncData
  ud_TableTongue_whole_0:Tok
  a_TableTongue_fill:Addr
  f_TableTongue_fill:FuncData
  ud_TableTongue_fill_0:Tok
  a_z_drawn:Addr
  f_z_drawn:FuncData
  a_z_is_number:Addr
  f_z_is_number:FuncData
  a_z_mixed:Addr
  f_z_mixed:FuncData
  a_z_gapped:Addr
  f_z_gapped:FuncData
  a_z_as_sign:Addr
  f_z_as_sign:FuncData
  a_z_lists:Addr
  f_z_lists:FuncData
  a_z_table:Addr
  f_z_table:FuncData
  a_z_model:Addr
  f_z_model:FuncData
  a_z_tongue:Addr
  f_z_tongue:FuncData
  a_z_lead_row:Addr
  f_z_lead_row:FuncData
  a_z_pair_row:Addr
  f_z_pair_row:FuncData
  a_z_spell:Addr
  f_z_spell:FuncData
  a_z_text:Addr
  f_z_text:FuncData
  a_z_pieces:Addr
  f_z_pieces:FuncData
  a_z_state:Addr
  f_z_state:FuncData
  a_z_behind:Addr
  f_z_behind:FuncData
  a_z_fed:Addr
  f_z_fed:FuncData
  a_z_over:Addr
  f_z_over:FuncData
  a_law:Addr
  f_law:FuncData
  c_Reader:Addr
  c_Tongue:Addr
  c_LeadTongue:Addr
  c_PairTongue:Addr
  c_ShiftTongue:Addr
  c_TableTongue:Addr
  u_BITS:Tok
  u_BYTE_BITS:Tok
  a_FILLS:Addr
  h_FILLS_0:Int
  a_FILLS_0:Addr
  a_FILLS_0_0:Addr
  a_FILLS_0_1:Addr
  a_FILLS_0_2:Addr
  a_FILLS_0_3:Addr
  a_FILLS_0_4:Addr
  h_FILLS_1:Int
  a_FILLS_1:Addr
  a_FILLS_1_0:Addr
  a_FILLS_1_1:Addr
  a_FILLS_1_2:Addr
  a_FILLS_1_3:Addr
  a_FILLS_1_4:Addr
  u_FIRST_BEHIND:Tok
  u_FIRST_HEAD:Tok
  u_FIRST_SEEN:Tok
  u_FIRST_TAIL:Tok
  u_FIRST_WIDE:Tok
  u_HALF_BITS:Tok
  u_LAST_BEHIND:Tok
  u_LAST_BYTE:Tok
  u_LAST_SEEN:Tok
  u_LAST_SIGN:Tok
  u_LAST_TAIL:Tok
  a_LEADS:Addr
  u_MOST_BYTES:Tok
  u_MOST_SIGNS:Tok
  u_MOST_TUPLES:Tok
  a_SECONDS:Addr
  a_SECONDS_0:Addr
  a_SECONDS_1:Addr
  a_SECONDS_2:Addr
  a_SECONDS_3:Addr
  a_SECONDS_4:Addr
  a_SHIFTS:Addr
structure Txt (w:World) (K:PySem.W.Frag) (mg:Str->Option Value) (t:Adr):Prop where
  F_Reader_init:FunD K "__init__" "Reader.__init__" s_Reader_init t.a_Reader_init t.f_Reader_init [.int 0 t.ud_Reader_init_0]
  bd_Reader_init:Binds K t.f_Reader_init ["self", "tongue", "place"] [.int 0 t.ud_Reader_init_0]
  b_Reader_init:Binds K t.f_Reader_init ["self", "tongue", "place"] []
  F_Reader_page:Fun K "page" "Reader.page" s_Reader_page t.a_Reader_page t.f_Reader_page
  b_Reader_page:Binds K t.f_Reader_page ["self"] []
  F_Reader_held:Fun K "held" "Reader.held" s_Reader_held t.a_Reader_held t.f_Reader_held
  b_Reader_held:Binds K t.f_Reader_held ["self"] []
  F_Reader_taken:Fun K "taken" "Reader.taken" s_Reader_taken t.a_Reader_taken t.f_Reader_taken
  b_Reader_taken:Binds K t.f_Reader_taken ["self"] []
  F_Reader_faults:Fun K "faults" "Reader.faults" s_Reader_faults t.a_Reader_faults t.f_Reader_faults
  b_Reader_faults:Binds K t.f_Reader_faults ["self"] []
  F_Reader_over:Fun K "over" "Reader.over" s_Reader_over t.a_Reader_over t.f_Reader_over
  b_Reader_over:Binds K t.f_Reader_over ["self"] []
  F_Reader_feed:Fun K "feed" "Reader.feed" s_Reader_feed t.a_Reader_feed t.f_Reader_feed
  b_Reader_feed:Binds K t.f_Reader_feed ["self", "row"] []
  F_Reader_end:Fun K "end" "Reader.end" s_Reader_end t.a_Reader_end t.f_Reader_end
  b_Reader_end:Binds K t.f_Reader_end ["self"] []
  F_Reader_take:Fun K "take" "Reader.take" s_Reader_take t.a_Reader_take t.f_Reader_take
  b_Reader_take:Binds K t.f_Reader_take ["self", "byte"] []
  F_Reader_look_at_begun:Fun K "look_at_begun" "Reader.look_at_begun" s_Reader_look_at_begun t.a_Reader_look_at_begun t.f_Reader_look_at_begun
  b_Reader_look_at_begun:Binds K t.f_Reader_look_at_begun ["self"] []
  F_Reader_meet_none:Fun K "meet_none" "Reader.meet_none" s_Reader_meet_none t.a_Reader_meet_none t.f_Reader_meet_none
  b_Reader_meet_none:Binds K t.f_Reader_meet_none ["self"] []
  F_Reader_meet:Fun K "meet" "Reader.meet" s_Reader_meet t.a_Reader_meet t.f_Reader_meet
  b_Reader_meet:Binds K t.f_Reader_meet ["self", "length", "kind"] []
  F_Reader_note:Fun K "note" "Reader.note" s_Reader_note t.a_Reader_note t.f_Reader_note
  b_Reader_note:Binds K t.f_Reader_note ["self", "length", "kind"] []
  F_check_room:Fun K "check_room" "check_room" s_check_room t.a_check_room t.f_check_room
  b_check_room:Binds K t.f_check_room ["number", "bits"] []
  g_check_room:mg "check_room" = some (.ref t.a_check_room)
  F_together:Fun K "together" "together" s_together t.a_together t.f_together
  b_together:Binds K t.f_together ["parts", "bits"] []
  g_together:mg "together" = some (.ref t.a_together)
  F_is_number:Fun K "is_number" "is_number" s_is_number t.a_is_number t.f_is_number
  b_is_number:Binds K t.f_is_number ["thing"] []
  g_is_number:mg "is_number" = some (.ref t.a_is_number)
  F_is_byte:Fun K "is_byte" "is_byte" s_is_byte t.a_is_byte t.f_is_byte
  b_is_byte:Binds K t.f_is_byte ["thing"] []
  g_is_byte:mg "is_byte" = some (.ref t.a_is_byte)
  F_is_head:Fun K "is_head" "is_head" s_is_head t.a_is_head t.f_is_head
  b_is_head:Binds K t.f_is_head ["number"] []
  g_is_head:mg "is_head" = some (.ref t.a_is_head)
  F_is_tail:Fun K "is_tail" "is_tail" s_is_tail t.a_is_tail t.f_is_tail
  b_is_tail:Binds K t.f_is_tail ["number"] []
  g_is_tail:mg "is_tail" = some (.ref t.a_is_tail)
  F_is_seen_byte:Fun K "is_seen_byte" "is_seen_byte" s_is_seen_byte t.a_is_seen_byte t.f_is_seen_byte
  b_is_seen_byte:Binds K t.f_is_seen_byte ["thing"] []
  g_is_seen_byte:mg "is_seen_byte" = some (.ref t.a_is_seen_byte)
  F_is_sign:Fun K "is_sign" "is_sign" s_is_sign t.a_is_sign t.f_is_sign
  b_is_sign:Binds K t.f_is_sign ["thing"] []
  g_is_sign:mg "is_sign" = some (.ref t.a_is_sign)
  F_is_row:Fun K "is_row" "is_row" s_is_row t.a_is_row t.f_is_row
  b_is_row:Binds K t.f_is_row ["thing"] []
  g_is_row:mg "is_row" = some (.ref t.a_is_row)
  F_Tongue_unit:Fun K "unit" "Tongue.unit" s_Tongue_unit t.a_Tongue_unit t.f_Tongue_unit
  b_Tongue_unit:Binds K t.f_Tongue_unit ["self"] []
  F_Tongue_whole:FunD K "whole" "Tongue.whole" s_Tongue_whole t.a_Tongue_whole t.f_Tongue_whole [.int 0 t.ud_Tongue_whole_0]
  bd_Tongue_whole:Binds K t.f_Tongue_whole ["self", "row", "page"] [.int 0 t.ud_Tongue_whole_0]
  b_Tongue_whole:Binds K t.f_Tongue_whole ["self", "row", "page"] []
  F_Tongue_fill:FunD K "fill" "Tongue.fill" s_Tongue_fill t.a_Tongue_fill t.f_Tongue_fill [.int 0 t.ud_Tongue_fill_0]
  bd_Tongue_fill:Binds K t.f_Tongue_fill ["self", "row", "page"] [.int 0 t.ud_Tongue_fill_0]
  b_Tongue_fill:Binds K t.f_Tongue_fill ["self", "row", "page"] []
  F_Tongue_look:FunD K "look" "Tongue.look" s_Tongue_look t.a_Tongue_look t.f_Tongue_look [.int 0 t.ud_Tongue_look_0]
  bd_Tongue_look:Binds K t.f_Tongue_look ["self", "begun", "page"] [.int 0 t.ud_Tongue_look_0]
  b_Tongue_look:Binds K t.f_Tongue_look ["self", "begun", "page"] []
  F_length_behind:Fun K "length_behind" "length_behind" s_length_behind t.a_length_behind t.f_length_behind
  b_length_behind:Binds K t.f_length_behind ["first"] []
  g_length_behind:mg "length_behind" = some (.ref t.a_length_behind)
  F_bounds_behind:Fun K "bounds_behind" "bounds_behind" s_bounds_behind t.a_bounds_behind t.f_bounds_behind
  b_bounds_behind:Binds K t.f_bounds_behind ["row", "place"] []
  g_bounds_behind:mg "bounds_behind" = some (.ref t.a_bounds_behind)
  F_fits_behind:Fun K "fits_behind" "fits_behind" s_fits_behind t.a_fits_behind t.f_fits_behind
  b_fits_behind:Binds K t.f_fits_behind ["row"] []
  g_fits_behind:mg "fits_behind" = some (.ref t.a_fits_behind)
  F_missing:Fun K "missing" "missing" s_missing t.a_missing t.f_missing
  b_missing:Binds K t.f_missing ["row"] []
  g_missing:mg "missing" = some (.ref t.a_missing)
  F_carried:Fun K "carried" "carried" s_carried t.a_carried t.f_carried
  b_carried:Binds K t.f_carried ["row"] []
  g_carried:mg "carried" = some (.ref t.a_carried)
  F_LeadTongue_whole:FunD K "whole" "LeadTongue.whole" s_LeadTongue_whole t.a_LeadTongue_whole t.f_LeadTongue_whole [.int 0 t.ud_LeadTongue_whole_0]
  bd_LeadTongue_whole:Binds K t.f_LeadTongue_whole ["self", "row", "page"] [.int 0 t.ud_LeadTongue_whole_0]
  b_LeadTongue_whole:Binds K t.f_LeadTongue_whole ["self", "row", "page"] []
  F_LeadTongue_fill:FunD K "fill" "LeadTongue.fill" s_LeadTongue_fill t.a_LeadTongue_fill t.f_LeadTongue_fill [.int 0 t.ud_LeadTongue_fill_0]
  bd_LeadTongue_fill:Binds K t.f_LeadTongue_fill ["self", "row", "page"] [.int 0 t.ud_LeadTongue_fill_0]
  b_LeadTongue_fill:Binds K t.f_LeadTongue_fill ["self", "row", "page"] []
  F_sign_of:Fun K "sign_of" "sign_of" s_sign_of t.a_sign_of t.f_sign_of
  b_sign_of:Binds K t.f_sign_of ["units"] []
  g_sign_of:mg "sign_of" = some (.ref t.a_sign_of)
  F_PairTongue_init:FunD K "__init__" "PairTongue.__init__" s_PairTongue_init t.a_PairTongue_init t.f_PairTongue_init [.str "high" t.ud_PairTongue_init_0]
  bd_PairTongue_init:Binds K t.f_PairTongue_init ["self", "order"] [.str "high" t.ud_PairTongue_init_0]
  b_PairTongue_init:Binds K t.f_PairTongue_init ["self", "order"] []
  F_PairTongue_unit:Fun K "unit" "PairTongue.unit" s_PairTongue_unit t.a_PairTongue_unit t.f_PairTongue_unit
  b_PairTongue_unit:Binds K t.f_PairTongue_unit ["self"] []
  F_PairTongue_turned:Fun K "turned" "PairTongue.turned" s_PairTongue_turned t.a_PairTongue_turned t.f_PairTongue_turned
  b_PairTongue_turned:Binds K t.f_PairTongue_turned ["self", "pair"] []
  F_PairTongue_units_in:Fun K "units_in" "PairTongue.units_in" s_PairTongue_units_in t.a_PairTongue_units_in t.f_PairTongue_units_in
  b_PairTongue_units_in:Binds K t.f_PairTongue_units_in ["self", "row"] []
  F_PairTongue_whole:FunD K "whole" "PairTongue.whole" s_PairTongue_whole t.a_PairTongue_whole t.f_PairTongue_whole [.int 0 t.ud_PairTongue_whole_0]
  bd_PairTongue_whole:Binds K t.f_PairTongue_whole ["self", "row", "page"] [.int 0 t.ud_PairTongue_whole_0]
  b_PairTongue_whole:Binds K t.f_PairTongue_whole ["self", "row", "page"] []
  F_PairTongue_fill:FunD K "fill" "PairTongue.fill" s_PairTongue_fill t.a_PairTongue_fill t.f_PairTongue_fill [.int 0 t.ud_PairTongue_fill_0]
  bd_PairTongue_fill:Binds K t.f_PairTongue_fill ["self", "row", "page"] [.int 0 t.ud_PairTongue_fill_0]
  b_PairTongue_fill:Binds K t.f_PairTongue_fill ["self", "row", "page"] []
  F_begins:Fun K "begins" "begins" s_begins t.a_begins t.f_begins
  b_begins:Binds K t.f_begins ["one", "other"] []
  g_begins:mg "begins" = some (.ref t.a_begins)
  F_places_in:Fun K "places_in" "places_in" s_places_in t.a_places_in t.f_places_in
  b_places_in:Binds K t.f_places_in ["signs", "which"] []
  g_places_in:mg "places_in" = some (.ref t.a_places_in)
  F_ShiftTongue_init:Fun K "__init__" "ShiftTongue.__init__" s_ShiftTongue_init t.a_ShiftTongue_init t.f_ShiftTongue_init
  b_ShiftTongue_init:Binds K t.f_ShiftTongue_init ["self", "first", "second"] []
  F_ShiftTongue_row_beyond:Fun K "row_beyond" "ShiftTongue.row_beyond" s_ShiftTongue_row_beyond t.a_ShiftTongue_row_beyond t.f_ShiftTongue_row_beyond
  b_ShiftTongue_row_beyond:Binds K t.f_ShiftTongue_row_beyond ["self", "page"] []
  F_ShiftTongue_sign_of:Fun K "sign_of" "ShiftTongue.sign_of" s_ShiftTongue_sign_of t.a_ShiftTongue_sign_of t.f_ShiftTongue_sign_of
  b_ShiftTongue_sign_of:Binds K t.f_ShiftTongue_sign_of ["self", "byte", "page"] []
  F_ShiftTongue_whole:FunD K "whole" "ShiftTongue.whole" s_ShiftTongue_whole t.a_ShiftTongue_whole t.f_ShiftTongue_whole [.int 0 t.ud_ShiftTongue_whole_0]
  bd_ShiftTongue_whole:Binds K t.f_ShiftTongue_whole ["self", "row", "page"] [.int 0 t.ud_ShiftTongue_whole_0]
  b_ShiftTongue_whole:Binds K t.f_ShiftTongue_whole ["self", "row", "page"] []
  F_ShiftTongue_fill:FunD K "fill" "ShiftTongue.fill" s_ShiftTongue_fill t.a_ShiftTongue_fill t.f_ShiftTongue_fill [.int 0 t.ud_ShiftTongue_fill_0]
  bd_ShiftTongue_fill:Binds K t.f_ShiftTongue_fill ["self", "row", "page"] [.int 0 t.ud_ShiftTongue_fill_0]
  b_ShiftTongue_fill:Binds K t.f_ShiftTongue_fill ["self", "row", "page"] []
  F_is_entry:Fun K "is_entry" "is_entry" s_is_entry t.a_is_entry t.f_is_entry
  b_is_entry:Binds K t.f_is_entry ["thing"] []
  g_is_entry:mg "is_entry" = some (.ref t.a_is_entry)
  F_collide:Fun K "collide" "collide" s_collide t.a_collide t.f_collide
  b_collide:Binds K t.f_collide ["one", "other"] []
  g_collide:mg "collide" = some (.ref t.a_collide)
  F_check_table:Fun K "check_table" "check_table" s_check_table t.a_check_table t.f_check_table
  b_check_table:Binds K t.f_check_table ["rows"] []
  g_check_table:mg "check_table" = some (.ref t.a_check_table)
  F_TableTongue_init:Fun K "__init__" "TableTongue.__init__" s_TableTongue_init t.a_TableTongue_init t.f_TableTongue_init
  b_TableTongue_init:Binds K t.f_TableTongue_init ["self", "rows"] []
  F_TableTongue_enter:Fun K "enter" "TableTongue.enter" s_TableTongue_enter t.a_TableTongue_enter t.f_TableTongue_enter
  b_TableTongue_enter:Binds K t.f_TableTongue_enter ["self", "sign", "row"] []
  F_TableTongue_whole:FunD K "whole" "TableTongue.whole" s_TableTongue_whole t.a_TableTongue_whole t.f_TableTongue_whole [.int 0 t.ud_TableTongue_whole_0]
  bd_TableTongue_whole:Binds K t.f_TableTongue_whole ["self", "row", "page"] [.int 0 t.ud_TableTongue_whole_0]
  b_TableTongue_whole:Binds K t.f_TableTongue_whole ["self", "row", "page"] []
  F_TableTongue_fill:FunD K "fill" "TableTongue.fill" s_TableTongue_fill t.a_TableTongue_fill t.f_TableTongue_fill [.int 0 t.ud_TableTongue_fill_0]
  bd_TableTongue_fill:Binds K t.f_TableTongue_fill ["self", "row", "page"] [.int 0 t.ud_TableTongue_fill_0]
  b_TableTongue_fill:Binds K t.f_TableTongue_fill ["self", "row", "page"] []
  F_z_drawn:Fun K "_law_drawn" "_law_drawn" s_z_drawn t.a_z_drawn t.f_z_drawn
  b_z_drawn:Binds K t.f_z_drawn ["_law_script", "_law_at"] []
  g_z_drawn:mg "_law_drawn" = some (.ref t.a_z_drawn)
  F_z_is_number:Fun K "_law_is_number" "_law_is_number" s_z_is_number t.a_z_is_number t.f_z_is_number
  b_z_is_number:Binds K t.f_z_is_number ["_law_found"] []
  g_z_is_number:mg "_law_is_number" = some (.ref t.a_z_is_number)
  F_z_mixed:Fun K "_law_mixed" "_law_mixed" s_z_mixed t.a_z_mixed t.f_z_mixed
  b_z_mixed:Binds K t.f_z_mixed ["_law_number", "_law_k"] []
  g_z_mixed:mg "_law_mixed" = some (.ref t.a_z_mixed)
  F_z_gapped:Fun K "_law_gapped" "_law_gapped" s_z_gapped t.a_z_gapped t.f_z_gapped
  b_z_gapped:Binds K t.f_z_gapped ["_law_number"] []
  g_z_gapped:mg "_law_gapped" = some (.ref t.a_z_gapped)
  F_z_as_sign:Fun K "_law_as_sign" "_law_as_sign" s_z_as_sign t.a_z_as_sign t.f_z_as_sign
  b_z_as_sign:Binds K t.f_z_as_sign ["_law_number"] []
  g_z_as_sign:mg "_law_as_sign" = some (.ref t.a_z_as_sign)
  F_z_lists:Fun K "_law_lists" "_law_lists" s_z_lists t.a_z_lists t.f_z_lists
  b_z_lists:Binds K t.f_z_lists ["_law_number"] []
  g_z_lists:mg "_law_lists" = some (.ref t.a_z_lists)
  F_z_table:Fun K "_law_table" "_law_table" s_z_table t.a_z_table t.f_z_table
  b_z_table:Binds K t.f_z_table ["_law_number"] []
  g_z_table:mg "_law_table" = some (.ref t.a_z_table)
  F_z_model:Fun K "_law_model" "_law_model" s_z_model t.a_z_model t.f_z_model
  b_z_model:Binds K t.f_z_model ["_law_cell"] []
  g_z_model:mg "_law_model" = some (.ref t.a_z_model)
  F_z_tongue:Fun K "_law_tongue" "_law_tongue" s_z_tongue t.a_z_tongue t.f_z_tongue
  b_z_tongue:Binds K t.f_z_tongue ["_law_model_here"] []
  g_z_tongue:mg "_law_tongue" = some (.ref t.a_z_tongue)
  F_z_lead_row:Fun K "_law_lead_row" "_law_lead_row" s_z_lead_row t.a_z_lead_row t.f_z_lead_row
  b_z_lead_row:Binds K t.f_z_lead_row ["_law_sign"] []
  g_z_lead_row:mg "_law_lead_row" = some (.ref t.a_z_lead_row)
  F_z_pair_row:Fun K "_law_pair_row" "_law_pair_row" s_z_pair_row t.a_z_pair_row t.f_z_pair_row
  b_z_pair_row:Binds K t.f_z_pair_row ["_law_sign", "_law_word"] []
  g_z_pair_row:mg "_law_pair_row" = some (.ref t.a_z_pair_row)
  F_z_spell:Fun K "_law_spell" "_law_spell" s_z_spell t.a_z_spell t.f_z_spell
  b_z_spell:Binds K t.f_z_spell ["_law_model_here", "_law_sign", "_law_page"] []
  g_z_spell:mg "_law_spell" = some (.ref t.a_z_spell)
  F_z_text:Fun K "_law_text" "_law_text" s_z_text t.a_z_text t.f_z_text
  b_z_text:Binds K t.f_z_text ["_law_model_here", "_law_cells"] []
  g_z_text:mg "_law_text" = some (.ref t.a_z_text)
  F_z_pieces:Fun K "_law_pieces" "_law_pieces" s_z_pieces t.a_z_pieces t.f_z_pieces
  b_z_pieces:Binds K t.f_z_pieces ["_law_row", "_law_cell"] []
  g_z_pieces:mg "_law_pieces" = some (.ref t.a_z_pieces)
  F_z_state:Fun K "_law_state" "_law_state" s_z_state t.a_z_state t.f_z_state
  b_z_state:Binds K t.f_z_state ["_law_reader"] []
  g_z_state:mg "_law_state" = some (.ref t.a_z_state)
  F_z_behind:Fun K "_law_behind" "_law_behind" s_z_behind t.a_z_behind t.f_z_behind
  b_z_behind:Binds K t.f_z_behind ["_law_model_here", "_law_text_here"] []
  g_z_behind:mg "_law_behind" = some (.ref t.a_z_behind)
  F_z_fed:Fun K "_law_fed" "_law_fed" s_z_fed t.a_z_fed t.f_z_fed
  b_z_fed:Binds K t.f_z_fed ["_law_reader", "_law_piece", "_law_text_here", "_law_behind_here", "_law_taken", "_law_told"] []
  g_z_fed:mg "_law_fed" = some (.ref t.a_z_fed)
  F_z_over:Fun K "_law_over" "_law_over" s_z_over t.a_z_over t.f_z_over
  b_z_over:Binds K t.f_z_over ["_law_reader", "_law_taken"] []
  g_z_over:mg "_law_over" = some (.ref t.a_z_over)
  F_law:Fun K "law" "law" s_law t.a_law t.f_law
  b_law:Binds K t.f_law ["_law_script"] []
  g_law:mg "law" = some (.ref t.a_law)
  gc_Reader:mg "Reader" = some (.ref t.c_Reader)
  cls_Reader:Cls K t.c_Reader
  mk_Reader:Mk K t.c_Reader t.a_Reader_init
  mt_Reader_page:Meth K t.c_Reader "page" t.a_Reader_page
  mt_Reader_held:Meth K t.c_Reader "held" t.a_Reader_held
  mt_Reader_taken:Meth K t.c_Reader "taken" t.a_Reader_taken
  mt_Reader_faults:Meth K t.c_Reader "faults" t.a_Reader_faults
  mt_Reader_over:Meth K t.c_Reader "over" t.a_Reader_over
  mt_Reader_feed:Meth K t.c_Reader "feed" t.a_Reader_feed
  mt_Reader_end:Meth K t.c_Reader "end" t.a_Reader_end
  mt_Reader_take:Meth K t.c_Reader "take" t.a_Reader_take
  mt_Reader_look_at_begun:Meth K t.c_Reader "look_at_begun" t.a_Reader_look_at_begun
  mt_Reader_meet_none:Meth K t.c_Reader "meet_none" t.a_Reader_meet_none
  mt_Reader_meet:Meth K t.c_Reader "meet" t.a_Reader_meet
  mt_Reader_note:Meth K t.c_Reader "note" t.a_Reader_note
  na_Reader_at_page:NoAttr K t.c_Reader "at_page"
  na_Reader_begun:NoAttr K t.c_Reader "begun"
  na_Reader_ended:NoAttr K t.c_Reader "ended"
  na_Reader_many:NoAttr K t.c_Reader "many"
  na_Reader_met:NoAttr K t.c_Reader "met"
  na_Reader_place:NoAttr K t.c_Reader "place"
  na_Reader_tongue:NoAttr K t.c_Reader "tongue"
  ty_Reader : ∀ H a dx fs,H a=some (.ins t.c_Reader dx fs)->TyOf K H (.ref a) (.ref t.c_Reader)
  gc_Tongue:mg "Tongue" = some (.ref t.c_Tongue)
  cls_Tongue:Cls K t.c_Tongue
  mk0_Tongue:Mk0 K t.c_Tongue
  mt_Tongue_unit:Meth K t.c_Tongue "unit" t.a_Tongue_unit
  mt_Tongue_whole:Meth K t.c_Tongue "whole" t.a_Tongue_whole
  mt_Tongue_fill:Meth K t.c_Tongue "fill" t.a_Tongue_fill
  mt_Tongue_look:Meth K t.c_Tongue "look" t.a_Tongue_look
  ty_Tongue : ∀ H a dx fs,H a=some (.ins t.c_Tongue dx fs)->TyOf K H (.ref a) (.ref t.c_Tongue)
  gc_LeadTongue:mg "LeadTongue" = some (.ref t.c_LeadTongue)
  cls_LeadTongue:Cls K t.c_LeadTongue
  mk0_LeadTongue:Mk0 K t.c_LeadTongue
  mt_LeadTongue_whole:Meth K t.c_LeadTongue "whole" t.a_LeadTongue_whole
  mt_LeadTongue_fill:Meth K t.c_LeadTongue "fill" t.a_LeadTongue_fill
  mt_LeadTongue_unit:Meth K t.c_LeadTongue "unit" t.a_Tongue_unit
  mt_LeadTongue_look:Meth K t.c_LeadTongue "look" t.a_Tongue_look
  ty_LeadTongue : ∀ H a dx fs,H a=some (.ins t.c_LeadTongue dx fs)->TyOf K H (.ref a) (.ref t.c_LeadTongue)
  gc_PairTongue:mg "PairTongue" = some (.ref t.c_PairTongue)
  cls_PairTongue:Cls K t.c_PairTongue
  mk_PairTongue:Mk K t.c_PairTongue t.a_PairTongue_init
  mt_PairTongue_unit:Meth K t.c_PairTongue "unit" t.a_PairTongue_unit
  mt_PairTongue_turned:Meth K t.c_PairTongue "turned" t.a_PairTongue_turned
  mt_PairTongue_units_in:Meth K t.c_PairTongue "units_in" t.a_PairTongue_units_in
  mt_PairTongue_whole:Meth K t.c_PairTongue "whole" t.a_PairTongue_whole
  mt_PairTongue_fill:Meth K t.c_PairTongue "fill" t.a_PairTongue_fill
  mt_PairTongue_look:Meth K t.c_PairTongue "look" t.a_Tongue_look
  na_PairTongue_order:NoAttr K t.c_PairTongue "order"
  ty_PairTongue : ∀ H a dx fs,H a=some (.ins t.c_PairTongue dx fs)->TyOf K H (.ref a) (.ref t.c_PairTongue)
  gc_ShiftTongue:mg "ShiftTongue" = some (.ref t.c_ShiftTongue)
  cls_ShiftTongue:Cls K t.c_ShiftTongue
  mk_ShiftTongue:Mk K t.c_ShiftTongue t.a_ShiftTongue_init
  mt_ShiftTongue_row_beyond:Meth K t.c_ShiftTongue "row_beyond" t.a_ShiftTongue_row_beyond
  mt_ShiftTongue_sign_of:Meth K t.c_ShiftTongue "sign_of" t.a_ShiftTongue_sign_of
  mt_ShiftTongue_whole:Meth K t.c_ShiftTongue "whole" t.a_ShiftTongue_whole
  mt_ShiftTongue_fill:Meth K t.c_ShiftTongue "fill" t.a_ShiftTongue_fill
  mt_ShiftTongue_unit:Meth K t.c_ShiftTongue "unit" t.a_Tongue_unit
  mt_ShiftTongue_look:Meth K t.c_ShiftTongue "look" t.a_Tongue_look
  na_ShiftTongue_lists:NoAttr K t.c_ShiftTongue "lists"
  na_ShiftTongue_places:NoAttr K t.c_ShiftTongue "places"
  na_ShiftTongue_shifted:NoAttr K t.c_ShiftTongue "shifted"
  ty_ShiftTongue : ∀ H a dx fs,H a=some (.ins t.c_ShiftTongue dx fs)->TyOf K H (.ref a) (.ref t.c_ShiftTongue)
  gc_TableTongue:mg "TableTongue" = some (.ref t.c_TableTongue)
  cls_TableTongue:Cls K t.c_TableTongue
  mk_TableTongue:Mk K t.c_TableTongue t.a_TableTongue_init
  mt_TableTongue_enter:Meth K t.c_TableTongue "enter" t.a_TableTongue_enter
  mt_TableTongue_whole:Meth K t.c_TableTongue "whole" t.a_TableTongue_whole
  mt_TableTongue_fill:Meth K t.c_TableTongue "fill" t.a_TableTongue_fill
  mt_TableTongue_unit:Meth K t.c_TableTongue "unit" t.a_Tongue_unit
  mt_TableTongue_look:Meth K t.c_TableTongue "look" t.a_Tongue_look
  na_TableTongue_rest_by_row:NoAttr K t.c_TableTongue "rest_by_row"
  na_TableTongue_row_by_sign:NoAttr K t.c_TableTongue "row_by_sign"
  na_TableTongue_sign_by_row:NoAttr K t.c_TableTongue "sign_by_row"
  ty_TableTongue : ∀ H a dx fs,H a=some (.ins t.c_TableTongue dx fs)->TyOf K H (.ref a) (.ref t.c_TableTongue)
  c_BITS:mg "BITS" = some (.int 6 t.u_BITS)
  c_BYTE_BITS:mg "BYTE_BITS" = some (.int 8 t.u_BYTE_BITS)
  c_FILLS:mg "FILLS" = some (.ref t.a_FILLS)
  d_FILLS:DctS K w t.a_FILLS [(t.h_FILLS_0, "high",t.a_FILLS_0),(t.h_FILLS_1, "low",t.a_FILLS_1)]
  q_FILLS_0 : ∀ H,SqT K H t.a_FILLS_0 (([t.a_FILLS_0_0,t.a_FILLS_0_1,t.a_FILLS_0_2,t.a_FILLS_0_3,t.a_FILLS_0_4]:List Addr).map V.ref)
  q_FILLS_0_0 : ∀ H,SqT K H t.a_FILLS_0_0 (([]:List Int).map V.int)
  q_FILLS_0_1 : ∀ H,SqT K H t.a_FILLS_0_1 (([0]:List Int).map V.int)
  q_FILLS_0_2 : ∀ H,SqT K H t.a_FILLS_0_2 (([0,0]:List Int).map V.int)
  q_FILLS_0_3 : ∀ H,SqT K H t.a_FILLS_0_3 (([220,0]:List Int).map V.int)
  q_FILLS_0_4 : ∀ H,SqT K H t.a_FILLS_0_4 (([0,220,0]:List Int).map V.int)
  q_FILLS_1 : ∀ H,SqT K H t.a_FILLS_1 (([t.a_FILLS_1_0,t.a_FILLS_1_1,t.a_FILLS_1_2,t.a_FILLS_1_3,t.a_FILLS_1_4]:List Addr).map V.ref)
  q_FILLS_1_0 : ∀ H,SqT K H t.a_FILLS_1_0 (([]:List Int).map V.int)
  q_FILLS_1_1 : ∀ H,SqT K H t.a_FILLS_1_1 (([0]:List Int).map V.int)
  q_FILLS_1_2 : ∀ H,SqT K H t.a_FILLS_1_2 (([220]:List Int).map V.int)
  q_FILLS_1_3 : ∀ H,SqT K H t.a_FILLS_1_3 (([0,0]:List Int).map V.int)
  q_FILLS_1_4 : ∀ H,SqT K H t.a_FILLS_1_4 (([0,220]:List Int).map V.int)
  c_FIRST_BEHIND:mg "FIRST_BEHIND" = some (.int 128 t.u_FIRST_BEHIND)
  c_FIRST_HEAD:mg "FIRST_HEAD" = some (.int 55296 t.u_FIRST_HEAD)
  c_FIRST_SEEN:mg "FIRST_SEEN" = some (.int 61184 t.u_FIRST_SEEN)
  c_FIRST_TAIL:mg "FIRST_TAIL" = some (.int 56320 t.u_FIRST_TAIL)
  c_FIRST_WIDE:mg "FIRST_WIDE" = some (.int 65536 t.u_FIRST_WIDE)
  c_HALF_BITS:mg "HALF_BITS" = some (.int 10 t.u_HALF_BITS)
  c_LAST_BEHIND:mg "LAST_BEHIND" = some (.int 191 t.u_LAST_BEHIND)
  c_LAST_BYTE:mg "LAST_BYTE" = some (.int 255 t.u_LAST_BYTE)
  c_LAST_SEEN:mg "LAST_SEEN" = some (.int 61439 t.u_LAST_SEEN)
  c_LAST_SIGN:mg "LAST_SIGN" = some (.int 1114111 t.u_LAST_SIGN)
  c_LAST_TAIL:mg "LAST_TAIL" = some (.int 57343 t.u_LAST_TAIL)
  c_LEADS:mg "LEADS" = some (.ref t.a_LEADS)
  q_LEADS : ∀ H,SqT K H t.a_LEADS (([0,0,192,224,240]:List Int).map V.int)
  l_LEADS : ∃ o,K.lookup t.a_LEADS=some o/\o.cls=.type "tuple"/\o.dict=none
  c_MOST_BYTES:mg "MOST_BYTES" = some (.int 6 t.u_MOST_BYTES)
  c_MOST_SIGNS:mg "MOST_SIGNS" = some (.int 250 t.u_MOST_SIGNS)
  c_MOST_TUPLES:mg "MOST_TUPLES" = some (.int 64 t.u_MOST_TUPLES)
  c_SECONDS:mg "SECONDS" = some (.ref t.a_SECONDS)
  d_SECONDS:DctK K t.a_SECONDS [(224,t.a_SECONDS_0),(237,t.a_SECONDS_1),(238,t.a_SECONDS_2),(240,t.a_SECONDS_3),(244,t.a_SECONDS_4)]
  q_SECONDS_0 : ∀ H,SqT K H t.a_SECONDS_0 (([160,191]:List Int).map V.int)
  q_SECONDS_1 : ∀ H,SqT K H t.a_SECONDS_1 (([128,159]:List Int).map V.int)
  q_SECONDS_2 : ∀ H,SqT K H t.a_SECONDS_2 (([128,187]:List Int).map V.int)
  q_SECONDS_3 : ∀ H,SqT K H t.a_SECONDS_3 (([144,191]:List Int).map V.int)
  q_SECONDS_4 : ∀ H,SqT K H t.a_SECONDS_4 (([128,143]:List Int).map V.int)
  c_SHIFTS:mg "SHIFTS" = some (.ref t.a_SHIFTS)
  q_SHIFTS : ∀ H,SqT K H t.a_SHIFTS (([254,255]:List Int).map V.int)
  l_SHIFTS : ∃ o,K.lookup t.a_SHIFTS=some o/\o.cls=.type "tuple"/\o.dict=none
  n_all:mg "all" = none
  n_any:mg "any" = none
  n_bool:mg "bool" = none
  n_enumerate:mg "enumerate" = none
  n_int:mg "int" = none
  n_isinstance:mg "isinstance" = none
  n_len:mg "len" = none
  n_list:mg "list" = none
  n_max:mg "max" = none
  n_range:mg "range" = none
  n_str:mg "str" = none
  n_sum:mg "sum" = none
  n_tuple:mg "tuple" = none
  n_zip:mg "zip" = none
end My
namespace My
open PySem L2
def isNum:V->Bool
  | .int _=>true
  | _=>false
def wthn (v:V) (lo hi:Int):Bool:=match v with
  | .int i=>decide (lo<=i) && decide (i<=hi)
  | _=>false
def isSig (v:V):Bool:=wthn v 0 1114111 && !(wthn v 55296 57343) && !(wthn v 61184 61439)
theorem isNum_int {v:V} (h:isNum v=true) : ∃ i,v=.int i:=by
  cases v <;> first | exact ⟨_,rfl⟩ | cases h
def sp1 (f:V->Bool) (K:PySem.W.Frag):Sp:=fun vs H Q _=>∃ v,vs=[v]/\Knd K H v/\Q (.bl (f v)) H
def spI (f:Int->Bool):Sp:=fun vs H Q _=>∃ i,vs=[.int i]/\Q (.bl (f i)) H
theorem len1 {f:V->Bool} {K:PySem.W.Frag} {x:Str} : ∀ vs H Q E,sp1 f K vs H Q E->vs.length=[x].length:=fun vs H Q E h=>by
  obtain ⟨v,rfl,_⟩:=h
  rfl
theorem lenI {f:Int->Bool} {x:Str} : ∀ vs H Q E,spI f vs H Q E->vs.length=[x].length:=fun vs H Q E h=>by
  obtain ⟨v,rfl,_⟩:=h
  rfl
def Sg (n:Int):Prop:=0<=n/\n<=1114111/\¬ (55296<=n/\n<=57343)/\¬ (61184<=n/\n<=61439)
theorem sg_iff (n:Int):isSig (.int n)=true ↔ Sg n:=by
  unfold isSig wthn Sg
  simp
  omega
def unitsOf (n:Int):List Int:=if n < 65536 then [n] else [55296+(n - 65536) / 1024,56320+(n - 65536)%1024]
def ub (h:Bool) (m:Int):List Int:=if h then [m / 256,m%256] else [m%256,m / 256]
def prow (h:Bool) (n:Int):List Int:=(unitsOf n).flatMap (ub h)
def ordOf (h:Bool):Str:=if h then "high" else "low"
theorem ub_len (h:Bool) (m:Int):(ub h m).length=2:=by unfold ub; cases h <;> rfl
theorem units_len (n:Int):(unitsOf n).length<=2:=by
  unfold unitsOf
  by_cases c:n < 65536
  · rw [if_pos c]; simp
  · rw [if_neg c]; simp
theorem units_in {n u:Int} (h:Sg n) (hu:u∈unitsOf n):0<=u/\u < 65536:=by
  obtain ⟨h0,h1,_,_⟩:=h
  unfold unitsOf at hu
  by_cases c:n < 65536
  · rw [if_pos c] at hu; simp at hu; omega
  · rw [if_neg c] at hu; simp at hu; omega
theorem flat_len (h:Bool) (us:List Int):(us.flatMap (ub h)).length=2*us.length:=by
  induction us with
  | nil=>rfl
  | cons a r ih=>rw [List.flatMap_cons,List.length_append,ub_len,ih,List.length_cons]; omega
theorem prow_len (h:Bool) (n:Int):(prow h n).length<=4:=by
  unfold prow; rw [flat_len]; have:=units_len n; omega
def u2 (h:Bool) (x y:Int):Int:=if h then x*256+y else y*256+x
def unitsIn (h:Bool):List Int->List Int
  | x :: y :: r=>u2 h x y :: unitsIn h r
  | _=>[]
def signOf:List Int->Option Int
  | [u]=>if isSig (.int u) then some u else none
  | [u,v]=>if (55296<=u/\u < 56320)/\56320<=v/\v<=57343 then some (65536+((u - 55296)*1024+(v - 56320))) else none
  | _=>none
def whl (h:Bool) (r:List Int):Option Int:=if r.length=2\/r.length=4 then signOf (unitsIn h r) else none
def oV (o:Option Int):V:=o.elim .non V.int
def fills (h:Bool):List (List Int):=if h then [[],[0],[0,0],[220,0],[0,220,0]] else [[],[0],[220],[0,0],[0,220]]
def Byts (r:List Int):Prop:=∀ b∈r,0<=b/\b<=255
theorem Byts.app {r s:List Int} (a:Byts r) (b:Byts s):Byts (r++s):=fun x hx=>by
  rcases List.mem_append.mp hx with h | h
  · exact a x h
  · exact b x h
theorem fills_byts {h:Bool} {f:List Int} (hf:f∈fills h):Byts f:=by
  unfold fills at hf
  cases h <;> simp at hf <;> rcases hf with rfl | rfl | rfl | rfl | rfl <;> intro x hx <;> simp at hx <;> omega
theorem fills_len {h:Bool} {f:List Int} (hf:f∈fills h):f.length<=3:=by
  unfold fills at hf
  cases h <;> simp at hf <;> rcases hf with rfl | rfl | rfl | rfl | rfl <;> decide
def lb (f:Int):Int:=if f < 128 then 1 else if f < 194\/244 < f then 0 else if f < 224 then 2 else if f < 240 then 3 else 4
def lo1 (f:Int):Int:=if f=224 then 160 else if f=240 then 144 else 128
def hi1 (f:Int):Int:=if f=237 then 159 else if f=238 then 187 else if f=244 then 143 else 191
def loB (f:Int) (p:Nat):Int:=if p=1 then lo1 f else 128
def hiB (f:Int) (p:Nat):Int:=if p=1 then hi1 f else 191
def Fits (f:Int) (r:List Int):Prop:=∀ i x,r[i]? = some x->loB f (i+1)<=x/\x<=hiB f (i+1)
def Beg (f:Int) (r:List Int):Prop:=(r.length:Int)+1<=lb f/\Fits f r
def Begs:List Int->Prop
  | []=>True
  | f :: r=>Beg f r
def Whl:List Int->Prop
  | []=>False
  | f :: r=>Beg f r/\(r.length:Int)+1=lb f
def flo:List Int->List Int
  | []=>[0]
  | f :: r=>(List.range (lb f - ((r.length:Int)+1)).toNat).map fun i=>loB f (r.length+1+i)
theorem lb_le (f:Int):0<=lb f/\lb f<=4:=by unfold lb; repeat' split <;> omega
theorem loB_ge (f:Int) (p:Nat):128<=loB f p:=by unfold loB lo1; repeat' split <;> omega
theorem hiB_le (f:Int) (p:Nat):hiB f p<=191:=by unfold hiB hi1; repeat' split <;> omega
theorem fits_iff (f:Int) (r:List Int):Fits f r ↔ (∀ x∈r,128<=x/\x<=191)/\∀ x,r[0]? = some x->lo1 f<=x/\x<=hi1 f:=by
  constructor
  · intro h
    refine ⟨fun x hx=>?_,fun x hx=>?_⟩
    · obtain ⟨i,hi⟩:=List.getElem?_of_mem hx
      have:=h i x hi
      have h1:=loB_ge f (i+1)
      have h2:=hiB_le f (i+1)
      omega
    · have:=h 0 x hx
      simpa [loB,hiB] using this
  · rintro ⟨h1,h2⟩ i x hx
    cases i with
    | zero=>simpa [loB,hiB] using h2 x hx
    | succ i =>
      have:=h1 x (List.mem_of_getElem? hx)
      simp only [loB,hiB]
      rw [if_neg (by omega),if_neg (by omega)]
      exact this
def row (n:Int):List Int:=if n < 128 then [n] else if n < 2048 then [192+n / 64,128+n%64] else if n < 65536 then [224+n / 4096,128+n / 64%64,128+n%64] else [240+n / 262144,128+n / 4096%64,128+n / 64%64,128+n%64]
theorem row_len (n:Int):1<=(row n).length/\(row n).length<=4:=by
  unfold row
  by_cases c1:n < 128
  · rw [if_pos c1]; simp
  rw [if_neg c1]
  by_cases c2:n < 2048
  · rw [if_pos c2]; simp
  rw [if_neg c2]
  by_cases c3:n < 65536
  · rw [if_pos c3]; simp
  rw [if_neg c3]; simp
def All2 {α β:Type} (R:α->β->Prop) (xs:List α) (ys:List β):Prop:=xs.length=ys.length/\∀ (i:Nat) x y,xs[i]? = some x->ys[i]? = some y->R x y
theorem All2.nil {α β:Type} {R:α->β->Prop}:All2 R [] []:=⟨rfl,fun i x y h=>by simp at h⟩
theorem All2.cons {α β:Type} {R:α->β->Prop} {x:α} {y:β} {xs:List α} {ys:List β} (h:R x y) (t:All2 R xs ys):All2 R (x :: xs) (y :: ys):=⟨by simp [t.1],fun i a b ha hb=>by
  cases i with
  | zero=>simp at ha hb; subst ha hb; exact h
  | succ i=>exact t.2 i a b (by simpa using ha) (by simpa using hb)⟩
theorem All2.imp {α β:Type} {R S:α->β->Prop} {xs:List α} {ys:List β} (h:All2 R xs ys) (k : ∀ x y,R x y->S x y):All2 S xs ys:=⟨h.1,fun i x y a b=>k x y (h.2 i x y a b)⟩
theorem All2.app {α β:Type} {R:α->β->Prop} {xs us:List α} {ys vs:List β} (h:All2 R xs ys) (k:All2 R us vs):All2 R (xs++us) (ys++vs):=by
  refine ⟨by simp [h.1,k.1],fun i x y a b=>?_⟩
  by_cases hi:i < xs.length
  · rw [List.getElem?_append_left hi] at a
    rw [List.getElem?_append_left (by rw [<- h.1]; exact hi)] at b
    exact h.2 i x y a b
  · rw [List.getElem?_append_right (by omega)] at a
    rw [List.getElem?_append_right (by rw [<- h.1]; omega),<- h.1] at b
    exact k.2 _ x y a b
theorem All2.right {α β:Type} {R:α->β->Prop} {xs:List α} {ys:List β} (h:All2 R xs ys) {i:Nat} {x:α} (hx:xs[i]? = some x) : ∃ y,ys[i]? = some y/\R x y:=by
  have hi:=(List.getElem?_eq_some_iff.mp hx).1
  have hy:ys[i]? = some (ys[i]'(by rw [<- h.1]; exact hi)):=by simp
  exact ⟨_,hy,h.2 i x _ hx hy⟩
theorem All2.left {α β:Type} {R:α->β->Prop} {xs:List α} {ys:List β} (h:All2 R xs ys) {i:Nat} {y:β} (hy:ys[i]? = some y) : ∃ x,xs[i]? = some x/\R x y:=by
  have hi:=(List.getElem?_eq_some_iff.mp hy).1
  have hx:xs[i]? = some (xs[i]'(by rw [h.1]; exact hi)):=by simp
  exact ⟨_,hx,h.2 i _ y hx hy⟩
def Kp (a:Addr) (H H':Hp):Prop:=∀ c u,c≠a->H c=some u->H' c=some u
theorem Kp.trans {a:Addr} {H H1 H2:Hp} (h:Kp a H H1) (h':Kp a H1 H2):Kp a H H2:=fun c u n e=>h' c u n (h c u n e)
theorem Kp.of {a:Addr} {H H1:Hp} (h:Same H H1):Kp a H H1:=fun c u _ e=>h c u e
theorem Kp.upd {a:Addr} {H:Hp} {o:HO}:Kp a H (upd H a o):=fun c u n e=>by rw [upd_ne n]; exact e
end My
namespace My
open PySem L2
section
variable {P:Program} {w:World} {K:PySem.W.Frag} {mg:Str->Option Value} {base:Heap} {t:Adr}
def spRoom:Sp:=fun vs H Q _=>∃ (n:Int) (b:Nat),vs=[.int n,.int (b:Int)]/\0<=n/\n < 2 ^ b/\Q .non H
theorem h_check_room (T:Txt w K mg t):Has P w K mg base "check_room" 1 t.a_check_room t.f_check_room ["number", "bits"] spRoom:=by
  refine ⟨T.g_check_room,T.F_check_room.kp,T.b_check_room,T.F_check_room.okQ sc_check_room (fun vs H Q E h=>by obtain ⟨n,b,rfl,_⟩:=h; rfl) fun cdv A outer s H vs Q E hr h=>?_⟩
  obtain ⟨n,b,rfl,h0,h1,k⟩:=h
  refine ⟨_,(q_pss_one (q_ps_if (q_PW_pt (q_pw_or (q_mt_cmp g_lt (q_vv 0) q_pe_int (nomark _)) (q_pw_or1 (q_mt_cmp g_gt (q_pe_bm0K (K:=K) rfl PySem.F.plainAttrs_int PySem.F.slot_int_bit_length PySem.F.type_int_bit_length mg_bits (q_vv 0)) (q_vv 1) (nomark _))))) (q_pss_one q_ps_never) q_pss_nil)),?_⟩
  refine ite2 (fun e=>absurd (of_decide_eq_true e) (by omega)) (fun _=>?_)
  refine ⟨rfl,?_⟩
  have hb:Builtin.Int.intBits n<=b:=intBits_le_iff.mpr (by
    have:(n.natAbs:Int) < ((2 ^ b:Nat):Int):=by rw [Int.natAbs_of_nonneg h0,Int.natCast_pow]; exact h1
    exact Int.ofNat_lt.mp this)
  refine ite2 (fun e=>absurd (of_decide_eq_true e) (by omega)) (fun _=>?_)
  exact k
def spTog (K:PySem.W.Frag):Sp:=fun vs H Q _=>∃ (a:Addr) (ps:List Int) (b:Nat),vs=[.ref a,.int (b:Int)]/\SqL K H a (ps.map V.int)/\(∀ p∈ps,0<=p/\p < 2 ^ b)/\b<=1000/\ps.length<=1000/\Q (.int (tog b ps)) H
theorem h_together (T:Txt w K mg t):Has P w K mg base "together" 2 t.a_together t.f_together ["parts", "bits"] (spTog K):=by
  refine ⟨T.g_together,T.F_together.kp,T.b_together,T.F_together.okQ sc_together (fun vs H Q E h=>by obtain ⟨a,ps,b,rfl,_⟩:=h; rfl) fun cdv A outer s H vs Q E hr h=>?_⟩
  obtain ⟨a,ps,b,rfl,h1,h2,hb,hl,k⟩:=h
  refine ⟨_,(q_pss_cons (q_ps_set (i:=2) sc_together.nd rfl (by first | exact Or.inl rfl | exact Or.inr rfl) q_pe_int)
      (q_pss_cons (q_ps_for PassesOwn.never rfl (q_pi_listK (K:=K) rfl (q_vv 0)) (q_pg_name (i:=3) sc_together.nd rfl (by first | exact Or.inl rfl | exact Or.inr rfl)) (q_pss_cons (q_ps_expr (q_cal (h_check_room T) hr (q_pa_c (q_vv 3) (q_pa_c (q_vv 1) q_pa_nil))))
      (q_pss_one (q_ps_set (i:=2) sc_together.nd rfl (by first | exact Or.inl rfl | exact Or.inr rfl) (q_pe_op (g_addK (K:=K) rfl) (q_pe_op g_shlB (q_vv 2) (q_vv 1)) (q_vv 3))))))
      (q_pss_one (q_ps_ret (q_vv 2))))),?_⟩
  refine ⟨a,rfl,⟨_,h1⟩,for_list (K:=K) (a:=a) (xs:=ps.map V.int) (fun i σ H'=>H'=H/\∃ v3,σ=[some (.ref a),some (.int b),some (.int (tog b (ps.take i))),v3]) ⟨rfl,_,rfl⟩ (fun i σ H' _ z=>by rw [z.1]; exact h1) ?_ ?_⟩
  · rintro i x σ H2 hi ⟨rfl,v3,rfl⟩
    obtain ⟨p,hp,rfl⟩ : ∃ p,ps[i]? = some p/\x=.int p:=by
      rw [List.getElem?_map] at hi
      cases e:ps[i]? with
      | none=>rw [e] at hi; cases hi
      | some p=>rw [e] at hi; cases hi; exact ⟨p,rfl,rfl⟩
    have hpm:=h2 p (List.mem_of_getElem? hp)
    refine ⟨p,b,rfl,hpm.1,hpm.2,?_⟩
    have hi':i < ps.length:=(List.getElem?_eq_some_iff.mp hp).1
    have ht:=tog_lt (b:=b) (ps:=ps.take i) fun q hq=>h2 q (List.mem_of_mem_take hq)
    have hbits:Builtin.Int.intBits (tog b (ps.take i))<=b*(ps.take i).length:=intBits_le_iff.mpr (by
      have:((tog b (ps.take i)).natAbs:Int) < ((2 ^ (b*(ps.take i).length):Nat):Int):=by rw [Int.natAbs_of_nonneg ht.1,Int.natCast_pow]; exact ht.2
      exact Int.ofNat_lt.mp this)
    have hl2:(ps.take i).length<=1000:=by rw [List.length_take]; omega
    have hbm:b*(ps.take i).length<=1000000:=Nat.mul_le_mul hb hl2
    refine ⟨⟨by omega,show ((Builtin.Int.intBits (tog b (ps.take i)):Nat):Int)+(b:Int)<=2 ^ 27 by omega⟩,?_⟩
    refine ⟨rfl,?_⟩
    have e:ps.take (i+1)=ps.take i++[p]:=by rw [List.take_add_one,hp]; rfl
    rw [e,tog_snoc]
    exact ⟨_,rfl⟩
  · rintro σ H2 ⟨rfl,v3,rfl⟩
    rw [List.length_map,List.take_length]
    exact k
theorem h_is_number (T:Txt w K mg t):Has P w K mg base "is_number" 1 t.a_is_number t.f_is_number ["thing"] (sp1 isNum K):=by
  refine ⟨T.g_is_number,T.F_is_number.kp,T.b_is_number,T.F_is_number.okQ sc_is_number len1 fun cdv A outer s H vs Q E hr h=>?_⟩
  obtain ⟨v,rfl,kd,k⟩:=h
  refine ⟨_,(q_pss_one (q_ps_ret (q_me_and (q_calB (c_instK (K:=K) rfl) T.n_isinstance PyProof.Rows.boot_isinstance (q_pa_c (q_vv 0) (q_pa_c (q_bty rfl T.n_int PyProof.Rows.boot_int) q_pa_nil))) (q_pe_one (q_me_not (q_calB (c_instK (K:=K) rfl) T.n_isinstance PyProof.Rows.boot_isinstance (q_pa_c (q_vv 0) (q_pa_c (q_bty rfl T.n_bool PyProof.Rows.boot_bool) q_pa_nil)))))))),?_⟩
  obtain ⟨ty,hty,e0⟩:=kd.isInt
  refine ⟨ty,_,hty,e0,?_⟩
  refine ite2 (fun e=>?_) (fun e=>?_)
  · obtain ⟨ty,hty,e0⟩:=kd.isBl
    refine ⟨ty,_,hty,e0,?_⟩
    exact fitB k (by cases v <;> simp_all [isNum,isIntV,isBlV])
  · exact fitB k (by cases v <;> simp_all [isNum,isIntV])
theorem h_is_head (T:Txt w K mg t):Has P w K mg base "is_head" 1 t.a_is_head t.f_is_head ["number"] (spI fun i=>decide (55296<=i) && decide (i < 56320)):=by
  refine ⟨T.g_is_head,T.F_is_head.kp,T.b_is_head,T.F_is_head.okQ sc_is_head lenI fun cdv A outer s H vs Q E hr h=>?_⟩
  obtain ⟨i,rfl,k⟩:=h
  refine ⟨_,(q_pss_one (q_ps_ret (q_me_chain g_le g_lt (q_gi T.c_FIRST_HEAD) (q_vv 0) (q_gi T.c_FIRST_TAIL)))),?_⟩
  refine ite2 (fun e1=>?_) (fun e1=>?_)
  · exact fitB k (by simp at *; omega)
  · exact fitB k (by simp at *; omega)
theorem h_is_tail (T:Txt w K mg t):Has P w K mg base "is_tail" 1 t.a_is_tail t.f_is_tail ["number"] (spI fun i=>decide (56320<=i) && decide (i<=57343)):=by
  refine ⟨T.g_is_tail,T.F_is_tail.kp,T.b_is_tail,T.F_is_tail.okQ sc_is_tail lenI fun cdv A outer s H vs Q E hr h=>?_⟩
  obtain ⟨i,rfl,k⟩:=h
  refine ⟨_,(q_pss_one (q_ps_ret (q_me_chain g_le g_le (q_gi T.c_FIRST_TAIL) (q_vv 0) (q_gi T.c_LAST_TAIL)))),?_⟩
  refine ite2 (fun e1=>?_) (fun e1=>?_)
  · exact fitB k (by simp at *; omega)
  · exact fitB k (by simp at *; omega)
theorem h_is_seen_byte (T:Txt w K mg t):Has P w K mg base "is_seen_byte" 2 t.a_is_seen_byte t.f_is_seen_byte ["thing"] (sp1 (fun v=>wthn v 61184 61439) K):=by
  refine ⟨T.g_is_seen_byte,T.F_is_seen_byte.kp,T.b_is_seen_byte,T.F_is_seen_byte.okQ sc_is_seen_byte len1 fun cdv A outer s H vs Q E hr h=>?_⟩
  obtain ⟨v,rfl,kd,k⟩:=h
  refine ⟨_,(q_pss_one (q_ps_ret (q_me_and (q_cal (h_is_number T) hr (q_pa_c (q_vv 0) q_pa_nil)) (q_pe_one (q_me_chain g_le g_le (q_gi T.c_FIRST_SEEN) (q_vv 0) (q_gi T.c_LAST_SEEN)))))),?_⟩
  refine ⟨v,rfl,kd,?_⟩
  refine ite2 (fun e=>?_) (fun e=>?_)
  · obtain ⟨i,rfl⟩:=isNum_int e
    refine ite2 (fun e1=>?_) (fun e1=>?_)
    · exact fitB k (by simp [wthn] at *; omega)
    · exact fitB k (by simp [wthn] at *; omega)
  · exact fitB k (by cases v <;> simp_all [isNum,wthn])
theorem h_is_sign (T:Txt w K mg t):Has P w K mg base "is_sign" 3 t.a_is_sign t.f_is_sign ["thing"] (sp1 isSig K):=by
  refine ⟨T.g_is_sign,T.F_is_sign.kp,T.b_is_sign,T.F_is_sign.okQ sc_is_sign len1 fun cdv A outer s H vs Q E hr h=>?_⟩
  obtain ⟨v,rfl,kd,k⟩:=h
  refine ⟨_,(q_pss_cons (q_ps_if (q_PW_pt (q_pw_or (q_pt_not (q_mt_val (q_cal (h_is_number T) hr (q_pa_c (q_vv 0) q_pa_nil)))) (q_pw_or1 (q_pt_not (q_mt_chain g_le g_le q_pe_int (q_vv 0) (q_gi T.c_LAST_SIGN)))))) (q_pss_one (q_ps_ret q_pe_bl)) q_pss_nil)
      (q_pss_one (q_ps_ret (q_me_not (q_me_or (q_cal (h_is_head T) hr (q_pa_c (q_vv 0) q_pa_nil)) (q_me_or (q_cal (h_is_tail T) hr (q_pa_c (q_vv 0) q_pa_nil)) (q_pe_one (q_cal (h_is_seen_byte T) hr (q_pa_c (q_vv 0) q_pa_nil))))))))),?_⟩
  refine ⟨v,rfl,kd,?_⟩
  refine ite2 (fun e=>?_) (fun e=>?_)
  · refine iteT ?_
    exact fitB k (by cases v <;> simp_all [isNum,wthn,isSig])
  · obtain ⟨i,rfl⟩:=isNum_int (v:=v) (by simpa using e)
    refine ite2 (fun e1=>?_) (fun e1=>?_)
    · refine ite2 (fun e2=>?_) (fun e2=>?_)
      · exact fitB k (by simp [isSig,wthn] at *; omega)
      · refine ⟨i,rfl,?_⟩
        refine ite2 (fun e3=>?_) (fun e3=>?_)
        · exact fitB k (by simp [isSig,wthn] at *; omega)
        · refine ⟨i,rfl,?_⟩
          refine ite2 (fun e4=>?_) (fun e4=>?_)
          · exact fitB k (by simp [isSig,wthn] at *; omega)
          · refine ⟨_,rfl,kd,?_⟩
            exact fitB k (by rw [Bool.eq_iff_iff]; simp [isSig,wthn] at *; omega)
    · refine iteT ?_
      exact fitB k (by simp [isSig,wthn] at *; omega)
def spSoP (K:PySem.W.Frag):Sp:=fun vs H Q _=>∃ (a:Addr) (us:List Int),vs=[.ref a]/\SqL K H a (us.map V.int)/\us.length<=2/\∀ H',Same H H'->Q (oV (signOf us)) H'
theorem two_of : ∀ {us:List Int},us.length=2->∃ u v,us=[u,v]
  | [u,v],_=>⟨u,v,rfl⟩
theorem tog10 (x y:Int):tog 10 [x,y]=x*1024+y:=by
  show (0*2 ^ 10+x)*2 ^ 10+y=_
  have:(2:Int) ^ 10=1024:=by decide
  rw [this]
  omega
theorem h_sign_of (T:Txt w K mg t):Has P w K mg base "sign_of" 4 t.a_sign_of t.f_sign_of ["units"] (spSoP K):=by
  refine ⟨T.g_sign_of,T.F_sign_of.kp,T.b_sign_of,T.F_sign_of.okQ sc_sign_of (fun vs H Q E h=>by obtain ⟨a,us,rfl,_⟩:=h; rfl) fun cdv A outer s H vs Q E hr h=>?_⟩
  obtain ⟨a,us,rfl,ha,hl,k⟩:=h
  have hu:=hr.units
  obtain ⟨o,eo⟩ : ∃ o,o=signOf us:=⟨_,rfl⟩
  rw [<- eo] at k
  obtain ⟨L,eL⟩ : ∃ L:Int,L=((us.map V.int).length:Int):=⟨_,rfl⟩
  have eL2:L=(us.length:Int):=by rw [eL,List.length_map]
  refine ⟨_,(q_pss_cons (q_ps_if (q_PW_pt (q_pw_and (q_mt_cmp (g_eqK (K:=K) rfl hu) (q_calB (c_lenK (K:=K) rfl) T.n_len PySem.boot_len (q_pa_c (q_vv 0) q_pa_nil)) q_pe_int (nomark _)) (q_pw_and1 (q_mt_val (q_cal (h_is_sign T) hr (q_pa_c (q_pe_ix (g_ixK (K:=K) rfl) (q_vv 0) q_pe_int (fun _ _=>rfl)) q_pa_nil)))))) (q_pss_one (q_ps_ret (q_pe_ix (g_ixK (K:=K) rfl) (q_vv 0) q_pe_int (fun _ _=>rfl)))) q_pss_nil)
      (q_pss_cons (q_ps_if (q_PW_pt (q_pw_and (q_mt_cmp (g_eqK (K:=K) rfl hu) (q_calB (c_lenK (K:=K) rfl) T.n_len PySem.boot_len (q_pa_c (q_vv 0) q_pa_nil)) q_pe_int (nomark _)) (q_pw_and (q_mt_val (q_cal (h_is_head T) hr (q_pa_c (q_pe_ix (g_ixK (K:=K) rfl) (q_vv 0) q_pe_int (fun _ _=>rfl)) q_pa_nil))) (q_pw_and1 (q_mt_val (q_cal (h_is_tail T) hr (q_pa_c (q_pe_ix (g_ixK (K:=K) rfl) (q_vv 0) q_pe_int (fun _ _=>rfl)) q_pa_nil))))))) (q_pss_one (q_ps_ret (q_pe_op (g_addK (K:=K) rfl) (q_gi T.c_FIRST_WIDE) (q_cal (h_together T) hr (q_pa_c (q_me_lst (q_pa_c (q_pe_op g_sub (q_pe_ix (g_ixK (K:=K) rfl) (q_vv 0) q_pe_int (fun _ _=>rfl)) (q_gi T.c_FIRST_HEAD)) (q_pa_c (q_pe_op g_sub (q_pe_ix (g_ixK (K:=K) rfl) (q_vv 0) q_pe_int (fun _ _=>rfl)) (q_gi T.c_FIRST_TAIL)) q_pa_nil))) (q_pa_c (q_gi T.c_HALF_BITS) q_pa_nil)))))) q_pss_nil)
      (q_pss_one (q_ps_ret q_pe_non)))),?_⟩
  have second : ∀ {Q1:Prop} {Q2:Prop} {b:Bool},(b=true->Q1)->(b=false->Q2)->if b=true then Q1 else Q2:=fun {Q1 Q2 b} x y=>by
    cases b with
    | true=>exact x rfl
    | false=>exact y rfl
  refine ⟨_,.inl ha,?_⟩
  rw [<- eL]
  refine ite2 (fun e=>?_) (fun e=>?_)
  · have e:L=1:=of_decide_eq_true e
    obtain ⟨u,rfl⟩ : ∃ u,us=[u]:=List.length_eq_one_iff.mp (by omega)
    refine ⟨_,.int u,.inl ha,atI_nat (j:=0) rfl,?_⟩
    refine ⟨.int u,rfl,.int u,?_⟩
    refine ite2 (fun e1=>?_) (fun e1=>?_)
    · refine ⟨_,.int u,.inl ha,atI_nat (j:=0) rfl,?_⟩
      have es:o=some u:=eo.trans (if_pos e1)
      subst es
      exact k _ (Same.refl _)
    · have es:o=none:=eo.trans (if_neg e1)
      subst es
      refine ⟨_,.inl ha,?_⟩
      rw [<- eL]
      refine ite2 (fun e2=>absurd (of_decide_eq_true e2) (by omega)) (fun _=>?_)
      exact k _ (Same.refl _)
  have e : ¬ L=1:=fun z=>e (decide_eq_true z)
  refine ⟨_,.inl ha,?_⟩
  rw [<- eL]
  refine ite2 (fun e2=>?_) (fun e2=>?_)
  · have e2:L=2:=of_decide_eq_true e2
    obtain ⟨u,v,rfl⟩ : ∃ u v,us=[u,v]:=two_of (by omega)
    refine ⟨_,.int u,.inl ha,atI_nat (j:=0) rfl,?_⟩
    refine ⟨u,rfl,?_⟩
    refine ite2 (fun e1=>?_) (fun e1=>?_)
    · simp only [Bool.and_eq_true,decide_eq_true_eq] at e1
      refine ⟨_,.int v,.inl ha,atI_nat (j:=1) rfl,?_⟩
      refine ⟨v,rfl,?_⟩
      refine ite2 (fun e2=>?_) (fun e2=>?_)
      · simp only [Bool.and_eq_true,decide_eq_true_eq] at e2
        have es:o=some (65536+((u - 55296)*1024+(v - 56320))):=eo.trans (if_pos ⟨e1,e2⟩)
        subst es
        refine ⟨_,.int u,.inl ha,atI_nat (j:=0) rfl,?_⟩
        refine ⟨_,.int v,.inl ha,atI_nat (j:=1) rfl,?_⟩
        refine ⟨sz rfl,fun p1 H1 g1=>?_⟩
        have et:=tog10 (u - 55296) (v - 56320)
        have g2:SqL K H1 p1 (([u - 55296,v - 56320]:List Int).map V.int):=g1.lst
        obtain ⟨ps,e5⟩ : ∃ ps:List Int,ps=[u - 55296,v - 56320]:=⟨_,rfl⟩
        rw [<- e5] at g2 et
        have e10:(2:Int) ^ 10=1024:=by decide
        refine ⟨p1,ps,10,rfl,g2,?_,by decide,by rw [e5]; simp,?_⟩
        · intro x hx
          rw [e5] at hx
          simp at hx
          rcases hx with rfl | rfl <;> omega
        · rw [et]
          exact k _ g1.sm
      · have es:o=none:=eo.trans (if_neg fun z=>e2 (by simp; exact z.2))
        subst es
        exact k _ (Same.refl _)
    · have es:o=none:=eo.trans (if_neg fun z=>e1 (by simp; exact z.1))
      subst es
      exact k _ (Same.refl _)
  · have e2 : ¬ L=2:=fun z=>e2 (decide_eq_true z)
    have z0:us=[]:=List.length_eq_zero_iff.mp (by omega)
    subst z0
    subst eo
    exact k _ (Same.refl _)
def Po (t:Adr) (H:Hp) (o:Addr) (h:Bool):Prop:=∃ dx,H o=some (.ins t.c_PairTongue dx [("order",.str (ordOf h))])
theorem Po.mono {H H':Hp} {o:Addr} {h:Bool} (p:Po t H o h) (s:Same H H'):Po t H' o h:=let ⟨dx,z⟩:=p; ⟨dx,s _ _ z⟩
def spInitP (t:Adr):Sp:=fun vs H Q _=>∃ (x dx:Addr) (h:Bool),vs=[.ref x,.str (ordOf h)]/\H x=some (.ins t.c_PairTongue dx [])/\Q .non (upd H x (.ins t.c_PairTongue dx [("order",.str (ordOf h))]))
theorem ok_initP (T:Txt w K mg t):FnOk P w K mg base CX0 1 t.a_PairTongue_init t.f_PairTongue_init ["self", "order"] (spInitP t):=by
  refine T.F_PairTongue_init.okQ sc_PairTongue_init (fun vs H Q E h=>by obtain ⟨x,dx,v,rfl,_⟩:=h; rfl) fun cdv A outer s H vs Q E hr h=>?_
  obtain ⟨x,dx,h,rfl,hx,k⟩:=h
  refine ⟨_,(q_pss_cons (q_ps_if (q_PW_pt (q_pw_or (q_pt_not (q_mt_val (q_calB (c_instK (K:=K) rfl) T.n_isinstance PyProof.Rows.boot_isinstance (q_pa_c (q_vv 1) (q_pa_c (q_bty rfl T.n_str PyProof.Rows.boot_str) q_pa_nil))))) (q_pw_or1 (q_mt_cmp (g_notinS (K:=K) rfl rfl T.d_FILLS) (q_vv 1) (q_pe_glob (v:=.ref t.a_FILLS) rfl T.c_FILLS rfl) (by with_unfolding_all rfl))))) (q_pss_one q_ps_never) q_pss_nil)
      (q_pss_one (q_ps_fldK (K:=K) rfl (q_vv 0) (q_vv 1)))),?_⟩
  refine ⟨_,_,.str _,by with_unfolding_all rfl,?_⟩
  refine ⟨_,rfl,rfl,?_⟩
  refine ite2 (fun e=>absurd e (by cases h <;> simp [gotS,ordOf])) (fun _=>?_)
  exact ⟨x,_,dx,_,rfl,hx,T.cls_PairTongue,T.na_PairTongue_order,by decide,k⟩
theorem hk_PairTongue_0 (T:Txt w K mg t):HasKD P w K mg base "PairTongue" t.c_PairTongue 1 t.a_PairTongue_init t.f_PairTongue_init ["self", "order"] [] (spInitP t):=⟨T.gc_PairTongue,T.mk_PairTongue,⟨[],T.b_PairTongue_init,.nil⟩,ok_initP T⟩
theorem h_is_byte (T:Txt w K mg t):Has P w K mg base "is_byte" 2 t.a_is_byte t.f_is_byte ["thing"] (sp1 (fun v=>wthn v 0 255) K):=by
  refine ⟨T.g_is_byte,T.F_is_byte.kp,T.b_is_byte,T.F_is_byte.okQ sc_is_byte len1 fun cdv A outer s H vs Q E hr h=>?_⟩
  obtain ⟨v,rfl,kd,k⟩:=h
  refine ⟨_,(q_pss_one (q_ps_ret (q_me_and (q_cal (h_is_number T) hr (q_pa_c (q_vv 0) q_pa_nil)) (q_pe_one (q_me_chain g_le g_le q_pe_int (q_vv 0) (q_gi T.c_LAST_BYTE)))))),?_⟩
  refine ⟨v,rfl,kd,?_⟩
  refine ite2 (fun e=>?_) (fun e=>?_)
  · obtain ⟨i,rfl⟩:=isNum_int e
    refine ite2 (fun e1=>?_) (fun e1=>?_)
    · exact fitB k (by simp [wthn] at *; omega)
    · exact fitB k (by simp [wthn] at *; omega)
  · exact fitB k (by cases v <;> simp_all [isNum,wthn])
def spTurn (t:Adr):Sp:=fun vs H Q _=>∃ (o a:Addr) (h:Bool) (x y:Int),vs=[.ref o,.ref a]/\Po t H o h/\H a=some (.lst [.int x,.int y])/\∀ p H',Same H H'->H' p=some (.lst ((if h then [x,y] else [y,x]).map V.int))->Q (.ref p) H'
theorem h_PairTongue_turned (T:Txt w K mg t):HasM P w K mg base t.c_PairTongue "turned" 1 t.a_PairTongue_turned t.f_PairTongue_turned ["self", "pair"] (spTurn t):=by
  refine ⟨T.cls_PairTongue,T.mt_PairTongue_turned,T.b_PairTongue_turned,T.F_PairTongue_turned.okQ sc_PairTongue_turned (fun vs H Q E h=>by obtain ⟨o,a,h,x,y,rfl,_⟩:=h; rfl) fun cdv A outer s H vs Q E hr h=>?_⟩
  obtain ⟨o,a,h,x,y,rfl,⟨dx,ho⟩,ha,k⟩:=h
  have hu:=hr.units
  refine ⟨_,(q_pss_one (q_ps_ret (q_pe_ifExp (q_mt_cmp (g_eqK (K:=K) rfl hu) (q_fldK (K:=K) rfl (q_vv 0)) q_pe_str (nomark _)) (q_vv 1) (q_me_lst (q_pa_c (q_pe_ix (g_ixK (K:=K) rfl) (q_vv 1) q_pe_int (fun _ _=>rfl)) (q_pa_c (q_pe_ix (g_ixK (K:=K) rfl) (q_vv 1) q_pe_int (fun _ _=>rfl)) q_pa_nil)))))),?_⟩
  refine ⟨o,_,dx,_,_,rfl,ho,T.cls_PairTongue,T.na_PairTongue_order,rfl,?_⟩
  cases h with
  | true =>
    refine ⟨_,_,DataV.str _,DataV.str _,by decide +kernel,by decide +kernel,?_⟩
    refine ite2 (fun _=>?_) (fun e=>absurd (by decide +kernel) e)
    exact k _ _ (Same.refl _) ha
  | false =>
    refine ⟨_,_,DataV.str _,DataV.str _,by decide +kernel,by decide +kernel,?_⟩
    refine ite2 (fun e=>absurd e (by decide +kernel)) (fun _=>?_)
    refine ⟨_,.int y,.inl (.of ha),atI_nat (j:=1) rfl,?_⟩
    refine ⟨_,.int x,.inl (.of ha),atI_nat (j:=0) rfl,?_⟩
    exact ⟨sz rfl,fun p H' g=>k _ _ g.sm g.at_⟩
def spUin (K:PySem.W.Frag) (t:Adr):Sp:=fun vs H Q _=>∃ (o a:Addr) (h:Bool) (r:List Int),vs=[.ref o,.ref a]/\Po t H o h/\SqL K H a (r.map V.int)/\(r.length=2\/r.length=4)/\Byts r/\∀ p H',Gro H p (.lst ((unitsIn h r).map V.int)) H'->Q (.ref p) H'
theorem h_PairTongue_units_in (T:Txt w K mg t):HasM P w K mg base t.c_PairTongue "units_in" 3 t.a_PairTongue_units_in t.f_PairTongue_units_in ["self", "row"] (spUin K t):=by
  refine ⟨T.cls_PairTongue,T.mt_PairTongue_units_in,T.b_PairTongue_units_in,T.F_PairTongue_units_in.okQ sc_PairTongue_units_in (fun vs H Q E h=>by obtain ⟨o,a,h,r,rfl,_⟩:=h; rfl) fun cdv A outer s H vs Q E hr h=>?_⟩
  obtain ⟨o,a,h,r,rfl,po,ha,hl,hb,k⟩:=h
  have hu:=hr.units
  refine ⟨_,(q_pss_one (q_ps_ret (q_pe_comp rfl (CompScope.of (fns:=(defScope s_PairTongue_units_in).names) (N:=["self", "row"]) (Nc:=["at", "self", "row"]) (nv:=1) (caps:=[0,1]) rfl rfl (by decide +kernel)) (q_pi_range3 rfl T.n_range (q_pa_c q_pe_int (q_pa_c (q_calB (c_lenK (K:=K) rfl) T.n_len PySem.boot_len (q_pa_c (q_vv 1) q_pa_nil)) (q_pa_c q_pe_int q_pa_nil)))) (fun _ _ _ _=>(q_pg_name (i:=0) (show List.Nodup (["at", "self", "row"]:List Str) by decide +kernel) rfl (Or.inl rfl) (Or.inr rfl))) (fun _ _ _ _=>q_pts_nil) (fun _ _ _ _=>(q_cal (h_together T) hr (q_pa_c (q_meth (h_PairTongue_turned T) hr (q_vv 1) (q_pa_c (q_pe_slice (g_slK (K:=K) rfl) (q_vv 2) (q_po_some (q_vv 0)) (q_po_some (q_pe_op (g_addK (K:=K) rfl) (q_vv 0) q_pe_int))) q_pa_nil)) (q_pa_c (q_gi T.c_BYTE_BITS) q_pa_nil))))))),?_⟩
  refine ⟨_,.inl ha,?_⟩
  refine ⟨r.length,2,by rw [List.length_map]; rfl,by omega,by decide,by decide,?_⟩
  have hn:(unitsIn h r).length=(r.length+(2 - 1)) / 2:=by
    match r,hl with
    | [x,y],_=>simp [unitsIn]
    | [x,y,z,v],_=>simp [unitsIn]
  refine comp_toR3 (cs:=[some (.ref o),some (.ref a)]) ((unitsIn h r).map V.int) (by rw [List.length_map,hn]) (szl (by omega)) (fun i y H2 N hi hy s2 hN=>?_) k
  obtain ⟨x1,x2,ec,m1,m2,rfl⟩ : ∃ x1 x2,cutL r (some ((0:Int)+(i:Int)*((2:Nat):Int))) (some ((0:Int)+(i:Int)*((2:Nat):Int)+2))=[x1,x2]/\x1∈r/\x2∈r/\y=.int (u2 h x1 x2):=by
    match r,hl,hi,hy with
    | [x,z],_,hi,hy =>
      have:i=0:=by simp at hi; omega
      subst this
      cases hy
      exact ⟨x,z,rfl,by simp,by simp,rfl⟩
    | [x,z,v,u],_,hi,hy =>
      have:i=0\/i=1:=by simp at hi; omega
      rcases this with rfl | rfl
      · cases hy
        exact ⟨x,z,rfl,by simp,by simp,rfl⟩
      · cases hy
        exact ⟨v,u,rfl,by simp,by simp,rfl⟩
  obtain ⟨dx,ho⟩:=po.mono s2
  refine ⟨o,dx,_,rfl,ho,rfl,?_⟩
  refine ⟨_,rfl,_,rfl,_,s2.seq ha,fun p3 H3 g3=>?_⟩
  rw [cutV_ints,ec] at g3
  refine ⟨o,p3,h,x1,x2,rfl,⟨dx,g3.sm _ _ ho⟩,g3.at_,fun p4 H4 s4 h4=>?_⟩
  have b1:=hb x1 m1
  have b2:=hb x2 m2
  have e8:(2:Int) ^ 8=256:=by decide
  refine ⟨p4,if h then [x1,x2] else [x2,x1],8,rfl,.of h4,?_,by decide,by cases h <;> simp,?_⟩
  · intro q hq
    cases h <;> simp at hq <;> rcases hq with rfl | rfl <;> omega
  · have et:tog 8 (if h then [x1,x2] else [x2,x1])=u2 h x1 x2:=by cases h <;> simp [tog,u2]
    rw [et]
    exact hN _ (g3.sm.trans s4)
theorem units_in_len (h:Bool) : ∀ r:List Int,r.length=2\/r.length=4->(unitsIn h r).length<=2
  | [_,_],_=>by simp [unitsIn]
  | [_,_,_,_],_=>by simp [unitsIn]
def spWhP (K:PySem.W.Frag) (t:Adr):Sp:=fun vs H Q _=>∃ (o a:Addr) (h:Bool) (r:List Int),vs=[.ref o,.ref a,.int 0]/\Po t H o h/\SqL K H a (r.map V.int)/\Byts r/\r.length<=1000/\(∀ n,whl h r=some n->∀ p H',Gro H p (.tup [.int n,.int 0]) H'->Q (.ref p) H')/\(whl h r=none->∀ H',Same H H'->Q .non H')
theorem ok_wholeP (T:Txt w K mg t):FnOk P w K mg base CX0 5 t.a_PairTongue_whole t.f_PairTongue_whole ["self", "row", "page"] (spWhP K t):=by
  refine T.F_PairTongue_whole.okQ sc_PairTongue_whole (fun vs H Q E h=>by obtain ⟨o,a,h,r,rfl,_⟩:=h; rfl) fun cdv A outer s H vs Q E hr h=>?_
  obtain ⟨o,a,h,r,rfl,po,ha,hb,hl,k1,k2⟩:=h
  have hu:=hr.units
  refine ⟨_,(q_pss_cons (q_ps_if (q_mt_cmp (g_notinK (K:=K) rfl) (q_calB (c_lenK (K:=K) rfl) T.n_len PySem.boot_len (q_pa_c (q_vv 1) q_pa_nil)) (q_me_tup (q_pa_c q_pe_int (q_pa_c q_pe_int q_pa_nil))) (by with_unfolding_all rfl)) (q_pss_one (q_ps_ret q_pe_non)) q_pss_nil)
      (q_pss_cons (q_ps_set (i:=3) sc_PairTongue_whole.nd rfl (by first | exact Or.inl rfl | exact Or.inr rfl) (q_cal (h_sign_of T) hr (q_pa_c (q_meth (h_PairTongue_units_in T) hr (q_vv 0) (q_pa_c (q_vv 1) q_pa_nil)) q_pa_nil)))
      (q_pss_one (q_ps_ret (q_pe_ifExp (q_mt_cmp g_is (q_vv 3) q_pe_non (nomark _)) q_pe_non (q_me_tup (q_pa_c (q_vv 3) (q_pa_c (q_vv 2) q_pa_nil)))))))),?_⟩
  refine ⟨_,.inl ha,?_⟩
  refine ⟨sz rfl,fun p1 H1 g1=>?_⟩
  refine ⟨_,.inr g1.tup,rfl,rfl,?_⟩
  have ei:inV (.int ((r.map V.int).length:Int)) [V.int 2,V.int 4]=decide (r.length=2\/r.length=4):=by
    rw [List.length_map,Bool.eq_iff_iff]
    simp [inV,eqV]
    omega
  refine ite2 (fun e=>?_) (fun e=>?_)
  · have e:(!inV (.int ((r.map V.int).length:Int)) [V.int 2,V.int 4])=true:=e
    rw [ei] at e
    have c : ¬ (r.length=2\/r.length=4):=by simpa using e
    exact k2 (if_neg c) _ g1.sm
  have e : ¬ (!inV (.int ((r.map V.int).length:Int)) [V.int 2,V.int 4])=true:=e
  rw [ei] at e
  have c:r.length=2\/r.length=4:=by simp at e; omega
  have ew:whl h r=signOf (unitsIn h r):=if_pos c
  obtain ⟨dx,ho⟩:=po.mono g1.sm
  refine ⟨o,dx,_,rfl,ho,rfl,?_⟩
  refine ⟨o,a,h,r,rfl,⟨dx,ho⟩,g1.sm.seq ha,c,hb,fun p2 H2 g2=>?_⟩
  refine ⟨p2,unitsIn h r,rfl,g2.lst,units_in_len h r c,fun H3 s3=>?_⟩
  have sA:=g1.sm.trans (g2.sm.trans s3)
  rw [ew] at k1 k2
  cases es:signOf (unitsIn h r) with
  | none=>exact k2 es _ sA
  | some n=>exact ⟨sz rfl,fun p4 H4 g4=>k1 n es p4 H4 (g4.after sA)⟩
theorem h_PairTongue_whole_0 (T:Txt w K mg t):HasMD P w K mg base t.c_PairTongue "whole" 5 t.a_PairTongue_whole t.f_PairTongue_whole ["self", "row", "page"] [] (spWhP K t) :=
  ⟨T.cls_PairTongue,T.mt_PairTongue_whole,⟨_,T.b_PairTongue_whole,.nil⟩,ok_wholeP T⟩
def fil (h:Bool) (r:List Int):Option (List Int):=(fills h).find? fun f=>(whl h (r++f)).isSome
def spFilP (K:PySem.W.Frag) (t:Adr):Sp:=fun vs H Q _=>∃ (o a:Addr) (h:Bool) (r:List Int),vs=[.ref o,.ref a,.int 0]/\Po t H o h/\SqL K H a (r.map V.int)/\Byts r/\r.length<=900/\(∀ f,fil h r=some f->∀ p H',Gro H p (.lst (f.map V.int)) H'->Q (.ref p) H')/\(fil h r=none->∀ H',Same H H'->Q .non H')
def fAdr (t:Adr) (h:Bool):List Addr:=if h then [t.a_FILLS_0_0,t.a_FILLS_0_1,t.a_FILLS_0_2,t.a_FILLS_0_3,t.a_FILLS_0_4] else [t.a_FILLS_1_0,t.a_FILLS_1_1,t.a_FILLS_1_2,t.a_FILLS_1_3,t.a_FILLS_1_4]
theorem f_at (T:Txt w K mg t) (h:Bool) {i:Nat} {x:V} (hx:((fAdr t h).map V.ref)[i]? = some x) : ∃ b f,x=.ref b/\(fills h)[i]? = some f/\∀ H,SqT K H b (f.map V.int):=by
  cases h with
  | true =>
    match i,hx with
    | 0,hx=>cases hx; exact ⟨_,_,rfl,rfl,T.q_FILLS_0_0⟩
    | 1,hx=>cases hx; exact ⟨_,_,rfl,rfl,T.q_FILLS_0_1⟩
    | 2,hx=>cases hx; exact ⟨_,_,rfl,rfl,T.q_FILLS_0_2⟩
    | 3,hx=>cases hx; exact ⟨_,_,rfl,rfl,T.q_FILLS_0_3⟩
    | 4,hx=>cases hx; exact ⟨_,_,rfl,rfl,T.q_FILLS_0_4⟩
  | false =>
    match i,hx with
    | 0,hx=>cases hx; exact ⟨_,_,rfl,rfl,T.q_FILLS_1_0⟩
    | 1,hx=>cases hx; exact ⟨_,_,rfl,rfl,T.q_FILLS_1_1⟩
    | 2,hx=>cases hx; exact ⟨_,_,rfl,rfl,T.q_FILLS_1_2⟩
    | 3,hx=>cases hx; exact ⟨_,_,rfl,rfl,T.q_FILLS_1_3⟩
    | 4,hx=>cases hx; exact ⟨_,_,rfl,rfl,T.q_FILLS_1_4⟩
theorem find_at {α:Type} {p:α->Bool} : ∀ {l:List α} {i:Nat} {f:α},l[i]? = some f->(∀ g∈l.take i,p g=false)->p f=true->l.find? p=some f
  | a :: r,0,f,h,_,hp=>by cases h; rw [List.find?_cons,hp]
  | a :: r,i+1,f,h,hn,hp=>by
    rw [List.find?_cons,hn a (by simp)]
    exact find_at (l:=r) (i:=i) h (fun g hg=>hn g (by simp [hg])) hp
theorem ok_fillP (T:Txt w K mg t):FnOk P w K mg base CX0 6 t.a_PairTongue_fill t.f_PairTongue_fill ["self", "row", "page"] (spFilP K t):=by
  refine T.F_PairTongue_fill.okQ sc_PairTongue_fill (fun vs H Q E h=>by obtain ⟨o,a,h,r,rfl,_⟩:=h; rfl) fun cdv A outer s H vs Q E hr h=>?_
  obtain ⟨o,a,h,r,rfl,po,ha,hb,hl,k1,k2⟩:=h
  have hu:=hr.units
  refine ⟨_,(q_pss_cons (q_ps_for PassesOwn.never rfl (q_pi_tupK (K:=K) rfl (q_dixS (K:=K) rfl rfl T.d_FILLS rfl T.c_FILLS (q_fldK (K:=K) rfl (q_vv 0)))) (q_pg_name (i:=3) sc_PairTongue_fill.nd rfl (by first | exact Or.inl rfl | exact Or.inr rfl)) (q_pss_one (q_ps_if (q_mt_cmp g_isnot (q_methD (h_PairTongue_whole_0 T) hr (q_vv 0) (q_pa_c (q_pe_op (g_addK (K:=K) rfl) (q_vv 1) (q_calTy (c_listK (K:=K) rfl) T.n_list PyProof.Rows.boot_list (q_pa_c (q_vv 3) q_pa_nil))) (q_pa_c (q_vv 2) q_pa_nil))) q_pe_non (nomark _)) (q_pss_one (q_ps_ret (q_calTy (c_listK (K:=K) rfl) T.n_list PyProof.Rows.boot_list (q_pa_c (q_vv 3) q_pa_nil)))) q_pss_nil)))
      (q_pss_one (q_ps_ret q_pe_non))),?_⟩
  obtain ⟨dx,ho⟩:=id po
  refine ⟨o,_,dx,_,_,rfl,ho,T.cls_PairTongue,T.na_PairTongue_order,rfl,?_⟩
  obtain ⟨F,eF,qF⟩ : ∃ F,gotS [(t.h_FILLS_0, "high",t.a_FILLS_0),(t.h_FILLS_1, "low",t.a_FILLS_1)] (ordOf h)=some F/\∀ H,SqT K H F ((fAdr t h).map V.ref):=by
    cases h with
    | true=>exact ⟨_,by simp [gotS,ordOf],T.q_FILLS_0⟩
    | false=>exact ⟨t.a_FILLS_1,by simp [gotS,ordOf,show ¬ (("high" : Str) = "low") by decide],T.q_FILLS_1⟩
  refine ⟨_,F,rfl,eF,?_⟩
  have eL:((fAdr t h).map V.ref).length=(fills h).length:=by cases h <;> rfl
  refine ⟨_,rfl,⟨_,qF _⟩,for_tup (K:=K) (a:=F) (xs:=(fAdr t h).map V.ref) (fun i σ H'=>Same H H'/\(∀ g∈(fills h).take i,(whl h (r++g)).isSome=false)/\∃ v3,σ=[some (.ref o),some (.ref a),some (.int 0),v3]) ⟨Same.refl _,fun g z=>by simp at z,_,rfl⟩ (fun i σ H' _ z=>qF _) ?_ ?_⟩
  · rintro i x σ H2 hx ⟨s2,hn,v3,rfl⟩
    obtain ⟨b,f,rfl,hf,qb⟩:=f_at T h hx
    have hm:=List.mem_of_getElem? hf
    have hfl:=fills_len hm
    refine ⟨o,dx,_,rfl,s2 _ _ ho,rfl,?_⟩
    refine ⟨_,.inr (qb _),fun p3 H3 g3=>?_⟩
    have s3:=s2.trans g3.sm
    refine ⟨_,_,s3.seq ha,g3.lst,szl (by rw [List.length_map,List.length_map]; omega),fun p4 H4 g4=>?_⟩
    rw [<- List.map_append] at g4
    have s4:=s3.trans g4.sm
    refine ⟨o,p4,h,r++f,rfl,⟨dx,s4 _ _ ho⟩,g4.lst,hb.app (fills_byts hm),by rw [List.length_append]; omega,fun n hw p5 H5 g5=>?_,fun hw H5 s5=>?_⟩
    · have ef:fil h r=some f:=find_at hf hn (by rw [hw]; rfl)
      exact ⟨_,.inr (qb _),fun p6 H6 g6=>k1 f ef p6 H6 (g6.after (s4.trans g5.sm))⟩
    · refine ⟨s4.trans s5,fun g hg=>?_,_,rfl⟩
      rw [List.take_add_one,hf] at hg
      rcases List.mem_append.mp hg with hg | hg
      · exact hn g hg
      · have:g=f:=by simpa using hg
        rw [this,hw]; rfl
  · rintro σ H2 ⟨s2,hn,v3,rfl⟩
    rw [eL,List.take_length] at hn
    exact k2 (List.find?_eq_none.mpr fun g hg=>by rw [hn g hg]; simp) _ s2
theorem h_PairTongue_fill_0 (T:Txt w K mg t):HasMD P w K mg base t.c_PairTongue "fill" 6 t.a_PairTongue_fill t.f_PairTongue_fill ["self", "row", "page"] [] (spFilP K t) :=
  ⟨T.cls_PairTongue,T.mt_PairTongue_fill,⟨_,T.b_PairTongue_fill,.nil⟩,ok_fillP T⟩
theorem u2_ub (h:Bool) (m:Int) (r:List Int):unitsIn h (ub h m++r)=m :: unitsIn h r:=by
  have e:m / 256*256+m%256=m:=by omega
  cases h
  · show u2 false (m%256) (m / 256) :: unitsIn false r=_
    unfold u2; rw [if_neg (by simp),e]
  · show u2 true (m / 256) (m%256) :: unitsIn true r=_
    unfold u2; rw [if_pos rfl,e]
theorem units_back (h:Bool) : ∀ us:List Int,unitsIn h (us.flatMap (ub h))=us
  | []=>rfl
  | a :: r=>by rw [List.flatMap_cons,u2_ub,units_back h r]
theorem prow_len2 (h:Bool) (n:Int):(prow h n).length=if n < 65536 then 2 else 4:=by
  unfold prow unitsOf
  by_cases c:n < 65536
  · rw [if_pos c,if_pos c,flat_len]; rfl
  · rw [if_neg c,if_neg c,flat_len]; rfl
theorem sign_units {n:Int} (hs:Sg n):signOf (unitsOf n)=some n:=by
  have hs2:=hs
  obtain ⟨h0,h1,h2,h3⟩:=hs2
  unfold unitsOf
  by_cases c:n < 65536
  · rw [if_pos c]
    exact if_pos ((sg_iff n).mpr hs)
  · rw [if_neg c]
    have e:65536+((55296+(n - 65536) / 1024 - 55296)*1024+(56320+(n - 65536)%1024 - 56320))=n:=by omega
    refine (if_pos (by omega)).trans ?_
    rw [e]
theorem whl_prow (h:Bool) {n:Int} (hs:Sg n):whl h (prow h n)=some n:=by
  have e:=prow_len2 h n
  unfold whl
  rw [if_pos (by rw [e]; by_cases c:n < 65536 <;> simp [c])]
  unfold prow
  rw [units_back,sign_units hs]
theorem ub_byts (h:Bool) {u:Int} (hu:0<=u/\u < 65536):Byts (ub h u):=by
  intro b hb
  unfold ub at hb
  cases h <;> simp at hb <;> omega
theorem prow_byts (h:Bool) {n:Int} (hs:Sg n):Byts (prow h n):=by
  intro b hb
  unfold prow at hb
  obtain ⟨u,hu,hb⟩:=List.mem_flatMap.mp hb
  exact ub_byts h (units_in hs hu) b hb
theorem prow_take (h:Bool) {n:Int} (hs:Sg n) (c : ¬ n < 65536) : ∃ u,(prow h n).take 2=ub h u/\55296<=u/\u < 56320:=by
  obtain ⟨h0,h1,h2,h3⟩:=hs
  refine ⟨55296+(n - 65536) / 1024,?_,by omega,by omega⟩
  unfold prow unitsOf
  rw [if_neg c,List.flatMap_cons]
  have:=ub_len h (55296+(n - 65536) / 1024)
  rw [<- this,List.take_left]
theorem head_none (h:Bool) {u:Int} (h1:55296<=u) (h2:u < 56320):whl h (ub h u)=none:=by
  unfold whl
  rw [if_pos (.inl (ub_len h u))]
  have e:=u2_ub h u []
  rw [List.append_nil] at e
  rw [e]
  refine if_neg fun z=>?_
  have z:=(sg_iff u).mp z
  unfold Sg at z
  omega
theorem head_fil (h:Bool) {u:Int} (h1:55296<=u) (h2:u < 56320):fil h (ub h u)≠none:=by
  intro z
  have z:=List.find?_eq_none.mp z
  have e2:unitsIn h (ub h u++ub h 56320)=[u,56320]:=by
    have:=u2_ub h 56320 []
    rw [List.append_nil] at this
    rw [u2_ub,this]; rfl
  have m:ub h 56320∈fills h:=by cases h <;> decide
  refine z _ m ?_
  unfold whl
  rw [if_pos (.inr (by rw [List.length_append,ub_len,ub_len])),e2]
  have:signOf [u,56320]=some (65536+((u - 55296)*1024+(56320 - 56320))):=if_pos (by omega)
  rw [this]
  rfl
theorem cut1 (f:Int) (r:List Int):cutV ((f :: r).map V.int) (some 1) none=r.map V.int:=by
  rw [cutV_ints]
  congr 1
  exact cutL_from (f :: r) 1
def spLb:Sp:=fun vs H Q _=>∃ f,vs=[.int f]/\Q (.int (lb f)) H
theorem h_length_behind (T:Txt w K mg t):Has P w K mg base "length_behind" 1 t.a_length_behind t.f_length_behind ["first"] spLb:=by
  refine ⟨T.g_length_behind,T.F_length_behind.kp,T.b_length_behind,T.F_length_behind.okQ sc_length_behind (fun vs H Q E h=>by obtain ⟨f,rfl,_⟩:=h; rfl) fun cdv A outer s H vs Q E hr h=>?_⟩
  obtain ⟨f,rfl,k⟩:=h
  have hu:=hr.units
  refine ⟨_,(q_pss_cons (q_ps_if (q_mt_cmp g_lt (q_vv 0) q_pe_int (nomark _)) (q_pss_one (q_ps_ret q_pe_int)) q_pss_nil)
      (q_pss_cons (q_ps_if (q_PW_pt (q_pw_or (q_mt_cmp g_lt (q_vv 0) q_pe_int (nomark _)) (q_pw_or1 (q_mt_cmp g_gt (q_vv 0) q_pe_int (nomark _))))) (q_pss_one (q_ps_ret q_pe_int)) q_pss_nil)
      (q_pss_cons (q_ps_if (q_mt_cmp g_lt (q_vv 0) q_pe_int (nomark _)) (q_pss_one (q_ps_ret q_pe_int)) q_pss_nil)
      (q_pss_cons (q_ps_if (q_mt_cmp g_lt (q_vv 0) q_pe_int (nomark _)) (q_pss_one (q_ps_ret q_pe_int)) q_pss_nil)
      (q_pss_one (q_ps_ret q_pe_int)))))),?_⟩
  have fit : ∀ {n:Int},n=lb f->Q (.int n) H:=fun e=>e ▸ k
  refine ite2 (fun e=>fit ?_) (fun e=>?_)
  · simp at e; unfold lb; rw [if_pos (by omega)]
  refine ite2 (fun e1=>?_) (fun e1=>?_)
  · exact fit (by simp at e e1; unfold lb; rw [if_neg (by omega),if_pos (by omega)])
  refine ite2 (fun e2=>?_) (fun e2=>?_)
  · exact fit (by simp at e e1 e2; unfold lb; rw [if_neg (by omega),if_pos (by omega)])
  refine ite2 (fun e3=>?_) (fun e3=>?_)
  · exact fit (by simp at e e1 e2 e3; unfold lb; rw [if_neg (by omega),if_neg (by omega),if_pos (by omega)])
  refine ite2 (fun e4=>?_) (fun e4=>?_)
  · exact fit (by simp at e e1 e2 e3 e4; unfold lb; rw [if_neg (by omega),if_neg (by omega),if_neg (by omega),if_pos (by omega)])
  · exact fit (by simp at e e1 e2 e3 e4; unfold lb; rw [if_neg (by omega),if_neg (by omega),if_neg (by omega),if_neg (by omega)])
def spBnd (K:PySem.W.Frag):Sp:=fun vs H Q _=>∃ (a:Addr) (f:Int) (r:List Int) (p:Nat),vs=[.ref a,.int (p:Int)]/\SqL K H a ((f :: r).map V.int)/\∀ b H',Same H H'->SqT K H' b [.int (loB f p),.int (hiB f p)]->Q (.ref b) H'
theorem h_bounds_behind (T:Txt w K mg t):Has P w K mg base "bounds_behind" 1 t.a_bounds_behind t.f_bounds_behind ["row", "place"] (spBnd K):=by
  refine ⟨T.g_bounds_behind,T.F_bounds_behind.kp,T.b_bounds_behind,T.F_bounds_behind.okQ sc_bounds_behind (fun vs H Q E h=>by obtain ⟨a,f,r,p,rfl,_⟩:=h; rfl) fun cdv A outer s H vs Q E hr h=>?_⟩
  obtain ⟨a,f,r,p,rfl,h1,k⟩:=h
  have hu:=hr.units
  refine ⟨_,(q_pss_cons (q_ps_if (q_mt_cmp (g_eqK (K:=K) rfl hu) (q_vv 1) q_pe_int (nomark _)) (q_pss_one (q_ps_ret (q_dgetK (K:=K) rfl T.d_SECONDS rfl T.c_SECONDS (q_pe_ix (g_ixK (K:=K) rfl) (q_vv 0) q_pe_int (fun _ _=>rfl)) (q_me_tup (q_pa_c (q_gi T.c_FIRST_BEHIND) (q_pa_c (q_gi T.c_LAST_BEHIND) q_pa_nil)))))) q_pss_nil)
      (q_pss_one (q_ps_ret (q_me_tup (q_pa_c (q_gi T.c_FIRST_BEHIND) (q_pa_c (q_gi T.c_LAST_BEHIND) q_pa_nil)))))),?_⟩
  refine ite2 (fun e=>?_) (fun e=>?_)
  · have hp:p=1:=by have:=of_decide_eq_true e; omega
    subst hp
    refine ⟨_,.int f,.inl h1,atI_nat (j:=0) rfl,?_⟩
    refine ⟨sz rfl,fun p1 H1 g1=>?_⟩
    refine ⟨f,rfl,?_⟩
    by_cases c1:f=224
    · subst c1; exact k _ _ g1.sm (T.q_SECONDS_0 H1)
    by_cases c2:f=237
    · subst c2; exact k _ _ g1.sm (T.q_SECONDS_1 H1)
    by_cases c3:f=238
    · subst c3; exact k _ _ g1.sm (T.q_SECONDS_2 H1)
    by_cases c4:f=240
    · subst c4; exact k _ _ g1.sm (T.q_SECONDS_3 H1)
    by_cases c5:f=244
    · subst c5; exact k _ _ g1.sm (T.q_SECONDS_4 H1)
    have e:gotK [(224,t.a_SECONDS_0),(237,t.a_SECONDS_1),(238,t.a_SECONDS_2),(240,t.a_SECONDS_3),(244,t.a_SECONDS_4)] f=none:=by
      simp [gotK,Ne.symm c1,Ne.symm c2,Ne.symm c3,Ne.symm c4,Ne.symm c5]
    rw [e]
    refine k _ _ g1.sm ?_
    rw [loB,hiB,if_pos rfl,if_pos rfl,lo1,hi1,if_neg c1,if_neg c4,if_neg c2,if_neg c3,if_neg c5]
    exact g1.tup
  · refine ⟨sz rfl,fun p1 H1 g1=>?_⟩
    have hp:p≠1:=fun z=>by subst z; exact e rfl
    refine k _ _ g1.sm ?_
    rw [loB,hiB,if_neg hp,if_neg hp]
    exact g1.tup
def spFits (K:PySem.W.Frag):Sp:=fun vs H Q _=>∃ (a:Addr) (f:Int) (r:List Int),vs=[.ref a]/\SqL K H a ((f :: r).map V.int)/\r.length<=1000/\∀ H',Same H H'->(Fits f r->Q (.bl true) H')/\(¬ Fits f r->Q (.bl false) H')
theorem h_fits_behind (T:Txt w K mg t):Has P w K mg base "fits_behind" 2 t.a_fits_behind t.f_fits_behind ["row"] (spFits K):=by
  refine ⟨T.g_fits_behind,T.F_fits_behind.kp,T.b_fits_behind,T.F_fits_behind.okQ sc_fits_behind (fun vs H Q E h=>by obtain ⟨a,f,r,rfl,_⟩:=h; rfl) fun cdv A outer s H vs Q E hr h=>?_⟩
  obtain ⟨a,f,r,rfl,h1,hl,k⟩:=h
  have hu:=hr.units
  refine ⟨_,(q_pss_cons (q_ps_for PassesOwn.never rfl (q_pi_range2 rfl T.n_range (q_pa_c q_pe_int (q_pa_c (q_calB (c_lenK (K:=K) rfl) T.n_len PySem.boot_len (q_pa_c (q_vv 0) q_pa_nil)) q_pa_nil))) (q_pg_name (i:=1) sc_fits_behind.nd rfl (by first | exact Or.inl rfl | exact Or.inr rfl)) (q_pss_cons (q_ps_set (i:=2) sc_fits_behind.nd rfl (by first | exact Or.inl rfl | exact Or.inr rfl) (q_cal (h_bounds_behind T) hr (q_pa_c (q_vv 0) (q_pa_c (q_vv 1) q_pa_nil))))
      (q_pss_one (q_ps_if (q_pt_not (q_mt_chain g_le g_le (q_pe_ix (g_ixK (K:=K) rfl) (q_vv 2) q_pe_int (fun _ _=>rfl)) (q_pe_ix (g_ixK (K:=K) rfl) (q_vv 0) (q_vv 1) (fun _ _=>rfl)) (q_pe_ix (g_ixK (K:=K) rfl) (q_vv 2) q_pe_int (fun _ _=>rfl)))) (q_pss_one (q_ps_ret q_pe_bl)) q_pss_nil))))
      (q_pss_one (q_ps_ret q_pe_bl))),?_⟩
  refine ⟨_,.inl h1,?_⟩
  have hL:((List.map V.int (f :: r)).length:Int)=(r.length:Int)+1:=by simp
  refine ⟨1,_,rfl,⟨by omega,by omega,by omega,by omega⟩,?_⟩
  have hN:(((List.map V.int (f :: r)).length:Int) - 1).toNat=r.length:=by omega
  rw [hN]
  refine for_range (lo:=1) (n:=r.length) (fun i σ H'=>Same H H'/\(∀ j x,j < i->r[j]? = some x->loB f (j+1)<=x/\x<=hiB f (j+1))/\∃ v1 v2,σ=[some (.ref a),v1,v2])
    ⟨Same.refl _,fun j x z=>absurd z (Nat.not_lt_zero _),_,_,rfl⟩ ?_ ?_
  · rintro i σ H2 hi ⟨s2,p2,v1,v2,rfl⟩
    obtain ⟨x,hx⟩ : ∃ x,r[i]? = some x:=⟨_,List.getElem?_eq_getElem hi⟩
    have c1:(1:Int)+(i:Int)=((i+1:Nat):Int):=by omega
    refine ⟨a,f,r,i+1,by rw [<- c1]; rfl,s2.seq h1,fun b H3 s3 hb=>?_⟩
    refine ⟨_,.int (loB f (i+1)),.inr hb,atI_nat (j:=0) rfl,?_⟩
    have hax:atI (List.map V.int (f :: r)) (1+(i:Int))=some (.int x):=by
      rw [c1]; exact atI_nat (by rw [List.map_cons,List.getElem?_cons_succ,List.getElem?_map,hx]; rfl)
    refine ⟨_,.int x,.inl (s3.seq (s2.seq h1)),hax,?_⟩
    have bad : ¬ (loB f (i+1)<=x/\x<=hiB f (i+1))->Q (.bl false) H3:=fun z=>(k _ (s2.trans s3)).2 fun y=>z (y i x hx)
    refine ite2 (fun e=>?_) (fun e=>?_)
    · refine ⟨_,.int (hiB f (i+1)),.inr hb,atI_nat (j:=1) rfl,?_⟩
      refine ite2 (fun e2=>?_) (fun e2=>?_)
      · exact bad fun z=>by simp at e2; omega
      · refine ⟨s2.trans s3,fun j y hj hy=>?_,_,_,rfl⟩
        by_cases c:j < i
        · exact p2 j y c hy
        · have:j=i:=by omega
          subst this
          rw [hx] at hy; cases hy
          have:=of_decide_eq_true e
          simp at e2
          omega
    · exact bad fun z=>e (decide_eq_true z.1)
  · rintro σ H2 ⟨s2,p2,v1,v2,rfl⟩
    exact (k _ s2).1 fun i x hx=>p2 i x (List.getElem?_eq_some_iff.mp hx).1 hx
def spMiss (K:PySem.W.Frag):Sp:=fun vs H Q _=>∃ (a:Addr) (f:Int) (r:List Int),vs=[.ref a]/\SqL K H a ((f :: r).map V.int)/\r.length<=1000/\∀ H',Same H H'->(Beg f r->Q (.int (lb f - ((r.length:Int)+1))) H')/\(¬ Beg f r->Q .non H')
theorem h_missing (T:Txt w K mg t):Has P w K mg base "missing" 3 t.a_missing t.f_missing ["row"] (spMiss K):=by
  refine ⟨T.g_missing,T.F_missing.kp,T.b_missing,T.F_missing.okQ sc_missing (fun vs H Q E h=>by obtain ⟨a,f,r,rfl,_⟩:=h; rfl) fun cdv A outer s H vs Q E hr h=>?_⟩
  obtain ⟨a,f,r,rfl,h1,hl,k⟩:=h
  have hu:=hr.units
  refine ⟨_,(q_pss_cons (q_ps_set (i:=1) sc_missing.nd rfl (by first | exact Or.inl rfl | exact Or.inr rfl) (q_pe_op g_sub (q_cal (h_length_behind T) hr (q_pa_c (q_pe_ix (g_ixK (K:=K) rfl) (q_vv 0) q_pe_int (fun _ _=>rfl)) q_pa_nil)) (q_calB (c_lenK (K:=K) rfl) T.n_len PySem.boot_len (q_pa_c (q_vv 0) q_pa_nil))))
      (q_pss_cons (q_ps_if (q_PW_pt (q_pw_or (q_mt_cmp g_lt (q_vv 1) q_pe_int (nomark _)) (q_pw_or1 (q_pt_not (q_mt_val (q_cal (h_fits_behind T) hr (q_pa_c (q_vv 0) q_pa_nil))))))) (q_pss_one (q_ps_ret q_pe_non)) q_pss_nil)
      (q_pss_one (q_ps_ret (q_vv 1))))),?_⟩
  refine ⟨_,.int f,.inl h1,atI_nat (j:=0) rfl,?_⟩
  refine ⟨f,rfl,?_⟩
  refine ⟨_,.inl h1,?_⟩
  have hL:((List.map V.int (f :: r)).length:Int)=(r.length:Int)+1:=by simp
  refine ite2 (fun e=>?_) (fun e=>?_)
  · exact (k _ (Same.refl _)).2 fun z=>by have:=of_decide_eq_true e; have:=z.1; omega
  · have e' : ¬ (lb f - ((List.map V.int (f :: r)).length:Int) < 0):=fun z=>e (decide_eq_true z)
    refine ⟨a,f,r,rfl,h1,hl,fun H2 s2=>⟨fun y=>?_,fun y=>?_⟩⟩
    · have q:=(k _ s2).1 ⟨by omega,y⟩
      rw [<- hL] at q
      exact q
    · exact (k _ s2).2 fun z=>y z.2
def spFillL (K:PySem.W.Frag):Sp:=fun vs H Q _=>∃ (o a:Addr) (rr:List Int),vs=[.ref o,.ref a,.int 0]/\SqL K H a (rr.map V.int)/\rr.length<=1000/\(Begs rr->∀ p H',Gro H p (.lst ((flo rr).map V.int)) H'->Q (.ref p) H')/\(¬ Begs rr->∀ H',Same H H'->Q .non H')
theorem ok_fillL (T:Txt w K mg t):FnOk P w K mg base CX0 4 t.a_LeadTongue_fill t.f_LeadTongue_fill ["self", "row", "page"] (spFillL K):=by
  refine T.F_LeadTongue_fill.okQ sc_LeadTongue_fill (fun vs H Q E h=>by obtain ⟨o,a,rr,rfl,_⟩:=h; rfl) fun cdv A outer s H vs Q E hr h=>?_
  obtain ⟨o,a,rr,rfl,h1,hl,k1,k2⟩:=h
  have hu:=hr.units
  refine ⟨_,(q_pss_cons (q_ps_if (q_pt_not (q_mt_truK (K:=K) rfl (q_vv 1))) (q_pss_one (q_ps_ret (q_me_lst (q_pa_c q_pe_int q_pa_nil)))) q_pss_nil)
      (q_pss_cons (q_ps_set (i:=3) sc_LeadTongue_fill.nd rfl (by first | exact Or.inl rfl | exact Or.inr rfl) (q_cal (h_missing T) hr (q_pa_c (q_vv 1) q_pa_nil)))
      (q_pss_cons (q_ps_if (q_mt_cmp g_is (q_vv 3) q_pe_non (nomark _)) (q_pss_one (q_ps_ret q_pe_non)) q_pss_nil)
      (q_pss_one (q_ps_ret (q_pe_comp rfl (CompScope.of (fns:=(defScope s_LeadTongue_fill).names) (N:=["self", "row", "page", "lack"]) (Nc:=["place", "row"]) (nv:=1) (caps:=[1]) rfl rfl (by decide +kernel)) (q_pi_range2 rfl T.n_range (q_pa_c (q_calB (c_lenK (K:=K) rfl) T.n_len PySem.boot_len (q_pa_c (q_vv 1) q_pa_nil)) (q_pa_c (q_pe_op (g_addK (K:=K) rfl) (q_calB (c_lenK (K:=K) rfl) T.n_len PySem.boot_len (q_pa_c (q_vv 1) q_pa_nil)) (q_vv 3)) q_pa_nil))) (fun _ _ _ _=>(q_pg_name (i:=0) (show List.Nodup (["place", "row"]:List Str) by decide +kernel) rfl (Or.inl rfl) (Or.inr rfl))) (fun _ _ _ _=>q_pts_nil) (fun _ _ _ _=>(q_pe_ix (g_ixK (K:=K) rfl) (q_cal (h_bounds_behind T) hr (q_pa_c (q_vv 1) (q_pa_c (q_vv 0) q_pa_nil))) q_pe_int (fun _ _=>rfl))))))))),?_⟩
  refine ⟨_,.inl h1,?_⟩
  cases rr with
  | nil =>
    refine iteT ?_
    exact ⟨sz rfl,fun p H' g=>k1 trivial p H' g⟩
  | cons f r =>
    refine iteF ?_
    refine ⟨a,f,r,rfl,h1,by simp at hl; omega,fun H2 s2=>⟨fun y=>?_,fun y=>?_⟩⟩
    · refine ⟨_,.inl (s2.seq h1),?_⟩
      refine ⟨_,.inl (s2.seq h1),?_⟩
      have hL:((List.map V.int (f :: r)).length:Int)=(r.length:Int)+1:=by simp
      have hb:=lb_le f
      have hy:=y.1
      refine ⟨_,_,rfl,⟨by omega,by omega,by omega,by omega⟩,?_⟩
      have hn:(((List.map V.int (f :: r)).length:Int)+(lb f - ((r.length:Int)+1)) - ((List.map V.int (f :: r)).length:Int)).toNat=(lb f - ((r.length:Int)+1)).toNat:=by omega
      rw [hn]
      refine comp_toR ((flo (f :: r)).map V.int) (by rw [List.length_map,flo,List.length_map,List.length_range]) (szl (by omega)) (fun i v H3 N hi hv s3 hN=>?_) fun p H3 g3=>k1 y p H3 (g3.after s2)
      have ev:v=.int (loB f (r.length+1+i)):=by
        rw [List.getElem?_map,flo,List.getElem?_map,List.getElem?_range hi] at hv
        cases hv
        rfl
      subst ev
      have c1:((List.map V.int (f :: r)).length:Int)+(i:Int)=((r.length+1+i:Nat):Int):=by omega
      refine ⟨a,f,r,r.length+1+i,by rw [<- c1]; rfl,s3.seq (s2.seq h1),fun b H4 s4 hb=>?_⟩
      exact ⟨_,.int (loB f (r.length+1+i)),.inr hb,atI_nat (j:=0) rfl,hN _ s4⟩
    · exact k2 y _ s2
theorem h_LeadTongue_fill_0 (T:Txt w K mg t):HasMD P w K mg base t.c_LeadTongue "fill" 4 t.a_LeadTongue_fill t.f_LeadTongue_fill ["self", "row", "page"] [] (spFillL K) :=
  ⟨T.cls_LeadTongue,T.mt_LeadTongue_fill,⟨_,T.b_LeadTongue_fill,.nil⟩,ok_fillL T⟩
def lead (n:Nat):Int:=if n=1 then 192 else if n=2 then 224 else 240
def car:List Int->Int
  | []=>0
  | [f]=>f
  | f :: r=>tog 6 ((f - lead r.length) :: r.map fun b=>b - 128)
def spCar (K:PySem.W.Frag):Sp:=fun vs H Q _=>∃ (a:Addr) (rr:List Int),vs=[.ref a]/\SqL K H a (rr.map V.int)/\Whl rr/\∀ H',Same H H'->Q (.int (car rr)) H'
theorem whl_room {f x:Int} {r:List Int} (h:Whl (f :: x :: r)):(∀ y∈x :: r,128<=y/\y<=191)/\0<=f - lead (r.length+1)/\f - lead (r.length+1) < 64/\r.length<=2/\(∃ v,[0,0,192,224,240][r.length+2]? = some v/\v=lead (r.length+1)):=by
  have hl:=lb_le f
  obtain ⟨⟨h1,h2⟩,h3⟩:Beg f (x :: r)/\((x :: r).length:Int)+1=lb f:=h
  refine ⟨((fits_iff f _).mp h2).1,?_⟩
  have hn:(r.length:Int)+2=lb f:=by simp at h3; omega
  have hr:r.length<=2:=by omega
  unfold lb at hn
  have:r.length=0\/r.length=1\/r.length=2:=by omega
  rcases this with z | z | z <;> rw [z] at hn ⊢ <;> simp only [lead] <;> (repeat' split at hn) <;> first | omega | exact ⟨by simp; omega,by simp; omega,by omega,_,rfl,rfl⟩
theorem h_carried (T:Txt w K mg t):Has P w K mg base "carried" 3 t.a_carried t.f_carried ["row"] (spCar K):=by
  refine ⟨T.g_carried,T.F_carried.kp,T.b_carried,T.F_carried.okQ sc_carried (fun vs H Q E h=>by obtain ⟨a,rr,rfl,_⟩:=h; rfl) fun cdv A outer s H vs Q E hr h=>?_⟩
  obtain ⟨a,rr,rfl,h1,hw,k⟩:=h
  have hu:=hr.units
  refine ⟨_,(q_pss_cons (q_ps_if (q_mt_cmp (g_eqK (K:=K) rfl hu) (q_calB (c_lenK (K:=K) rfl) T.n_len PySem.boot_len (q_pa_c (q_vv 0) q_pa_nil)) q_pe_int (nomark _)) (q_pss_one (q_ps_ret (q_pe_ix (g_ixK (K:=K) rfl) (q_vv 0) q_pe_int (fun _ _=>rfl)))) q_pss_nil)
      (q_pss_one (q_ps_ret (q_cal (h_together T) hr (q_pa_c (q_pe_op (g_addK (K:=K) rfl) (q_me_lst (q_pa_c (q_pe_op g_sub (q_pe_ix (g_ixK (K:=K) rfl) (q_vv 0) q_pe_int (fun _ _=>rfl)) (q_pe_ix (g_ixK (K:=K) rfl) (q_pe_glob (v:=.ref t.a_LEADS) rfl T.c_LEADS rfl) (q_calB (c_lenK (K:=K) rfl) T.n_len PySem.boot_len (q_pa_c (q_vv 0) q_pa_nil)) (fun _ _=>rfl))) q_pa_nil)) (q_pe_comp rfl (CompScope.of (fns:=(defScope s_carried).names) (N:=["row"]) (Nc:=["byte"]) (nv:=1) (caps:=[]) rfl rfl (by decide +kernel)) (q_pi_listK (K:=K) rfl (q_pe_slice (g_slK (K:=K) rfl) (q_vv 0) (q_po_some q_pe_int) q_po_none)) (fun _ _ _ _=>(q_pg_name (i:=0) (show List.Nodup (["byte"]:List Str) by decide +kernel) rfl (Or.inl rfl) (Or.inr rfl))) (fun _ _ _ _=>q_pts_nil) (fun _ _ _ _=>(q_pe_op g_sub (q_vv 0) (q_gi T.c_FIRST_BEHIND))))) (q_pa_c (q_gi T.c_BITS) q_pa_nil)))))),?_⟩
  refine ⟨_,.inl h1,?_⟩
  match rr,h1,hw,k with
  | [],_,hw,_=>exact hw.elim
  | [f],h1,hw,k =>
    exact ⟨_,.int f,.inl h1,atI_nat (j:=0) rfl,k _ (Same.refl _)⟩
  | f :: x :: r,h1,hw,k =>
    obtain ⟨b1,b2,b3,b4,v,hv,ev⟩:=whl_room hw
    have hL:((List.map V.int (f :: x :: r)).length:Int)=((r.length+2:Nat):Int):=by simp; omega
    refine ⟨_,.int f,.inl h1,atI_nat (j:=0) rfl,?_⟩
    refine ⟨_,.inl h1,?_⟩
    have hat:atI (([0,0,192,224,240]:List Int).map V.int) ((List.map V.int (f :: x :: r)).length:Int)=some (.int v):=by
      rw [hL]; exact atI_nat (by rw [List.getElem?_map,hv]; rfl)
    refine ⟨_,.int v,.inr (T.q_LEADS _),hat,?_⟩
    refine ⟨sz rfl,fun p1 H1 g1=>?_⟩
    refine ⟨_,rfl,_,g1.sm.seq h1,fun p2 H2 g2=>?_⟩
    rw [cut1] at g2
    refine ⟨_,rfl,⟨_,g2.lst⟩,?_⟩
    refine comp_to (((x :: r).map fun b=>b - 128).map V.int) (by simp) g2.lst (szl (by simp; omega)) (fun i y v H3 N hy hv s3 hN=>?_) fun p3 H3 g3=>?_
    · rw [List.getElem?_map] at hy
      obtain ⟨y,hy',rfl⟩:=Option.map_eq_some_iff.mp hy
      rw [List.getElem?_map,List.getElem?_map,hy'] at hv
      cases hv
      exact hN _ (Same.refl _)
    refine ⟨_,_,(g2.sm.trans g3.sm).seq g1.lst,g3.lst,szl (by simp; omega),fun p4 H4 g4=>?_⟩
    refine ⟨p4,(f - v) :: (x :: r).map fun b=>b - 128,6,rfl,g4.lst,?_,by decide,by simp; omega,?_⟩
    · intro y hy
      rcases List.mem_cons.mp hy with rfl | hy
      · rw [ev]; exact ⟨b2,b3⟩
      · obtain ⟨b,hb,rfl⟩:=List.mem_map.mp hy
        have:=b1 b hb
        exact ⟨by omega,show b - 128 < 64 by omega⟩
    · rw [ev]
      exact k _ (g1.sm.trans (g2.sm.trans (g3.sm.trans g4.sm)))
def spWhL (K:PySem.W.Frag):Sp:=fun vs H Q _=>∃ (o a:Addr) (rr:List Int),vs=[.ref o,.ref a,.int 0]/\SqL K H a (rr.map V.int)/\rr.length<=1000/\(Whl rr->∀ p H',Gro H p (.tup [.int (car rr),.int 0]) H'->Q (.ref p) H')/\(¬ Whl rr->∀ H',Same H H'->Q .non H')
theorem ok_wholeL (T:Txt w K mg t):FnOk P w K mg base CX0 4 t.a_LeadTongue_whole t.f_LeadTongue_whole ["self", "row", "page"] (spWhL K):=by
  refine T.F_LeadTongue_whole.okQ sc_LeadTongue_whole (fun vs H Q E h=>by obtain ⟨o,a,rr,rfl,_⟩:=h; rfl) fun cdv A outer s H vs Q E hr h=>?_
  obtain ⟨o,a,rr,rfl,h1,hl,k1,k2⟩:=h
  have hu:=hr.units
  refine ⟨_,(q_pss_cons (q_ps_if (q_PW_pt (q_pw_and (q_mt_truK (K:=K) rfl (q_vv 1)) (q_pw_and1 (q_mt_cmp (g_eqK (K:=K) rfl hu) (q_cal (h_missing T) hr (q_pa_c (q_vv 1) q_pa_nil)) q_pe_int (nomark _))))) (q_pss_one (q_ps_ret (q_me_tup (q_pa_c (q_cal (h_carried T) hr (q_pa_c (q_vv 1) q_pa_nil)) (q_pa_c (q_vv 2) q_pa_nil))))) q_pss_nil)
      (q_pss_one (q_ps_ret q_pe_non))),?_⟩
  refine ⟨_,.inl h1,?_⟩
  cases rr with
  | nil=>exact k2 id _ (Same.refl _)
  | cons f r =>
    refine ⟨a,f,r,rfl,h1,by simp at hl; omega,fun H2 s2=>⟨fun y=>?_,fun y=>?_⟩⟩
    · refine ite2 (fun e=>?_) (fun e=>?_)
      · have hw:Whl (f :: r):=⟨y,by have:=of_decide_eq_true e; omega⟩
        refine ⟨a,f :: r,rfl,s2.seq h1,hw,fun H3 s3=>?_⟩
        exact ⟨sz rfl,fun p H' g=>k1 hw p H' (g.after (s2.trans s3))⟩
      · exact k2 (fun z=>e (decide_eq_true (by have:=z.2; omega))) _ s2
    · refine ⟨_,_,DataV.non,DataV.int 0,rfl,rfl,?_⟩
      exact k2 (fun z=>y z.1) _ s2
theorem h_LeadTongue_whole_0 (T:Txt w K mg t):HasMD P w K mg base t.c_LeadTongue "whole" 4 t.a_LeadTongue_whole t.f_LeadTongue_whole ["self", "row", "page"] [] (spWhL K) :=
  ⟨T.cls_LeadTongue,T.mt_LeadTongue_whole,⟨_,T.b_LeadTongue_whole,.nil⟩,ok_wholeL T⟩
theorem row_whl {n:Int} (h:Sg n):Whl (row n)/\car (row n)=n:=by
  obtain ⟨h0,h1,h2,h3⟩:=h
  unfold row
  by_cases c1:n < 128
  · rw [if_pos c1]
    exact ⟨⟨⟨by unfold lb; rw [if_pos c1]; simp,fun i x z=>by cases z⟩,by unfold lb; rw [if_pos c1]; simp⟩,rfl⟩
  rw [if_neg c1]
  by_cases c2:n < 2048
  · rw [if_pos c2]
    have e:lb (192+n / 64)=2:=by unfold lb; repeat' split <;> omega
    refine ⟨⟨⟨by rw [e]; simp,(fits_iff _ _).mpr ⟨fun x hx=>?_,fun x hx=>?_⟩⟩,by rw [e]; simp⟩,?_⟩
    · simp at hx; omega
    · simp at hx; subst hx; unfold lo1 hi1; repeat' split <;> omega
    · simp [car,lead,tog]; omega
  rw [if_neg c2]
  by_cases c3:n < 65536
  · rw [if_pos c3]
    have e:lb (224+n / 4096)=3:=by unfold lb; repeat' split <;> omega
    refine ⟨⟨⟨by rw [e]; simp,(fits_iff _ _).mpr ⟨fun x hx=>?_,fun x hx=>?_⟩⟩,by rw [e]; simp⟩,?_⟩
    · simp at hx; omega
    · simp at hx; subst hx; unfold lo1 hi1; repeat' split <;> omega
    · simp [car,lead,tog]; omega
  rw [if_neg c3]
  have e:lb (240+n / 262144)=4:=by unfold lb; repeat' split <;> omega
  refine ⟨⟨⟨by rw [e]; simp,(fits_iff _ _).mpr ⟨fun x hx=>?_,fun x hx=>?_⟩⟩,by rw [e]; simp⟩,?_⟩
  · simp at hx; omega
  · simp at hx; subst hx; unfold lo1 hi1; repeat' split <;> omega
  · simp [car,lead,tog]; omega
theorem whl_take {rr:List Int} (h:Whl rr) {i:Nat} (h0:0 < i) (h1:i < rr.length):Begs (rr.take i)/\¬ Whl (rr.take i):=by
  cases rr with
  | nil=>exact h.elim
  | cons f r =>
    obtain ⟨i,rfl⟩ : ∃ j,i=j+1:=⟨i - 1,by omega⟩
    obtain ⟨⟨b1,b2⟩,b3⟩:=h
    have hl:(r.take i).length=i:=by rw [List.length_take]; simp at h1; omega
    simp at h1
    rw [List.take_succ_cons]
    refine ⟨⟨by rw [hl]; omega,fun j x hx=>?_⟩,fun z=>?_⟩
    · have hj:j < i:=by have:=(List.getElem?_eq_some_iff.mp hx).1; omega
      rw [List.getElem?_take_of_lt hj] at hx
      exact b2 j x hx
    · have:=z.2
      rw [hl] at this
      omega
end
end My
namespace My
open PySem L2
def idx:List Int->Int->Option Nat
  | [],_=>none
  | m :: ms,n=>if m=n then some 0 else (idx ms n).map (· + 1)
theorem idx_none {ns:List Int} {n:Int}:idx ns n=none ↔ n∉ns:=by
  induction ns with
  | nil=>simp [idx]
  | cons m ms ih =>
    unfold idx
    by_cases e:m=n
    · simp [e]
    · rw [if_neg e]
      have e' : ¬ n=m:=fun z=>e z.symm
      simp [ih,e']
theorem idx_get : ∀ {ns:List Int} {n:Int} {i:Nat},idx ns n=some i->ns[i]? = some n/\∀ j,j < i->ns[j]? ≠ some n
  | [],n,i,h=>by cases h
  | m :: ms,n,i,h=>by
    unfold idx at h
    by_cases e:m=n
    · rw [if_pos e] at h
      cases h
      exact ⟨by simp [e],fun j hj=>absurd hj (by omega)⟩
    · rw [if_neg e] at h
      obtain ⟨k,hk,rfl⟩:=Option.map_eq_some_iff.mp h
      obtain ⟨a,b⟩:=idx_get hk
      refine ⟨by simpa using a,fun j hj=>?_⟩
      cases j with
      | zero=>simpa using e
      | succ j=>simpa using b j (by omega)
theorem idx_app (ns:List Int) (n m:Int):idx (ns++[n]) m=match idx ns m with
    | some i=>some i
    | none=>if n=m then some ns.length else none:=by
  induction ns with
  | nil=>simp [idx]
  | cons a as ih =>
    rw [List.cons_append,idx,idx]
    by_cases e:a=m
    · rw [if_pos e,if_pos e]
    · rw [if_neg e,if_neg e,ih]
      cases idx as m with
      | some i=>rfl
      | none =>
        dsimp only [Option.map]
        by_cases e2:n=m
        · rw [if_pos e2,if_pos e2]; simp
        · rw [if_neg e2,if_neg e2]
theorem idx_some {ns:List Int} {n:Int} (h:n∈ns) : ∃ i,idx ns n=some i/\i < ns.length:=by
  cases e:idx ns n with
  | none=>exact absurd h (idx_none.mp e)
  | some i=>exact ⟨i,rfl,(List.getElem?_eq_some_iff.mp (idx_get e).1).1⟩
def sel {α:Type} (g:Int) (x y:α):α:=if g=0 then x else y
def Two (g:Int):Prop:=g=0\/g=1
theorem at_sel {g:Int} {x y:V} (h:Two g):atI [x,y] g=some (sel g x y):=by
  rcases h with rfl | rfl <;> rfl
theorem Two.flip {g:Int} (h:Two g):Two (1 - g):=by
  rcases h with rfl | rfl
  · exact .inr rfl
  · exact .inl rfl
theorem sel_flip {α:Type} {g:Int} {x y:α} (h:Two g):sel (1 - g) x y=sel g y x:=by
  rcases h with rfl | rfl <;> rfl
theorem sel_map {α β:Type} (f:α->β) (g:Int) (x y:α):sel g (f x) (f y)=f (sel g x y):=by
  unfold sel; split <;> rfl
def aloneB (O P:List Int) (b:Nat):Bool:=!decide (O.getD b 0∈P)
def alone (O P:List Int):List Nat:=(List.range O.length).filter (aloneB O P)
theorem mem_alone {O P:List Int} {b:Nat}:b∈alone O P ↔ ∃ n,O[b]? = some n/\n∉P:=by
  unfold alone aloneB
  rw [List.mem_filter,List.mem_range]
  constructor
  · rintro ⟨h,k⟩
    refine ⟨O[b],List.getElem?_eq_getElem h,?_⟩
    rw [List.getD_eq_getElem?_getD,List.getElem?_eq_getElem h] at k
    simpa using k
  · rintro ⟨n,h,k⟩
    refine ⟨(List.getElem?_eq_some_iff.mp h).1,?_⟩
    rw [List.getD_eq_getElem?_getD,h]
    simpa using k
theorem head_filter {f:Nat->Bool} {i:Nat} (h : ∀ j,j < i->f j=false) (k:f i=true) : ∀ {n:Nat},i < n->((List.range n).filter f).head? = some i
  | 0,z=>absurd z (by omega)
  | n+1,z=>by
    rw [List.range_succ,List.filter_append,List.head?_append]
    by_cases c:i < n
    · rw [head_filter h k c]; rfl
    · obtain rfl:i=n:=by omega
      have e:(List.range i).filter f=[]:=by
        rw [List.filter_eq_nil_iff]
        intro j hj
        rw [h j (List.mem_range.mp hj)]
        decide
      rw [e]
      simp [k]
theorem filter_none {f:Nat->Bool} {n:Nat} (h : ∀ j,j < n->f j=false):(List.range n).filter f=[]:=by
  rw [List.filter_eq_nil_iff]
  intro j hj
  rw [h j (List.mem_range.mp hj)]
  decide
def byd (O P:List Int) (g:Int):List Int:=match (alone O P).head? with
  | some b=>[254+(1 - g),(b:Int)]
  | none=>[]
def Okp (ns:List Int):Prop:=(∀ n∈ns,Sg n)/\ns.Nodup/\ns.length<=250
theorem sel_ok {g:Int} {ns ms:List Int} (h:Okp ns) (k:Okp ms):Okp (sel g ns ms):=by
  unfold sel; split
  · exact h
  · exact k
structure Fp where
  dx:Addr
  pp:Addr
  pl:Addr
  ps:Addr
  d0:Addr
  d1:Addr
  l0:Addr
  l1:Addr
  s0:Addr
  s1:Addr
def Places (H:Hp) (d:Addr) (ns:List Int):Prop:=∃ kv,H d=some (.dK kv)/\∀ n:Int,valV kv (.inl n)=(idx ns n).map fun i=>V.int (i:Int)
structure Tg (t:Adr) (H:Hp) (a:Addr) (f:Fp) (ns ms:List Int):Prop where
  o:H a=some (.ins t.c_ShiftTongue f.dx [("places",.ref f.pp),("lists",.ref f.pl),("shifted",.ref f.ps)])
  p:H f.pp=some (.lst [.ref f.d0,.ref f.d1])
  l:H f.pl=some (.lst [.ref f.l0,.ref f.l1])
  s:H f.ps=some (.lst [.ref f.s0,.ref f.s1])
  d0:Places H f.d0 ns
  d1:Places H f.d1 ms
  l0:H f.l0=some (.lst (ns.map V.int))
  l1:H f.l1=some (.lst (ms.map V.int))
  s0:H f.s0=some (.lst ((byd ms ns 0).map V.int))
  s1:H f.s1=some (.lst ((byd ns ms 1).map V.int))
  k0:Okp ns
  k1:Okp ms
section
variable {t:Adr} {H H':Hp} {a:Addr} {f:Fp} {ns ms:List Int} {g:Int}
theorem Tg.keep (h:Tg t H a f ns ms) (k : ∀ c u,c∈[a,f.pp,f.pl,f.ps,f.d0,f.d1,f.l0,f.l1,f.s0,f.s1]->H c=some u->H' c=some u):Tg t H' a f ns ms:=by
  obtain ⟨o,p,l,s,⟨v0,d0,e0⟩,⟨v1,d1,e1⟩,l0,l1,s0,s1,k0,k1⟩:=h
  exact ⟨k _ _ (by simp) o,k _ _ (by simp) p,k _ _ (by simp) l,k _ _ (by simp) s,⟨v0,k _ _ (by simp) d0,e0⟩,⟨v1,k _ _ (by simp) d1,e1⟩,k _ _ (by simp) l0,k _ _ (by simp) l1,k _ _ (by simp) s0,k _ _ (by simp) s1,k0,k1⟩
theorem Tg.mono (h:Tg t H a f ns ms) (k:Same H H'):Tg t H' a f ns ms:=h.keep fun c u _ e=>k c u e
theorem Tg.dk (h:Tg t H a f ns ms) (tg:Two g):Places H (sel g f.d0 f.d1) (sel g ns ms):=by
  rcases tg with rfl | rfl
  · exact h.d0
  · exact h.d1
theorem Tg.ll (h:Tg t H a f ns ms) (tg:Two g):H (sel g f.l0 f.l1)=some (.lst ((sel g ns ms).map V.int)):=by
  rcases tg with rfl | rfl
  · exact h.l0
  · exact h.l1
theorem Tg.ss (h:Tg t H a f ns ms) (tg:Two g):H (sel g f.s0 f.s1)=some (.lst ((byd (sel g ms ns) (sel g ns ms) g).map V.int)):=by
  rcases tg with rfl | rfl
  · exact h.s0
  · exact h.s1
def spPl (K:PySem.W.Frag):Sp:=fun vs H Q _=>∃ (a:Addr) (ns:List Int) (wh:Int),vs=[.ref a,.int wh]/\SqL K H a (ns.map V.int)/\Okp ns/\∀ p H',Same H H'->H p=none->Places H' p ns->Q (.ref p) H'
theorem h_places_in (T:Txt w K mg t):Has P w K mg base "places_in" 4 t.a_places_in t.f_places_in ["signs", "which"] (spPl K):=by
  refine ⟨T.g_places_in,T.F_places_in.kp,T.b_places_in,T.F_places_in.okQ sc_places_in (fun vs H Q E h=>by obtain ⟨a,xs,wh,rfl,_⟩:=h; rfl) fun cdv A outer s H vs Q E hr h=>?_⟩
  obtain ⟨a,ns,wh,rfl,h1,⟨sg,nd,ln⟩,kq⟩:=h
  have hu:=hr.units
  refine ⟨_,(q_pss_cons (q_ps_if (q_mt_cmp g_gt (q_calB (c_lenK (K:=K) rfl) T.n_len PySem.boot_len (q_pa_c (q_vv 0) q_pa_nil)) (q_gi T.c_MOST_SIGNS) (nomark _)) (q_pss_one q_ps_never) q_pss_nil)
      (q_pss_cons (q_ps_set (i:=2) sc_places_in.nd rfl (by first | exact Or.inl rfl | exact Or.inr rfl) q_me_dic)
      (q_pss_cons (q_ps_for PassesOwn.never rfl (q_pi_enumK (K:=K) rfl rfl T.n_enumerate (q_pa_c (q_vv 0) q_pa_nil)) (q_pg_tupK (K:=K) rfl rfl (q_pgs_cons (q_pg_name (i:=3) sc_places_in.nd rfl (by first | exact Or.inl rfl | exact Or.inr rfl)) (q_pgs_cons (q_pg_name (i:=4) sc_places_in.nd rfl (by first | exact Or.inl rfl | exact Or.inr rfl)) q_pgs_nil))) (q_pss_cons (q_ps_if (q_PW_pt (q_pw_or (q_pt_not (q_mt_val (q_cal (h_is_sign T) hr (q_pa_c (q_vv 4) q_pa_nil)))) (q_pw_or1 (q_mt_cmp (g_inM hu) (q_vv 4) (q_vv 2) (by with_unfolding_all rfl))))) (q_pss_one q_ps_never) q_pss_nil)
      (q_pss_one (q_dputM hu (q_vv 2) (q_vv 4) (q_vv 3)))))
      (q_pss_one (q_ps_ret (q_vv 2)))))),?_⟩
  refine ⟨_,.inl h1,?_⟩
  refine ite2 (fun z=>?_) (fun _=>?_)
  · have z:((ns.map V.int).length:Int) > 250:=of_decide_eq_true z
    rw [List.length_map] at z
    omega
  refine fun pd H1 g1=>?_
  refine ⟨a,_,rfl,g1.sm.seq h1,for_enum (K:=K) (a:=a) (xs:=ns.map V.int) (fun i σ H'=>Same H H'/\∃ (kvs:List (Key × V)) (v3 v4:Option V),H' pd=some (.dK kvs)/\kvs.length<=i/\(∀ n:Int,valV kvs (.inl n)=(idx (ns.take i) n).map fun i=>V.int (i:Int))/\σ=[some (.ref a),some (.int wh),some (.ref pd),v3,v4]) ⟨g1.sm,[],_,_,g1.at_,by simp,(fun n=>by simp [valV,idx]),rfl⟩ (fun i σ H' _ z=>z.1.seq h1) ?_ ?_⟩
  · rintro i x p σ H2 H3 hx ⟨s2,kvs,v3,v4,h2,lk,hv,rfl⟩ g3
    obtain ⟨n,hn,rfl⟩:=ints_at hx
    have hi:=(List.getElem?_eq_some_iff.mp hn).1
    refine ⟨p,_,rfl,g3.tup,rfl,_,_,rfl,_,_,rfl,rfl,?_⟩
    have s3:=s2.trans g3.sm
    have d3:=g3.sm _ _ h2
    have yes:isSig (.int n)=true:=(sg_iff n).mpr (sg n (List.mem_of_getElem? hn))
    refine ⟨_,rfl,.int n,?_⟩
    refine ite2 (fun y=>?_) (fun _=>?_)
    · have y:(!isSig (.int n))=true:=y
      rw [yes] at y
      cases y
    have nin:n∉ns.take i:=fun z=>by
      obtain ⟨j,hj⟩:=List.getElem?_of_mem z
      have hji:j < i:=by
        have:=(List.getElem?_eq_some_iff.mp hj).1
        rw [List.length_take] at this
        omega
      rw [List.getElem?_take_of_lt hji] at hj
      obtain ⟨a1,e1⟩:=List.getElem?_eq_some_iff.mp hj
      obtain ⟨a2,e2⟩:=List.getElem?_eq_some_iff.mp hn
      exact absurd (e1.trans e2.symm) (List.pairwise_iff_getElem.mp nd j i a1 a2 hji)
    have vn:valV kvs (.inl n)=none:=by rw [hv,idx_none.mpr nin]; rfl
    refine ⟨pd,_,rfl,DGet.k (k:=.inl n) d3,?_⟩
    refine ite2 (fun y=>?_) (fun _=>?_)
    · have y:(valV kvs (.inl n)).isSome=true:=y
      rw [vn] at y
      cases y
    refine ⟨pd,_,rfl,DPut.k (k:=.inl n) d3 (szlt (by omega)),?_⟩
    refine ⟨s3.put g1.nw,_,_,_,upd_same,?_,fun m=>?_,rfl⟩
    · rw [putK_new _ vn,List.length_append]; simp; omega
    · rw [valV_put,take_snoc hn,idx_app,List.length_take,Nat.min_eq_left (by omega)]
      by_cases q:m=n
      · subst q
        rw [if_pos rfl,idx_none.mpr nin]
        simp
      · rw [if_neg (fun z=>q (Sum.inl.inj z)),hv]
        have q' : ¬ n=m:=fun z=>q z.symm
        cases idx (ns.take i) m with
        | some j=>rfl
        | none=>simp [q']
  · rintro σ H2 ⟨s2,kvs,v3,v4,h2,lk,hv,rfl⟩
    rw [List.length_map,List.take_length] at hv
    exact kq pd H2 s2 g1.nw ⟨kvs,h2,hv⟩
structure Half (t:Adr) (H:Hp) (a dx pp pl d0 d1 l0 l1:Addr) (ns ms:List Int):Prop where
  o:H a=some (.ins t.c_ShiftTongue dx [("places",.ref pp),("lists",.ref pl)])
  p:H pp=some (.lst [.ref d0,.ref d1])
  l:H pl=some (.lst [.ref l0,.ref l1])
  d0:Places H d0 ns
  d1:Places H d1 ms
  l0:H l0=some (.lst (ns.map V.int))
  l1:H l1=some (.lst (ms.map V.int))
theorem Places.mono {H H':Hp} {d:Addr} {ns:List Int} (h:Places H d ns) (s:Same H H'):Places H' d ns:=by
  obtain ⟨kv,a,b⟩:=h
  exact ⟨kv,s _ _ a,b⟩
theorem Half.mono {H H':Hp} {a dx pp pl d0 d1 l0 l1:Addr} {ns ms:List Int} (h:Half t H a dx pp pl d0 d1 l0 l1 ns ms) (s:Same H H'):Half t H' a dx pp pl d0 d1 l0 l1 ns ms :=
  ⟨s _ _ h.o,s _ _ h.p,s _ _ h.l,h.d0.mono s,h.d1.mono s,s _ _ h.l0,s _ _ h.l1⟩
def spRb (t:Adr):Sp:=fun vs H Q _=>∃ (a dx pp pl d0 d1 l0 l1:Addr) (ns ms:List Int) (g:Int),vs=[.ref a,.int g]/\Two g/\Half t H a dx pp pl d0 d1 l0 l1 ns ms/\∀ p H',Same H H'->H p=none->H' p=some (.lst ((byd (sel g ms ns) (sel g ns ms) g).map V.int))->Q (.ref p) H'
theorem h_ShiftTongue_row_beyond (T:Txt w K mg t):HasM P w K mg base t.c_ShiftTongue "row_beyond" 1 t.a_ShiftTongue_row_beyond t.f_ShiftTongue_row_beyond ["self", "page"] (spRb t):=by
  refine ⟨T.cls_ShiftTongue,T.mt_ShiftTongue_row_beyond,T.b_ShiftTongue_row_beyond,T.F_ShiftTongue_row_beyond.okQ sc_ShiftTongue_row_beyond (fun vs H Q E h=>by obtain ⟨a,dx,pp,pl,d0,d1,l0,l1,ns,ms,g,rfl,_⟩:=h; rfl) fun cdv A outer s H vs Q E hr h=>?_⟩
  obtain ⟨a,dx,pp,pl,d0,d1,l0,l1,ns,ms,g,rfl,tg,hf,k⟩:=h
  have hu:=hr.units
  refine ⟨_,(q_pss_cons (q_ps_for PassesOwn.never rfl (q_pi_enumK (K:=K) rfl rfl T.n_enumerate (q_pa_c (q_pe_ix (g_ixK (K:=K) rfl) (q_fldK (K:=K) rfl (q_vv 0)) (q_pe_op g_sub q_pe_int (q_vv 1)) (fun _ _=>rfl)) q_pa_nil)) (q_pg_tupK (K:=K) rfl rfl (q_pgs_cons (q_pg_name (i:=2) sc_ShiftTongue_row_beyond.nd rfl (by first | exact Or.inl rfl | exact Or.inr rfl)) (q_pgs_cons (q_pg_name (i:=3) sc_ShiftTongue_row_beyond.nd rfl (by first | exact Or.inl rfl | exact Or.inr rfl)) q_pgs_nil))) (q_pss_one (q_ps_if (q_mt_cmp (g_notinM hu) (q_vv 3) (q_pe_ix (g_ixK (K:=K) rfl) (q_fldK (K:=K) rfl (q_vv 0)) (q_vv 1) (fun _ _=>rfl)) (by with_unfolding_all rfl)) (q_pss_one (q_ps_ret (q_me_lst (q_pa_c (q_pe_ix (g_ixK (K:=K) rfl) (q_pe_glob (v:=.ref t.a_SHIFTS) rfl T.c_SHIFTS rfl) (q_pe_op g_sub q_pe_int (q_vv 1)) (fun _ _=>rfl)) (q_pa_c (q_vv 2) q_pa_nil))))) q_pss_nil)))
      (q_pss_one (q_ps_ret (q_me_lst q_pa_nil)))),?_⟩
  have ln:H (sel (1 - g) l0 l1)=some (.lst ((sel g ms ns).map V.int)):=by
    rcases tg with rfl | rfl
    · exact hf.l1
    · exact hf.l0
  have pk:Places H (sel g d0 d1) (sel g ns ms):=by
    rcases tg with rfl | rfl
    · exact hf.d0
    · exact hf.d1
  obtain ⟨kv,hkv,vkv⟩:=pk
  have sh:atI (([254,255]:List Int).map V.int) (1 - g)=some (.int (254+(1 - g))):=by
    rcases tg with rfl | rfl <;> rfl
  generalize hO:sel g ms ns=O at *
  generalize hP:sel g ns ms=P' at *
  refine ⟨a,_,dx,_,_,rfl,hf.o,T.cls_ShiftTongue,T.na_ShiftTongue_lists,rfl,?_⟩
  refine ⟨_,.ref (sel (1 - g) l0 l1),.inl (.of hf.l),by rw [at_sel tg.flip]; exact congrArg some (sel_map V.ref _ _ _),?_⟩
  refine ⟨sel (1 - g) l0 l1,_,rfl,.of ln,for_enum (K:=K) (a:=sel (1 - g) l0 l1) (xs:=O.map V.int) (fun i σ H'=>Same H H'/\(∀ j,j < i->aloneB O P' j=false)/\∃ v2 v3,σ=[some (.ref a),some (.int g),v2,v3]) ⟨Same.refl _,(fun j h=>absurd h (by omega)),_,_,rfl⟩ (fun i σ H' _ z=>z.1.seq (.of ln)) ?_ ?_⟩
  · rintro i x p σ H2 H3 hx ⟨s2,hj,v2,v3,rfl⟩ g3
    obtain ⟨q,hq,rfl⟩:=ints_at hx
    have hi:=(List.getElem?_eq_some_iff.mp hq).1
    refine ⟨p,_,rfl,g3.tup,rfl,_,_,rfl,_,_,rfl,rfl,?_⟩
    have s3:=s2.trans g3.sm
    refine ⟨a,_,dx,_,_,rfl,s3 _ _ hf.o,T.cls_ShiftTongue,T.na_ShiftTongue_places,rfl,?_⟩
    refine ⟨_,.ref (sel g d0 d1),.inl (.of (s3 _ _ hf.p)),by rw [at_sel tg]; exact congrArg some (sel_map V.ref _ _ _),?_⟩
    refine ⟨sel g d0 d1,_,rfl,DGet.k (k:=.inl q) (s3 _ _ hkv),?_⟩
    have eq:(valV kv (.inl q)).isSome=decide (q∈P'):=by
      rw [vkv]
      cases e:idx P' q with
      | none=>have:=idx_none.mp e; simp [this]
      | some j =>
        have:q∈P':=Decidable.byContradiction fun z=>by rw [idx_none.mpr z] at e; cases e
        simp [this]
    have ea:aloneB O P' i = !decide (q∈P'):=by
      unfold aloneB
      rw [List.getD_eq_getElem?_getD,hq]; rfl
    refine ite2 (fun y=>?_) (fun y=>?_)
    · have y:(!(valV kv (.inl q)).isSome)=true:=y
      rw [eq,<- ea] at y
      refine ⟨_,.int (254+(1 - g)),.inr (T.q_SHIFTS _),sh,?_⟩
      refine ⟨sz rfl,fun p4 H4 g4=>?_⟩
      refine k _ _ (s3.trans g4.sm) (s3.free g4.nw) ?_
      have e:byd O P' g=[254+(1 - g),(i:Int)]:=by
        unfold byd alone
        rw [head_filter hj y hi]
      rw [e]
      exact g4.at_
    · have y : ¬ (!(valV kv (.inl q)).isSome)=true:=y
      rw [eq,<- ea] at y
      refine ⟨s3,fun j hji=>?_,_,_,rfl⟩
      by_cases c:j < i
      · exact hj j c
      · obtain rfl:j=i:=by omega
        simpa using y
  · rintro σ H2 ⟨s2,hj,v2,v3,rfl⟩
    rw [List.length_map] at hj
    refine ⟨sz rfl,fun p4 H4 g4=>k _ _ (s2.trans g4.sm) (s2.free g4.nw) ?_⟩
    have e:byd O P' g=[]:=by
      unfold byd alone
      rw [filter_none hj]
      rfl
    rw [e]
    exact g4.at_
theorem Kp.seq {a f:Addr} {H H':Hp} {xs:List V} (k:Kp a H H') (n:f≠a) (h:SqL K H f xs):SqL K H' f xs:=by
  rcases h with h | h
  · rcases h with h | ⟨o,h⟩
    · exact .inl (.inl (k _ _ n h))
    · exact .inl (.inr ⟨o,k _ _ n h⟩)
  · exact .inr h
def spInit (K:PySem.W.Frag) (t:Adr):Sp:=fun vs H Q _=>∃ (a dx f g:Addr) (ns ms:List Int),vs=[.ref a,.ref f,.ref g]/\H a=some (.ins t.c_ShiftTongue dx [])/\SqL K H f (ns.map V.int)/\SqL K H g (ms.map V.int)/\Okp ns/\Okp ms/\f≠a/\g≠a /\
  ∀ fp H',Kp a H H'->Tg t H' a fp ns ms->(∀ c∈[fp.pp,fp.pl,fp.ps,fp.d0,fp.d1,fp.l0,fp.l1,fp.s0,fp.s1],c≠a/\H c=none)->Q .non H'
theorem ok_init (T:Txt w K mg t):FnOk P w K mg base CX0 5 t.a_ShiftTongue_init t.f_ShiftTongue_init ["self", "first", "second"] (spInit K t):=by
  refine T.F_ShiftTongue_init.okQ sc_ShiftTongue_init (fun vs H Q E h=>by obtain ⟨a,dx,f,g,ns,ms,rfl,_⟩:=h; rfl) fun cdv A outer s H vs Q E hr h=>?_
  obtain ⟨a,dx,f,g,ns,ms,rfl,ha,hf,hg,ok0,ok1,nf,ng,kq⟩:=h
  have hu:=hr.units
  refine ⟨_,(q_pss_cons (q_ps_fldK (K:=K) rfl (q_vv 0) (q_me_lst (q_pa_c (q_cal (h_places_in T) hr (q_pa_c (q_vv 1) (q_pa_c q_pe_int q_pa_nil))) (q_pa_c (q_cal (h_places_in T) hr (q_pa_c (q_vv 2) (q_pa_c q_pe_int q_pa_nil))) q_pa_nil))))
      (q_pss_cons (q_ps_fldK (K:=K) rfl (q_vv 0) (q_me_lst (q_pa_c (q_calTy (c_listK (K:=K) rfl) T.n_list PyProof.Rows.boot_list (q_pa_c (q_vv 1) q_pa_nil)) (q_pa_c (q_calTy (c_listK (K:=K) rfl) T.n_list PyProof.Rows.boot_list (q_pa_c (q_vv 2) q_pa_nil)) q_pa_nil))))
      (q_pss_one (q_ps_fldK (K:=K) rfl (q_vv 0) (q_me_lst (q_pa_c (q_meth (h_ShiftTongue_row_beyond T) hr (q_vv 0) (q_pa_c q_pe_int q_pa_nil)) (q_pa_c (q_meth (h_ShiftTongue_row_beyond T) hr (q_vv 0) (q_pa_c q_pe_int q_pa_nil)) q_pa_nil))))))),?_⟩
  refine ⟨f,ns,0,rfl,hf,ok0,fun d0 H1 s1 fd0 pl0=>?_⟩
  refine ⟨g,ms,1,rfl,s1.seq hg,ok1,fun d1 H2 s2 fd1 pl1=>?_⟩
  refine ⟨sz rfl,fun pp H3 g3=>?_⟩
  have s3:=s1.trans (s2.trans g3.sm)
  refine ⟨a,_,dx,_,rfl,s3 _ _ ha,T.cls_ShiftTongue,T.na_ShiftTongue_places,Nat.lt_of_lt_of_le Nat.zero_lt_one (by decide),?_⟩
  obtain ⟨H4,e4⟩ : ∃ H4,H4=upd H3 a (HO.ins t.c_ShiftTongue dx (putF "places" (.ref pp) [])):=⟨_,rfl⟩
  have a4:H4 a=some (.ins t.c_ShiftTongue dx [("places",.ref pp)]):=by rw [e4,upd_same]; rfl
  have k4:Kp a H3 H4:=by rw [e4]; exact Kp.upd
  rw [<- e4]
  clear e4
  have k04:Kp a H H4:=(Kp.of s3).trans k4
  refine ⟨_,.inl (k04.seq nf hf),fun l0 H5 g5=>?_⟩
  refine ⟨_,.inl ((k04.trans (Kp.of g5.sm)).seq ng hg),fun l1 H6 g6=>?_⟩
  refine ⟨sz rfl,fun pl H7 g7=>?_⟩
  have s47:=g5.sm.trans (g6.sm.trans g7.sm)
  refine ⟨a,_,dx,_,rfl,s47 _ _ a4,T.cls_ShiftTongue,T.na_ShiftTongue_lists,Nat.lt_of_lt_of_le (Nat.lt_succ_self 1) (by decide),?_⟩
  obtain ⟨H8,e8⟩ : ∃ H8,H8=upd H7 a (HO.ins t.c_ShiftTongue dx (putF "lists" (.ref pl) [("places",.ref pp)])):=⟨_,rfl⟩
  have a8:H8 a=some (.ins t.c_ShiftTongue dx [("places",.ref pp),("lists",.ref pl)]):=by rw [e8,upd_same]; rfl
  have k8:Kp a H7 H8:=by rw [e8]; exact Kp.upd
  rw [<- e8]
  clear e8
  have nd0:d0≠a:=(ne_of_none ha fd0).symm
  have nd1:d1≠a:=(ne_of_none (s1 _ _ ha) fd1).symm
  have npp:pp≠a:=(ne_of_none (s2 _ _ (s1 _ _ ha)) g3.nw).symm
  have nl0:l0≠a:=(ne_of_none a4 g5.nw).symm
  have nl1:l1≠a:=(ne_of_none (g5.sm _ _ a4) g6.nw).symm
  have npl:pl≠a:=(ne_of_none (g6.sm _ _ (g5.sm _ _ a4)) g7.nw).symm
  have k38:Kp a H3 H8:=k4.trans ((Kp.of s47).trans k8)
  have k08:Kp a H H8:=(Kp.of s3).trans k38
  obtain ⟨kv0,q0,e0⟩:=pl0
  obtain ⟨kv1,q1,e1⟩:=pl1
  have half:Half t H8 a dx pp pl d0 d1 l0 l1 ns ms:=⟨a8,k38 _ _ npp g3.at_,k8 _ _ npl g7.at_,⟨kv0,k38 _ _ nd0 (g3.sm _ _ (s2 _ _ q0)),e0⟩,⟨kv1,k38 _ _ nd1 (g3.sm _ _ q1),e1⟩,k8 _ _ nl0 (g7.sm _ _ (g6.sm _ _ g5.at_)),k8 _ _ nl1 (g7.sm _ _ g6.at_)⟩
  refine ⟨a,dx,_,rfl,a8,rfl,?_⟩
  refine ⟨a,dx,pp,pl,d0,d1,l0,l1,ns,ms,0,rfl,.inl rfl,half,fun z0 H9 s9 fz0 hz0=>?_⟩
  refine ⟨a,dx,_,rfl,s9 _ _ a8,rfl,?_⟩
  refine ⟨a,dx,pp,pl,d0,d1,l0,l1,ns,ms,1,rfl,.inr rfl,half.mono s9,fun z1 HA sA fz1 hz1=>?_⟩
  refine ⟨sz rfl,fun ps HB gB=>?_⟩
  have s8B:=s9.trans (sA.trans gB.sm)
  refine ⟨a,_,dx,_,rfl,s8B _ _ a8,T.cls_ShiftTongue,T.na_ShiftTongue_shifted,Nat.lt_of_lt_of_le (Nat.lt_succ_self 2) (by decide),?_⟩
  obtain ⟨HC,eC⟩ : ∃ HC,HC=upd HB a (HO.ins t.c_ShiftTongue dx (putF "shifted" (.ref ps) [("places",.ref pp),("lists",.ref pl)])):=⟨_,rfl⟩
  have aC:HC a=some (.ins t.c_ShiftTongue dx [("places",.ref pp),("lists",.ref pl),("shifted",.ref ps)]):=by rw [eC,upd_same]; rfl
  have kC:Kp a HB HC:=by rw [eC]; exact Kp.upd
  rw [<- eC]
  clear eC
  have nz0:z0≠a:=(ne_of_none a8 fz0).symm
  have nz1:z1≠a:=(ne_of_none (s9 _ _ a8) fz1).symm
  have nps:ps≠a:=(ne_of_none (sA _ _ (s9 _ _ a8)) gB.nw).symm
  have k8C:Kp a H8 HC:=(Kp.of s8B).trans kC
  have hB:=half.mono s8B
  have fr : ∀ {c:Addr} {H':Hp},Kp a H H'->c≠a->H' c=none->H c=none:=fun {c H'} k n e=>by
    cases h:H c with
    | none=>rfl
    | some u=>rw [k c u n h] at e; cases e
  refine kq ⟨dx,pp,pl,ps,d0,d1,l0,l1,z0,z1⟩ HC (k08.trans k8C) ⟨aC,kC _ _ npp hB.p,kC _ _ npl hB.l,kC _ _ nps gB.at_,?_,?_,kC _ _ nl0 hB.l0,kC _ _ nl1 hB.l1,kC _ _ nz0 (gB.sm _ _ (sA _ _ hz0)),kC _ _ nz1 (gB.sm _ _ hz1),ok0,ok1⟩ ?_
  · obtain ⟨kv,x,y⟩:=hB.d0
    exact ⟨kv,kC _ _ nd0 x,y⟩
  · obtain ⟨kv,x,y⟩:=hB.d1
    exact ⟨kv,kC _ _ nd1 x,y⟩
  · intro c hc
    simp only [List.mem_cons,List.not_mem_nil,or_false] at hc
    rcases hc with rfl | rfl | rfl | rfl | rfl | rfl | rfl | rfl | rfl
    · exact ⟨npp,s1.free (s2.free g3.nw)⟩
    · exact ⟨npl,fr (k04.trans (Kp.of (g5.sm.trans g6.sm))) npl g7.nw⟩
    · exact ⟨nps,fr (k08.trans (Kp.of (s9.trans sA))) nps gB.nw⟩
    · exact ⟨nd0,fd0⟩
    · exact ⟨nd1,s1.free fd1⟩
    · exact ⟨nl0,fr k04 nl0 g5.nw⟩
    · exact ⟨nl1,fr (k04.trans (Kp.of g5.sm)) nl1 g6.nw⟩
    · exact ⟨nz0,fr k08 nz0 fz0⟩
    · exact ⟨nz1,fr (k08.trans (Kp.of s9)) nz1 fz1⟩
theorem hk_ShiftTongue_0 (T:Txt w K mg t):HasKD P w K mg base "ShiftTongue" t.c_ShiftTongue 5 t.a_ShiftTongue_init t.f_ShiftTongue_init ["self", "first", "second"] [] (spInit K t):=⟨T.gc_ShiftTongue,T.mk_ShiftTongue,⟨[],T.b_ShiftTongue_init,.nil⟩,ok_init T⟩
theorem byd_len (O P:List Int) (g:Int):byd O P g=[]\/∃ b:Nat,(alone O P).head? = some b/\byd O P g=[254+(1 - g),(b:Int)]:=by
  unfold byd
  cases e:(alone O P).head? with
  | none=>exact .inl rfl
  | some b=>exact .inr ⟨b,rfl,rfl⟩
theorem byd_nil (O P:List Int) (g:Int):byd O P g=[] ↔ alone O P=[]:=by
  unfold byd
  cases e:alone O P with
  | nil=>simp
  | cons b r=>simp
def spelF (P O:List Int) (g:Int) (x:V):Option (List Int × Int):=match x with
  | .int n=>match idx P n with
    | some i=>some ([(i:Int)],g)
    | none=>match idx O n with
      | some i=>some ([254+(1 - g),(i:Int)],1 - g)
      | none=>none
  | _=>none
def optV:Option Int->V
  | some n=>.int n
  | none=>.non
theorem at_int {L:List Int} {b n:Int} (b0:0<=b) (h:L[b.toNat]? = some n):atI (L.map V.int) b=some (.int n):=by
  obtain ⟨k,rfl⟩ : ∃ k:Nat,b=(k:Int):=⟨b.toNat,by omega⟩
  exact atI_nat (by rw [List.getElem?_map]; simp at h; rw [h]; rfl)
def spSo (t:Adr):Sp:=fun vs H Q _=>∃ (a:Addr) (f:Fp) (ns ms:List Int) (b g:Int),vs=[.ref a,.int b,.int g]/\Two g/\Tg t H a f ns ms/\0<=b/\Q (optV (sel g ns ms)[b.toNat]?) H
theorem h_ShiftTongue_sign_of (T:Txt w K mg t):HasM P w K mg base t.c_ShiftTongue "sign_of" 1 t.a_ShiftTongue_sign_of t.f_ShiftTongue_sign_of ["self", "byte", "page"] (spSo t):=by
  refine ⟨T.cls_ShiftTongue,T.mt_ShiftTongue_sign_of,T.b_ShiftTongue_sign_of,T.F_ShiftTongue_sign_of.okQ sc_ShiftTongue_sign_of (fun vs H Q E h=>by obtain ⟨a,f,ns,ms,b,g,rfl,_⟩:=h; rfl) fun cdv A outer s H vs Q E hr h=>?_⟩
  obtain ⟨a,f,ns,ms,b,g,rfl,two,tg,b0,k⟩:=h
  refine ⟨_,(q_pss_one (q_ps_ret (q_pe_ifExp (q_mt_cmp g_lt (q_vv 1) (q_calB (c_lenK (K:=K) rfl) T.n_len PySem.boot_len (q_pa_c (q_pe_ix (g_ixK (K:=K) rfl) (q_fldK (K:=K) rfl (q_vv 0)) (q_vv 2) (fun _ _=>rfl)) q_pa_nil)) (nomark _)) (q_pe_ix (g_ixK (K:=K) rfl) (q_pe_ix (g_ixK (K:=K) rfl) (q_fldK (K:=K) rfl (q_vv 0)) (q_vv 2) (fun _ _=>rfl)) (q_vv 1) (fun _ _=>rfl)) q_pe_non))),?_⟩
  have el:atI [V.ref f.l0,V.ref f.l1] g=some (.ref (sel g f.l0 f.l1)):=by rw [at_sel two]; exact congrArg some (sel_map V.ref _ _ _)
  have hl:=tg.ll two
  refine ⟨a,_,f.dx,_,_,rfl,tg.o,T.cls_ShiftTongue,T.na_ShiftTongue_lists,rfl,?_⟩
  refine ⟨_,_,.inl (.of tg.l),el,?_⟩
  refine ⟨_,.inl (.of hl),?_⟩
  refine ite2 (fun z=>?_) (fun z=>?_)
  · have z:b < (((sel g ns ms).map V.int).length:Int):=of_decide_eq_true z
    rw [List.length_map] at z
    refine ⟨a,_,f.dx,_,_,rfl,tg.o,T.cls_ShiftTongue,T.na_ShiftTongue_lists,rfl,?_⟩
    refine ⟨_,_,.inl (.of tg.l),el,?_⟩
    obtain ⟨n,hn⟩ : ∃ n,(sel g ns ms)[b.toNat]? = some n:=⟨_,List.getElem?_eq_getElem (by omega)⟩
    rw [hn] at k
    exact ⟨_,.int n,.inl (.of hl),at_int b0 hn,k⟩
  · have z : ¬ b < (((sel g ns ms).map V.int).length:Int):=fun y=>z (decide_eq_true y)
    rw [List.length_map] at z
    rw [List.getElem?_eq_none (by omega)] at k
    exact k
def RowOk (g:Int) (row:List Int):Prop:=(∃ b,row=[b]/\0<=b)\/∃ c,row=[254+(1 - g),c]/\0<=c
def wholeF (P O:List Int) (g:Int) (row:List Int):Option (Int × Int):=match row with
  | [b]=>P[b.toNat]?.map fun n=>(n,g)
  | [_,c]=>match O[c.toNat]? with
    | some n=>if n∈P then none else some (n,1 - g)
    | none=>none
  | _=>none
def spWh (t:Adr):Sp:=fun vs H Q _=>∃ (a:Addr) (f:Fp) (ns ms:List Int) (q:Addr) (row:List Int) (g:Int),vs=[.ref a,.ref q,.int g]/\Two g/\Tg t H a f ns ms/\H q=some (.lst (row.map V.int))/\RowOk g row /\
  (wholeF (sel g ns ms) (sel g ms ns) g row=none->Q .non H)/\(∀ n g',wholeF (sel g ns ms) (sel g ms ns) g row=some (n,g')->∀ p H',Gro H p (.tup [.int n,.int g']) H'->Q (.ref p) H')
theorem ok_whole (T:Txt w K mg t):FnOk P w K mg base CX0 2 t.a_ShiftTongue_whole t.f_ShiftTongue_whole ["self", "row", "page"] (spWh t):=by
  refine T.F_ShiftTongue_whole.okQ sc_ShiftTongue_whole (fun vs H Q E h=>by obtain ⟨o,f,ns,ms,q,row,g,rfl,_⟩:=h; rfl) fun cdv A outer s H vs Q E hr h=>?_
  obtain ⟨a,f,ns,ms,q,row,g,rfl,two,tg,hq,ok,kn,ks⟩:=h
  have hu:=hr.units
  refine ⟨_,(q_pss_cons (q_ps_if (q_mt_cmp (g_eqK (K:=K) rfl hu) (q_calB (c_lenK (K:=K) rfl) T.n_len PySem.boot_len (q_pa_c (q_vv 1) q_pa_nil)) q_pe_int (nomark _)) (q_pss_cons (q_ps_set (i:=3) sc_ShiftTongue_whole.nd rfl (by first | exact Or.inl rfl | exact Or.inr rfl) (q_meth (h_ShiftTongue_sign_of T) hr (q_vv 0) (q_pa_c (q_pe_ix (g_ixK (K:=K) rfl) (q_vv 1) q_pe_int (fun _ _=>rfl)) (q_pa_c (q_vv 2) q_pa_nil))))
      (q_pss_one (q_ps_ret (q_pe_ifExp (q_mt_cmp g_is (q_vv 3) q_pe_non (nomark _)) q_pe_non (q_me_tup (q_pa_c (q_vv 3) (q_pa_c (q_vv 2) q_pa_nil))))))) q_pss_nil)
      (q_pss_cons (q_ps_if (q_PW_pt (q_pw_and (q_mt_cmp (g_eqK (K:=K) rfl hu) (q_calB (c_lenK (K:=K) rfl) T.n_len PySem.boot_len (q_pa_c (q_vv 1) q_pa_nil)) q_pe_int (nomark _)) (q_pw_and1 (q_mt_cmp (g_eqK (K:=K) rfl hu) (q_pe_ix (g_ixK (K:=K) rfl) (q_vv 1) q_pe_int (fun _ _=>rfl)) (q_pe_ix (g_ixK (K:=K) rfl) (q_pe_glob (v:=.ref t.a_SHIFTS) rfl T.c_SHIFTS rfl) (q_pe_op g_sub q_pe_int (q_vv 2)) (fun _ _=>rfl)) (nomark _))))) (q_pss_cons (q_ps_set (i:=3) sc_ShiftTongue_whole.nd rfl (by first | exact Or.inl rfl | exact Or.inr rfl) (q_meth (h_ShiftTongue_sign_of T) hr (q_vv 0) (q_pa_c (q_pe_ix (g_ixK (K:=K) rfl) (q_vv 1) q_pe_int (fun _ _=>rfl)) (q_pa_c (q_pe_op g_sub q_pe_int (q_vv 2)) q_pa_nil))))
      (q_pss_one (q_ps_ret (q_pe_ifExp (q_PW_pt (q_pw_or (q_mt_cmp g_is (q_vv 3) q_pe_non (nomark _)) (q_pw_or1 (q_mt_cmp (g_inM hu) (q_vv 3) (q_pe_ix (g_ixK (K:=K) rfl) (q_fldK (K:=K) rfl (q_vv 0)) (q_vv 2) (fun _ _=>rfl)) (by with_unfolding_all rfl))))) q_pe_non (q_me_tup (q_pa_c (q_vv 3) (q_pa_c (q_pe_op g_sub q_pe_int (q_vv 2)) q_pa_nil))))))) q_pss_nil)
      (q_pss_one (q_ps_ret q_pe_non)))),?_⟩
  refine ⟨_,.inl (.of hq),?_⟩
  rcases ok with ⟨b,rfl,b0⟩ | ⟨c,rfl,c0⟩
  · refine ⟨a,f.dx,_,rfl,tg.o,rfl,?_⟩
    refine ⟨_,_,.inl (.of hq),atI_nat (j:=0) rfl,?_⟩
    refine ⟨a,f,ns,ms,b,g,rfl,two,tg,b0,?_⟩
    unfold wholeF at kn ks
    dsimp only at kn ks
    cases e:(sel g ns ms)[b.toNat]? with
    | none=>exact kn (by rw [e]; rfl)
    | some n=>exact ⟨sz rfl,fun p H' g'=>ks n g (by rw [e]; rfl) p H' g'⟩
  · have sh:atI (([254,255]:List Int).map V.int) (1 - g)=some (.int (254+(1 - g))):=by
      rcases two with rfl | rfl <;> rfl
    refine ⟨_,.inl (.of hq),?_⟩
    refine ⟨_,_,.inl (.of hq),atI_nat (j:=0) rfl,?_⟩
    refine ⟨_,_,.inr (T.q_SHIFTS _),sh,?_⟩
    refine ite2 (fun _=>?_) (fun z=>absurd (show decide (254+(1 - g)=254+(1 - g))=true by simp) z)
    refine ⟨a,f.dx,_,rfl,tg.o,rfl,?_⟩
    refine ⟨_,_,.inl (.of hq),atI_nat (j:=1) rfl,?_⟩
    refine ⟨a,f,ns,ms,c,1 - g,rfl,two.flip,tg,c0,?_⟩
    rw [sel_flip two]
    unfold wholeF at kn ks
    dsimp only at kn ks
    cases e:(sel g ms ns)[c.toNat]? with
    | none =>
      rw [e] at kn
      exact kn rfl
    | some n =>
      rw [e] at kn ks
      dsimp only at kn ks
      obtain ⟨kv,hkv,vkv⟩:=tg.dk two
      refine ⟨a,_,f.dx,_,_,rfl,tg.o,T.cls_ShiftTongue,T.na_ShiftTongue_places,rfl,?_⟩
      refine ⟨_,.ref (sel g f.d0 f.d1),.inl (.of tg.p),by rw [at_sel two]; exact congrArg some (sel_map V.ref _ _ _),?_⟩
      refine ⟨_,_,rfl,DGet.k (k:=.inl n) hkv,?_⟩
      by_cases hn:n∈sel g ns ms
      · rw [if_pos hn] at kn
        obtain ⟨i,hi,_⟩:=idx_some hn
        have v1:valV kv (.inl n)=some (.int (i:Int)):=by rw [vkv,hi]; rfl
        refine ite2 (fun _=>?_) (fun z=>absurd (show (valV kv (.inl n)).isSome=true by rw [v1]; rfl) z)
        exact kn rfl
      · rw [if_neg hn] at ks
        have v1:valV kv (.inl n)=none:=by rw [vkv,idx_none.mpr hn]; rfl
        refine ite2 (fun z=>absurd (show (valV kv (.inl n)).isSome=true from z) (by rw [v1]; decide)) (fun _=>?_)
        exact ⟨sz rfl,fun p H' g'=>ks n (1 - g) rfl p H' g'⟩
theorem h_ShiftTongue_whole_0 (T:Txt w K mg t):HasMD P w K mg base t.c_ShiftTongue "whole" 2 t.a_ShiftTongue_whole t.f_ShiftTongue_whole ["self", "row", "page"] [] (spWh t) :=
  ⟨T.cls_ShiftTongue,T.mt_ShiftTongue_whole,⟨_,T.b_ShiftTongue_whole,.nil⟩,ok_whole T⟩
def begB (one other:List Int):Bool:=decide (other.take one.length=one)
def spBeg (K:PySem.W.Frag):Sp:=fun vs H Q _=>∃ (a b:Addr) (x y:List Int),vs=[.ref a,.ref b]/\SqL K H a (x.map V.int)/\SqL K H b (y.map V.int)/\∀ H',Same H H'->Q (.bl (begB x y)) H'
theorem cut_to (ns:List Int) (k:Nat):cutV (ns.map V.int) none (some (k:Int))=(ns.take k).map V.int:=by rw [cutV_ints,cutL_to]
theorem h_begins (T:Txt w K mg t):Has P w K mg base "begins" 1 t.a_begins t.f_begins ["one", "other"] (spBeg K):=by
  refine ⟨T.g_begins,T.F_begins.kp,T.b_begins,T.F_begins.okQ sc_begins (fun vs H Q E h=>by obtain ⟨a,b,x,y,rfl,_⟩:=h; rfl) fun cdv A outer s H vs Q E hr h=>?_⟩
  obtain ⟨a,b,x,y,rfl,ha,hb,k⟩:=h
  have hu:=hr.units
  refine ⟨_,(q_pss_one (q_ps_ret (q_pe_cmpR (g_eqK (K:=K) rfl hu) (q_pe_slice (g_slK (K:=K) rfl) (q_vv 1) q_po_none (q_po_some (q_calB (c_lenK (K:=K) rfl) T.n_len PySem.boot_len (q_pa_c (q_vv 0) q_pa_nil)))) (q_vv 0) (nomark _)))),?_⟩
  refine ⟨_,.inl ha,_,rfl,_,hb,fun p1 H1 g1=>?_⟩
  rw [List.length_map,cut_to] at g1
  exact eq_ints g1.lst (g1.sm.seq ha) (k H1 g1.sm)
def filB (P O:List Int) (g:Int) (row:List Int):Bool:=(wholeF P O g row).isSome || (!(byd O P g).isEmpty && begB row (byd O P g))
def spFl (t:Adr):Sp:=fun vs H Q _=>∃ (a:Addr) (f:Fp) (ns ms:List Int) (q:Addr) (row:List Int) (g:Int),vs=[.ref a,.ref q,.int g]/\Two g/\Tg t H a f ns ms/\H q=some (.lst (row.map V.int))/\RowOk g row /\
  (filB (sel g ns ms) (sel g ms ns) g row=false->∀ H',Same H H'->Q .non H')/\(filB (sel g ns ms) (sel g ms ns) g row=true->∀ p (r2:List Int) H',Same H H'->H' p=some (.lst (r2.map V.int))->(wholeF (sel g ns ms) (sel g ms ns) g row=none->r2=(byd (sel g ms ns) (sel g ns ms) g).drop row.length)->Q (.ref p) H')
theorem ok_fill (T:Txt w K mg t):FnOk P w K mg base CX0 3 t.a_ShiftTongue_fill t.f_ShiftTongue_fill ["self", "row", "page"] (spFl t):=by
  refine T.F_ShiftTongue_fill.okQ sc_ShiftTongue_fill (fun vs H Q E h=>by obtain ⟨o,f,ns,ms,q,row,g,rfl,_⟩:=h; rfl) fun cdv A outer s H vs Q E hr h=>?_
  obtain ⟨a,f,ns,ms,q,row,g,rfl,two,tg,hq,ok,kn,ks⟩:=h
  have hu:=hr.units
  refine ⟨_,(q_pss_cons (q_ps_if (q_mt_cmp g_isnot (q_methD (h_ShiftTongue_whole_0 T) hr (q_vv 0) (q_pa_c (q_vv 1) (q_pa_c (q_vv 2) q_pa_nil))) q_pe_non (nomark _)) (q_pss_one (q_ps_ret (q_me_lst q_pa_nil))) q_pss_nil)
      (q_pss_cons (q_ps_if (q_PW_pt (q_pw_and (q_pt_not (q_mt_truK (K:=K) rfl (q_vv 1))) (q_pw_and1 (q_mt_truK (K:=K) rfl (q_pe_ix (g_ixK (K:=K) rfl) (q_fldK (K:=K) rfl (q_vv 0)) (q_vv 2) (fun _ _=>rfl)))))) (q_pss_one (q_ps_ret (q_me_lst (q_pa_c q_pe_int q_pa_nil)))) q_pss_nil)
      (q_pss_cons (q_ps_if (q_PW_pt (q_pw_and (q_mt_truK (K:=K) rfl (q_pe_ix (g_ixK (K:=K) rfl) (q_fldK (K:=K) rfl (q_vv 0)) (q_vv 2) (fun _ _=>rfl))) (q_pw_and1 (q_mt_val (q_cal (h_begins T) hr (q_pa_c (q_vv 1) (q_pa_c (q_pe_ix (g_ixK (K:=K) rfl) (q_fldK (K:=K) rfl (q_vv 0)) (q_vv 2) (fun _ _=>rfl)) q_pa_nil))))))) (q_pss_one (q_ps_ret (q_pe_slice (g_slK (K:=K) rfl) (q_pe_ix (g_ixK (K:=K) rfl) (q_fldK (K:=K) rfl (q_vv 0)) (q_vv 2) (fun _ _=>rfl)) (q_po_some (q_calB (c_lenK (K:=K) rfl) T.n_len PySem.boot_len (q_pa_c (q_vv 1) q_pa_nil))) q_po_none))) q_pss_nil)
      (q_pss_one (q_ps_ret q_pe_non))))),?_⟩
  refine ⟨a,f.dx,_,rfl,tg.o,rfl,?_⟩
  refine ⟨a,f,ns,ms,q,row,g,rfl,two,tg,hq,ok,fun hw=>?_,fun n g' hw p H1 g1=>?_⟩
  · have rne:row≠[]:=by
      rcases ok with ⟨b,rfl,_⟩ | ⟨c,rfl,_⟩ <;> simp
    have rt:(!(row.map V.int).isEmpty)=true:=by
      cases row with
      | nil=>exact absurd rfl rne
      | cons _ _=>rfl
    refine ⟨_,.inl (.of hq),?_⟩
    refine ite2 (fun z=>absurd (show (!(!(row.map V.int).isEmpty))=true from z) (by rw [rt]; decide)) (fun _=>?_)
    have es:atI [V.ref f.s0,V.ref f.s1] g=some (.ref (sel g f.s0 f.s1)):=by rw [at_sel two]; exact congrArg some (sel_map V.ref _ _ _)
    have hs:=tg.ss two
    refine ⟨a,_,f.dx,_,_,rfl,tg.o,T.cls_ShiftTongue,T.na_ShiftTongue_shifted,rfl,?_⟩
    refine ⟨_,_,.inl (.of tg.s),es,?_⟩
    refine ⟨_,.inl (.of hs),?_⟩
    unfold filB at kn ks
    rw [hw] at kn ks
    refine ite2 (fun z=>?_) (fun z=>?_)
    · have z:(!((byd (sel g ms ns) (sel g ns ms) g).map V.int).isEmpty)=true:=z
      rw [List.isEmpty_map] at z
      rw [z] at kn ks
      refine ⟨a,_,f.dx,_,_,rfl,tg.o,T.cls_ShiftTongue,T.na_ShiftTongue_shifted,rfl,?_⟩
      refine ⟨_,_,.inl (.of tg.s),es,?_⟩
      refine ⟨q,sel g f.s0 f.s1,row,_,rfl,.of hq,.of hs,fun H1 s1=>?_⟩
      refine ite2 (fun y=>?_) (fun y=>?_)
      · have y:begB row (byd (sel g ms ns) (sel g ns ms) g)=true:=y
        rw [y] at ks
        have tg1:=tg.mono s1
        refine ⟨a,_,f.dx,_,_,rfl,tg1.o,T.cls_ShiftTongue,T.na_ShiftTongue_shifted,rfl,?_⟩
        refine ⟨_,_,.inl (.of tg1.s),es,?_⟩
        refine ⟨_,.inl (.of (s1 _ _ hq)),_,rfl,_,.of (s1 _ _ hs),fun p2 H2 g2=>?_⟩
        rw [List.length_map,cutV_ints,cutL_from] at g2
        exact ks rfl p2 _ H2 (s1.trans g2.sm) g2.at_ (fun _=>rfl)
      · have y:begB row (byd (sel g ms ns) (sel g ns ms) g)=false:=by
          cases e:begB row (byd (sel g ms ns) (sel g ns ms) g) with
          | false=>rfl
          | true=>exact absurd e y
        rw [y] at kn
        exact kn rfl H1 s1
    · have z:(!((byd (sel g ms ns) (sel g ns ms) g).map V.int).isEmpty)=false:=by
        cases e:(!((byd (sel g ms ns) (sel g ns ms) g).map V.int).isEmpty) with
        | false=>rfl
        | true=>exact absurd e z
      rw [List.isEmpty_map] at z
      rw [z] at kn
      exact kn rfl H (Same.refl _)
  · refine ⟨sz rfl,fun p2 H2 g2=>?_⟩
    exact ks (by unfold filB; rw [hw]; rfl) p2 [] H2 (g1.sm.trans g2.sm) g2.at_ (fun h=>by rw [hw] at h; cases h)
theorem h_ShiftTongue_fill_0 (T:Txt w K mg t):HasMD P w K mg base t.c_ShiftTongue "fill" 3 t.a_ShiftTongue_fill t.f_ShiftTongue_fill ["self", "row", "page"] [] (spFl t) :=
  ⟨T.cls_ShiftTongue,T.mt_ShiftTongue_fill,⟨_,T.b_ShiftTongue_fill,.nil⟩,ok_fill T⟩
def lookF (P O:List Int) (g:Int) (row:List Int):List V:=match wholeF P O g row with
  | some (n,g')=>[.str "sign",.int n,.int g']
  | none=>if filB P O g row=true then [.str "more",.non,.int g] else [.str "none",.non,.int g]
def aloneI (P O:List Int):List Int:=(alone P O).map fun b:Nat=>(b:Int)
theorem mem_aloneI {O P:List Int} {c:Int} (c0:0<=c):c∈aloneI O P ↔ ∃ n,O[c.toNat]? = some n/\n∉P:=by
  unfold aloneI
  rw [List.mem_map]
  constructor
  · rintro ⟨b,hb,rfl⟩
    simpa using mem_alone.mp hb
  · rintro h
    exact ⟨c.toNat,mem_alone.mpr h,by omega⟩
theorem aloneI_nil {O P:List Int}:aloneI O P=[] ↔ alone O P=[]:=by unfold aloneI; simp
theorem look1 {P O:List Int} {g b:Int} (b0:0<=b):lookF P O g [b]=match P[b.toNat]? with
    | some n=>[.str "sign",.int n,.int g]
    | none=>if b=254+(1 - g)/\aloneI O P≠[] then [.str "more",.non,.int g] else [.str "none",.non,.int g]:=by
  have hw:wholeF P O g [b]=P[b.toNat]?.map fun n=>(n,g):=rfl
  unfold lookF
  rw [hw]
  cases e:P[b.toNat]? with
  | some n=>rfl
  | none =>
    have hw':wholeF P O g [b]=none:=by rw [hw,e]; rfl
    dsimp only [Option.map]
    unfold filB
    rw [hw']
    rcases byd_len O P g with hb | ⟨i,hi,hb⟩
    · have ha:=aloneI_nil.mpr ((byd_nil O P g).mp hb)
      rw [hb,ha]
      simp
    · have ha:aloneI O P≠[]:=fun z=>by
        rw [aloneI_nil.mp z] at hi
        cases hi
      rw [hb]
      unfold begB
      by_cases c:b=254+(1 - g)
      · simp [c,ha]
      · have c' : ¬ 254+(1 - g)=b:=fun z=>c z.symm
        simp [c,c']
theorem look2 {P O:List Int} {g c:Int} (c0:0<=c):lookF P O g [254+(1 - g),c]=if c∈aloneI O P then [.str "sign",.int (O.getD c.toNat 0),.int (1 - g)] else [.str "none",.non,.int g]:=by
  by_cases h:c∈aloneI O P
  · rw [if_pos h]
    obtain ⟨n,hn,hp⟩:=(mem_aloneI c0).mp h
    unfold lookF wholeF
    simp [hn,hp,List.getD_eq_getElem?_getD]
  · rw [if_neg h]
    have hw:wholeF P O g [254+(1 - g),c]=none:=by
      unfold wholeF
      dsimp only
      cases e:O[c.toNat]? with
      | none=>rfl
      | some n =>
        dsimp only
        rw [if_pos]
        exact Decidable.byContradiction fun z=>h ((mem_aloneI c0).mpr ⟨n,e,z⟩)
    have hf:filB P O g [254+(1 - g),c]=false:=by
      unfold filB
      rw [hw]
      rcases byd_len O P g with hb | ⟨i,hi,hb⟩
      · rw [hb]; rfl
      · rw [hb]
        unfold begB
        have : ¬ (i:Int)=c:=fun z=>h (by
          unfold aloneI
          exact List.mem_map.mpr ⟨i,List.mem_of_mem_head? hi,z⟩)
        simp [this]
    unfold lookF
    rw [hw,hf]
    rfl
structure EntH (H:Hp) (p:Addr) (s:Int) (r:List Int):Prop where
  h : ∃ q,H p=some (.tup [.int s,.ref q])/\H q=some (.lst (r.map V.int))
  l:1<=r.length/\r.length<=6
theorem EntH.mono {H H':Hp} {p:Addr} {s:Int} {r:List Int} (h:EntH H p s r) (k:Same H H'):EntH H' p s r:=by
  obtain ⟨⟨q,a,b⟩,l⟩:=h
  exact ⟨⟨q,k _ _ a,k _ _ b⟩,l⟩
def colB (e f:Int × List Int):Bool:=decide (e.1=f.1) || begB e.2 f.2 || begB f.2 e.2
def spCol:Sp:=fun vs H Q _=>∃ (a b:Addr) (e f:Int × List Int),vs=[.ref a,.ref b]/\EntH H a e.1 e.2/\EntH H b f.1 f.2/\∀ H',Same H H'->Q (.bl (colB e f)) H'
theorem h_collide (T:Txt w K mg t):Has P w K mg base "collide" 2 t.a_collide t.f_collide ["one", "other"] spCol:=by
  refine ⟨T.g_collide,T.F_collide.kp,T.b_collide,T.F_collide.okQ sc_collide (fun vs H Q E h=>by obtain ⟨a,b,x,y,rfl,_⟩:=h; rfl) fun cdv A outer s H vs Q E hr h=>?_⟩
  obtain ⟨a,b,⟨s1,r1⟩,⟨s2,r2⟩,rfl,⟨⟨q1,ha,hq1⟩,_⟩,⟨⟨q2,hb,hq2⟩,_⟩,k⟩:=h
  dsimp only at ha hq1 hb hq2
  have hu:=hr.units
  refine ⟨_,(q_pss_one (q_ps_ret (q_me_or (q_pe_cmpR (g_eqK (K:=K) rfl hu) (q_pe_ix (g_ixK (K:=K) rfl) (q_vv 0) q_pe_int (fun _ _=>rfl)) (q_pe_ix (g_ixK (K:=K) rfl) (q_vv 1) q_pe_int (fun _ _=>rfl)) (nomark _)) (q_me_or (q_cal (h_begins T) hr (q_pa_c (q_pe_ix (g_ixK (K:=K) rfl) (q_vv 0) q_pe_int (fun _ _=>rfl)) (q_pa_c (q_pe_ix (g_ixK (K:=K) rfl) (q_vv 1) q_pe_int (fun _ _=>rfl)) q_pa_nil))) (q_pe_one (q_cal (h_begins T) hr (q_pa_c (q_pe_ix (g_ixK (K:=K) rfl) (q_vv 1) q_pe_int (fun _ _=>rfl)) (q_pa_c (q_pe_ix (g_ixK (K:=K) rfl) (q_vv 0) q_pe_int (fun _ _=>rfl)) q_pa_nil)))))))),?_⟩
  refine ⟨_,_,.inr (.of ha),atI_nat (j:=0) rfl,?_⟩
  refine ⟨_,_,.inr (.of hb),atI_nat (j:=0) rfl,?_⟩
  refine ite2 (fun z=>?_) (fun z=>?_)
  · refine fitB (k H (Same.refl _)) ?_
    have z:decide (s1=s2)=true:=z
    show (decide (s1=s2) || begB r1 r2 || begB r2 r1)=true
    rw [z]; rfl
  have z : ¬ decide (s1=s2)=true:=z
  refine ⟨_,_,.inr (.of ha),atI_nat (j:=1) rfl,?_⟩
  refine ⟨_,_,.inr (.of hb),atI_nat (j:=1) rfl,?_⟩
  refine ⟨q1,q2,r1,r2,rfl,.of hq1,.of hq2,fun H1 k1=>?_⟩
  refine ite2 (fun y=>?_) (fun y=>?_)
  · refine fitB (k H1 k1) ?_
    have y:begB r1 r2=true:=y
    show (decide (s1=s2) || begB r1 r2 || begB r2 r1)=true
    rw [y]; simp
  have y : ¬ begB r1 r2=true:=y
  refine ⟨_,_,.inr (.of (k1 _ _ hb)),atI_nat (j:=1) rfl,?_⟩
  refine ⟨_,_,.inr (.of (k1 _ _ ha)),atI_nat (j:=1) rfl,?_⟩
  refine ⟨q2,q1,r2,r1,rfl,.of (k1 _ _ hq2),.of (k1 _ _ hq1),fun H2 k2=>?_⟩
  refine fitB (k H2 (k1.trans k2)) ?_
  show (decide (s1=s2) || begB r1 r2 || begB r2 r1)=begB r2 r1
  simp at z y
  simp [z,y]
structure Es (es:List (Int × List Int)):Prop where
  sg : ∀ e∈es,Sg e.1/\1<=e.2.length/\e.2.length<=6/\∀ b∈e.2,0<=b/\b<=255
  pw:es.Pairwise fun e f=>colB e f=false
  l:es.length<=64
theorem col_symm (e f:Int × List Int):colB e f=colB f e:=by
  unfold colB
  rw [show decide (e.1=f.1)=decide (f.1=e.1) by simp [eq_comm],Bool.or_assoc,Bool.or_assoc,Bool.or_comm (begB e.2 f.2)]
theorem Es.two {es:List (Int × List Int)} (h:Es es) {e f:Int × List Int} (he:e∈es) (hf:f∈es):e=f\/colB e f=false:=by
  obtain ⟨i,hi,rfl⟩:=List.mem_iff_getElem.mp he
  obtain ⟨j,hj,rfl⟩:=List.mem_iff_getElem.mp hf
  rcases Nat.lt_trichotomy i j with c | c | c
  · exact .inr (List.pairwise_iff_getElem.mp h.pw i j hi hj c)
  · subst c; exact .inl rfl
  · rw [col_symm]; exact .inr (List.pairwise_iff_getElem.mp h.pw j i hj hi c)
def EnH (H:Hp) (ps:List Addr) (es:List (Int × List Int)):Prop:=All2 (fun a e=>EntH H a e.1 e.2) ps es
theorem EnH.mono {H H':Hp} {ps:List Addr} {es:List (Int × List Int)} (h:EnH H ps es) (s:Same H H'):EnH H' ps es:=h.imp fun a e z=>z.mono s
def spYes (K:PySem.W.Frag):Sp:=fun vs H Q _=>∃ (q:Addr) (r:List Int),vs=[.ref q]/\H q=some (.lst (r.map V.int))/\(∀ b∈r,0<=b/\b<=255)/\r.length<=1000/\∀ H',Same H H'->Q (.bl true) H'
theorem h_is_row (T:Txt w K mg t):Has P w K mg base "is_row" 3 t.a_is_row t.f_is_row ["thing"] (spYes K):=by
  refine ⟨T.g_is_row,T.F_is_row.kp,T.b_is_row,T.F_is_row.okQ sc_is_row (fun vs H Q E h=>by obtain ⟨q,r,rfl,_⟩:=h; rfl) fun cdv A outer s H vs Q E hr h=>?_⟩
  obtain ⟨q,r,rfl,hq,hb,hl,k⟩:=h
  refine ⟨_,(q_pss_one (q_ps_ret (q_me_and (q_calB (c_instK (K:=K) rfl) T.n_isinstance PyProof.Rows.boot_isinstance (q_pa_c (q_vv 0) (q_pa_c (q_bty rfl T.n_list PyProof.Rows.boot_list) q_pa_nil))) (q_pe_one (q_calB (c_allK (K:=K) rfl rfl) T.n_all PyProof.Rows.boot_all (q_pa_c (q_pe_comp rfl (CompScope.of (fns:=(defScope s_is_row).names) (N:=["thing"]) (Nc:=["each"]) (nv:=1) (caps:=[]) rfl rfl (by decide +kernel)) (q_pi_listK (K:=K) rfl (q_vv 0)) (fun _ _ _ _=>(q_pg_name (i:=0) (show List.Nodup (["each"]:List Str) by decide +kernel) rfl (Or.inl rfl) (Or.inr rfl))) (fun _ _ _ _=>q_pts_nil) (fun _ _ _ _=>(q_cal (h_is_byte T) hr (q_pa_c (q_vv 0) q_pa_nil)))) q_pa_nil)))))),?_⟩
  refine ⟨_,_,.lst hq,by with_unfolding_all rfl,?_⟩
  refine iteT ?_
  refine ⟨q,rfl,⟨_,.of hq⟩,comp_to ((r.map fun _=>true).map V.bl) (by simp) (.of hq) (szl (by rw [List.length_map]; omega)) (fun i x y H4 N hx hy s4 hN=>?_) fun p3 H3 g3=>?_⟩
  · obtain ⟨o,ho,rfl⟩:=ints_at hx
    rw [List.getElem?_map,List.getElem?_map,ho] at hy
    cases hy
    have:=hb o (List.mem_of_getElem? ho)
    exact ⟨_,rfl,.int _,fitB (hN _ (Same.refl _)) (by simp [wthn]; omega)⟩
  refine ⟨_,g3.lst,?_⟩
  exact fitB (k H3 g3.sm) (by simp)
def spEnt (K:PySem.W.Frag):Sp:=fun vs H Q _=>∃ (p:Addr) (e:Int × List Int),vs=[.ref p]/\EntH H p e.1 e.2/\Sg e.1/\(∀ b∈e.2,0<=b/\b<=255)/\∀ H',Same H H'->Q (.bl true) H'
theorem h_is_entry (T:Txt w K mg t):Has P w K mg base "is_entry" 4 t.a_is_entry t.f_is_entry ["thing"] (spEnt K):=by
  refine ⟨T.g_is_entry,T.F_is_entry.kp,T.b_is_entry,T.F_is_entry.okQ sc_is_entry (fun vs H Q E h=>by obtain ⟨p,e,rfl,_⟩:=h; rfl) fun cdv A outer s H vs Q E hr h=>?_⟩
  obtain ⟨p,⟨sg,r⟩,rfl,⟨⟨q,hp,hq⟩,l1,l6⟩,hs,hb,k⟩:=h
  dsimp only at hp hq l1 l6 hs hb
  have hu:=hr.units
  refine ⟨_,(q_pss_cons (q_ps_if (q_PW_pt (q_pw_or (q_pt_not (q_mt_val (q_calB (c_instK (K:=K) rfl) T.n_isinstance PyProof.Rows.boot_isinstance (q_pa_c (q_vv 0) (q_pa_c (q_bty rfl T.n_tuple PyProof.Rows.boot_tuple) q_pa_nil))))) (q_pw_or1 (q_mt_cmp (g_neK (K:=K) rfl hu) (q_calB (c_lenK (K:=K) rfl) T.n_len PySem.boot_len (q_pa_c (q_vv 0) q_pa_nil)) q_pe_int (nomark _))))) (q_pss_one (q_ps_ret q_pe_bl)) q_pss_nil)
      (q_pss_one (q_ps_ret (q_me_and (q_cal (h_is_sign T) hr (q_pa_c (q_pe_ix (g_ixK (K:=K) rfl) (q_vv 0) q_pe_int (fun _ _=>rfl)) q_pa_nil)) (q_me_and (q_cal (h_is_row T) hr (q_pa_c (q_pe_ix (g_ixK (K:=K) rfl) (q_vv 0) q_pe_int (fun _ _=>rfl)) q_pa_nil)) (q_pe_one (q_me_chain g_le g_le q_pe_int (q_calB (c_lenK (K:=K) rfl) T.n_len PySem.boot_len (q_pa_c (q_pe_ix (g_ixK (K:=K) rfl) (q_vv 0) q_pe_int (fun _ _=>rfl)) q_pa_nil)) (q_gi T.c_MOST_BYTES)))))))),?_⟩
  refine ⟨_,_,.tup hp,by with_unfolding_all rfl,?_⟩
  refine ite2 (fun z=>absurd z (by decide)) (fun _=>?_)
  refine ⟨_,.inr (.of hp),?_⟩
  refine ⟨_,_,.inr (.of hp),atI_nat (j:=0) rfl,?_⟩
  refine ⟨_,rfl,.int _,?_⟩
  refine ite2 (fun _=>?_) (fun z=>absurd ((sg_iff sg).mpr hs) z)
  refine ⟨_,_,.inr (.of hp),atI_nat (j:=1) rfl,?_⟩
  refine ⟨q,r,rfl,hq,hb,by omega,fun H1 s1=>?_⟩
  refine iteT ?_
  refine ⟨_,_,.inr (.of (s1 _ _ hp)),atI_nat (j:=1) rfl,?_⟩
  refine ⟨_,.inl (.of (s1 _ _ hq)),?_⟩
  refine ite2 (fun z=>?_) (fun z=>?_)
  · exact fitB (k H1 s1) (by rw [List.length_map]; simp; omega)
  · exact absurd (show decide ((1:Int)<=((r.map V.int).length:Int))=true by rw [List.length_map]; simp; omega) z
def spCk:Sp:=fun vs H Q _=>∃ (a:Addr) (ps:List Addr) (es:List (Int × List Int)),vs=[.ref a]/\H a=some (.lst (ps.map V.ref))/\EnH H ps es/\Es es/\∀ H',Same H H'->Q .non H'
theorem cut_toV (xs:List V) (k:Nat):cutV xs none (some (k:Int))=xs.take k:=cutL_to xs k
theorem refs_at {qs:List Addr} {i:Nat} {x:V} (h:(qs.map V.ref)[i]? = some x) : ∃ q,qs[i]? = some q/\x=.ref q:=by
  rw [List.getElem?_map] at h
  obtain ⟨q,hq,rfl⟩:=Option.map_eq_some_iff.mp h
  exact ⟨q,hq,rfl⟩
theorem h_check_table (T:Txt w K mg t):Has P w K mg base "check_table" 5 t.a_check_table t.f_check_table ["rows"] spCk:=by
  refine ⟨T.g_check_table,T.F_check_table.kp,T.b_check_table,T.F_check_table.okQ sc_check_table (fun vs H Q E h=>by obtain ⟨a,ps,es,rfl,_⟩:=h; rfl) fun cdv A outer s H vs Q E hr h=>?_⟩
  obtain ⟨a,ps,es,rfl,ha,en,ok,k⟩:=h
  have hu:=hr.units
  refine ⟨_,(q_pss_cons (q_ps_if (q_mt_cmp g_gt (q_calB (c_lenK (K:=K) rfl) T.n_len PySem.boot_len (q_pa_c (q_vv 0) q_pa_nil)) (q_gi T.c_MOST_TUPLES) (nomark _)) (q_pss_one q_ps_never) q_pss_nil)
      (q_pss_one (q_ps_for PassesOwn.never rfl (q_pi_enumK (K:=K) rfl rfl T.n_enumerate (q_pa_c (q_vv 0) q_pa_nil)) (q_pg_tupK (K:=K) rfl rfl (q_pgs_cons (q_pg_name (i:=1) sc_check_table.nd rfl (by first | exact Or.inl rfl | exact Or.inr rfl)) (q_pgs_cons (q_pg_name (i:=2) sc_check_table.nd rfl (by first | exact Or.inl rfl | exact Or.inr rfl)) q_pgs_nil))) (q_pss_cons (q_ps_if (q_pt_not (q_mt_val (q_cal (h_is_entry T) hr (q_pa_c (q_vv 2) q_pa_nil)))) (q_pss_one q_ps_never) q_pss_nil)
      (q_pss_one (q_ps_for PassesOwn.never rfl (q_pi_enumK (K:=K) rfl rfl T.n_enumerate (q_pa_c (q_pe_slice (g_slK (K:=K) rfl) (q_vv 0) q_po_none (q_po_some (q_vv 1))) q_pa_nil)) (q_pg_tupK (K:=K) rfl rfl (q_pgs_cons (q_pg_name (i:=3) sc_check_table.nd rfl (by first | exact Or.inl rfl | exact Or.inr rfl)) (q_pgs_cons (q_pg_name (i:=4) sc_check_table.nd rfl (by first | exact Or.inl rfl | exact Or.inr rfl)) q_pgs_nil))) (q_pss_one (q_ps_if (q_mt_val (q_cal (h_collide T) hr (q_pa_c (q_vv 4) (q_pa_c (q_vv 2) q_pa_nil)))) (q_pss_one q_ps_never) q_pss_nil)))))))),?_⟩
  have lp:ps.length=es.length:=en.1
  have l64:=ok.l
  refine ⟨_,.inl (.of ha),?_⟩
  refine ite2 (fun z=>?_) (fun _=>?_)
  · have z:((ps.map V.ref).length:Int) > 64:=of_decide_eq_true z
    rw [List.length_map] at z
    omega
  refine ⟨a,_,rfl,.of ha,for_enum (K:=K) (a:=a) (xs:=ps.map V.ref) (fun i σ H'=>Same H H'/\∃ v1 v2 v3 v4,σ=[some (.ref a),v1,v2,v3,v4]) ⟨Same.refl _,_,_,_,_,rfl⟩ (fun i σ H' _ z=>z.1.seq (.of ha)) ?_ ?_⟩
  · rintro i x p σ H2 H3 hx ⟨s2,v1,v2,v3,v4,rfl⟩ g3
    obtain ⟨px,hpx,rfl⟩:=refs_at hx
    obtain ⟨e,he,ee⟩:=en.right hpx
    refine ⟨p,_,rfl,g3.tup,rfl,_,_,rfl,_,_,rfl,rfl,?_⟩
    have s3:=s2.trans g3.sm
    obtain ⟨k1,k2,k3,k4⟩:=ok.sg e (List.mem_of_getElem? he)
    refine ⟨px,e,rfl,ee.mono s3,k1,k4,fun H4 s4=>?_⟩
    refine ite2 (fun z=>absurd (show (!true)=true from z) (by decide)) (fun _=>?_)
    have s04:=s3.trans s4
    refine ⟨_,rfl,_,s04.seq (.of ha),fun p1 H5 g5=>?_⟩
    rw [cut_toV] at g5
    have s05:=s04.trans g5.sm
    refine ⟨p1,_,rfl,g5.lst,for_enum (K:=K) (a:=p1) (xs:=(ps.map V.ref).take i) (fun j σ H'=>Same H5 H'/\∃ v3 v4,σ=[some (.ref a),some (.int (i:Int)),some (.ref px),v3,v4]) ⟨Same.refl _,_,_,rfl⟩ (fun i σ H' _ z=>z.1.seq g5.lst) ?_ ?_⟩
    · rintro j u pj σ H6 H7 hju ⟨s6,v3,v4,rfl⟩ g7
      have hji:j < i:=by have:=(List.getElem?_eq_some_iff.mp hju).1; rw [List.length_take] at this; omega
      rw [List.getElem?_take_of_lt hji] at hju
      obtain ⟨pu,hpu,rfl⟩:=refs_at hju
      obtain ⟨f,hf,ef⟩:=en.right hpu
      refine ⟨pj,_,rfl,g7.tup,rfl,_,_,rfl,_,_,rfl,rfl,?_⟩
      have s07:=s05.trans (s6.trans g7.sm)
      refine ⟨pu,px,f,e,rfl,ef.mono s07,ee.mono s07,fun H8 s8=>?_⟩
      have nc:colB f e=false:=by
        obtain ⟨a1,e1⟩:=List.getElem?_eq_some_iff.mp hf
        obtain ⟨a2,e2⟩:=List.getElem?_eq_some_iff.mp he
        rw [<- e1,<- e2]
        exact List.pairwise_iff_getElem.mp ok.pw j i a1 a2 hji
      refine ite2 (fun z=>absurd (show colB f e=true from z) (by rw [nc]; decide)) (fun _=>?_)
      exact ⟨s6.trans (g7.sm.trans s8),_,_,rfl⟩
    · rintro σ H6 ⟨s6,v3,v4,rfl⟩
      exact ⟨s05.trans s6,_,_,_,_,rfl⟩
  · rintro σ H2 ⟨s2,_⟩
    exact k H2 s2
structure Ft where
  dx:Addr
  d1:Addr
  d2:Addr
  d3:Addr
def keyOf (r:List Int):List Key:=r.map Sum.inl
theorem keys_of (r:List Int):r.map V.int=(keyOf r).map kV:=by
  unfold keyOf
  rw [List.map_map]; rfl
theorem keyOf_inj {r s:List Int} (h:keyOf r=keyOf s):r=s:=by
  unfold keyOf at h
  induction r generalizing s with
  | nil=>cases s with
    | nil=>rfl
    | cons _ _=>cases h
  | cons x r ih=>cases s with
    | nil=>cases h
    | cons y s=>simp at h; rw [h.1,ih (by simpa using h.2)]
def Rst (H:Hp) (k3:List (List Key × V)) (es:List (Int × List Int)) (rr:List Int):Prop:=∃ (q:Addr) (r2:List Int),valV k3 (keyOf rr)=some (.ref q)/\H q=some (.tup (r2.map V.int))/\∃ e'∈es,e'.2=rr++r2
structure Kv (H:Hp) (k1:List (Key × V)) (k2 k3:List (List Key × V)) (es:List (Int × List Int)):Prop where
  a : ∀ e∈es,∃ q,valV k1 (.inl e.1)=some (.ref q)/\H q=some (.tup (e.2.map V.int))
  b : ∀ e∈es,valV k2 (keyOf e.2)=some (.int e.1)
  b' : ∀ r:List Int,(∀ e∈es,e.2≠r)->valV k2 (keyOf r)=none
  c : ∀ e∈es,∀ m,m<=e.2.length->Rst H k3 es (e.2.take m)
structure Tt (t:Adr) (H:Hp) (a:Addr) (f:Ft) (es:List (Int × List Int)) (n:Nat):Prop where
  o:H a=some (.ins t.c_TableTongue f.dx [("row_by_sign",.ref f.d1),("sign_by_row",.ref f.d2),("rest_by_row",.ref f.d3)])
  k : ∃ k1 k2 k3,H f.d1=some (.dK k1)/\H f.d2=some (.dT k2)/\H f.d3=some (.dT k3)/\k1.length<=n/\k2.length<=n/\k3.length<=n/\Kv H k1 k2 k3 es
  ne:f.d2≠f.d3
variable {H H':Hp} {a:Addr} {f:Ft} {es:List (Int × List Int)} {n:Nat}
theorem Kv.mono {k1:List (Key × V)} {k2 k3:List (List Key × V)} (h:Kv H k1 k2 k3 es) (s : ∀ q xs,H q=some (.tup xs)->H' q=some (.tup xs)):Kv H' k1 k2 k3 es:=by
  refine ⟨fun e he=>?_,h.b,h.b',fun e he m hm=>?_⟩
  · obtain ⟨q,x,y⟩:=h.a e he
    exact ⟨q,x,s _ _ y⟩
  · obtain ⟨q,r2,x,y,z⟩:=h.c e he m hm
    exact ⟨q,r2,x,s _ _ y,z⟩
theorem Tt.mono (h:Tt t H a f es n) (s:Same H H'):Tt t H' a f es n:=by
  obtain ⟨o,⟨k1,k2,k3,a1,a2,a3,l1,l2,l3,kv⟩,ne⟩:=h
  exact ⟨s _ _ o,⟨k1,k2,k3,s _ _ a1,s _ _ a2,s _ _ a3,l1,l2,l3,kv.mono fun q xs e=>s _ _ e⟩,ne⟩
theorem ne_kind {c d:Addr} {u v:HO} (h:H c=some u) (k:H d=some v) (n:u≠v):c≠d:=fun z=>by rw [z,k] at h; exact n (Option.some.inj h).symm
def Out (f:Ft) (H H':Hp):Prop:=∀ c u,c≠f.d1->c≠f.d2->c≠f.d3->H c=some u->H' c=some u
theorem Out.trans {H H1 H2:Hp} (h:Out f H H1) (h':Out f H1 H2):Out f H H2:=fun c u n1 n2 n3 e=>h' c u n1 n2 n3 (h c u n1 n2 n3 e)
theorem Out.of {H H1:Hp} (h:Same H H1):Out f H H1:=fun c u _ _ _ e=>h c u e
theorem Tt.tup {q:Addr} {xs:List V} (h:Tt t H a f es n) (hq:H q=some (.tup xs)) (k:Out f H H'):H' q=some (.tup xs):=by
  obtain ⟨o,⟨k1,k2,k3,a1,a2,a3,_⟩,ne⟩:=h
  exact k _ _ (ne_kind hq a1 (by intro z; cases z)) (ne_kind hq a2 (by intro z; cases z)) (ne_kind hq a3 (by intro z; cases z)) hq
def spEnter (t:Adr):Sp:=fun vs H Q _=>∃ (a:Addr) (f:Ft) (q:Addr) (n:Nat) (s:Int) (r:List Int) (es:List (Int × List Int)),vs=[.ref a,.int s,.ref q]/\Tt t H a f es n/\H q=some (.tup (r.map V.int))/\r.length<=6/\n<=1000/\(∀ e∈es,e.1≠s/\e.2≠r) /\
  ∀ H',Tt t H' a f (es++[(s,r)]) (n+9)->Out f H H'->Q .non H'
theorem h_TableTongue_enter (T:Txt w K mg t):HasM P w K mg base t.c_TableTongue "enter" 1 t.a_TableTongue_enter t.f_TableTongue_enter ["self", "sign", "row"] (spEnter t):=by
  refine ⟨T.cls_TableTongue,T.mt_TableTongue_enter,T.b_TableTongue_enter,T.F_TableTongue_enter.okQ sc_TableTongue_enter (fun vs H Q E h=>by obtain ⟨a,f,q,n,s,r,es,rfl,_⟩:=h; rfl) fun cdv A outer s H vs Q E hr h=>?_⟩
  obtain ⟨a,f,q,n,sg,r,es,rfl,tb,hq,lr,ln,new,k⟩:=h
  have hu:=hr.units
  obtain ⟨o,⟨k1,k2,k3,a1,a2,a3,l1,l2,l3,kv⟩,ne⟩:=id tb
  refine ⟨_,(q_pss_cons (q_dputM hu (q_fldK (K:=K) rfl (q_vv 0)) (q_vv 1) (q_vv 2))
      (q_pss_cons (q_dputM hu (q_fldK (K:=K) rfl (q_vv 0)) (q_vv 2) (q_vv 1))
      (q_pss_one (q_ps_for PassesOwn.never rfl (q_pi_range1 rfl T.n_range (q_pa_c (q_pe_op (g_addK (K:=K) rfl) (q_calB (c_lenK (K:=K) rfl) T.n_len PySem.boot_len (q_pa_c (q_vv 2) q_pa_nil)) q_pe_int) q_pa_nil)) (q_pg_name (i:=3) sc_TableTongue_enter.nd rfl (by first | exact Or.inl rfl | exact Or.inr rfl)) (q_pss_one (q_dputM hu (q_fldK (K:=K) rfl (q_vv 0)) (q_pe_slice (g_slTK (K:=K) rfl) (q_vv 2) q_po_none (q_po_some (q_vv 3))) (q_pe_slice (g_slTK (K:=K) rfl) (q_vv 2) (q_po_some (q_vv 3)) q_po_none))))))),?_⟩
  have n12:f.d1≠f.d2:=ne_kind a1 a2 (by intro z; cases z)
  have n13:f.d1≠f.d3:=ne_kind a1 a3 (by intro z; cases z)
  have na1:a≠f.d1:=ne_kind o a1 (by intro z; cases z)
  have na2:a≠f.d2:=ne_kind o a2 (by intro z; cases z)
  have na3:a≠f.d3:=ne_kind o a3 (by intro z; cases z)
  refine ⟨a,_,f.dx,_,_,rfl,o,T.cls_TableTongue,T.na_TableTongue_row_by_sign,rfl,?_⟩
  refine ⟨f.d1,_,rfl,DPut.k (k:=.inl sg) a1 (szlt (by omega)),?_⟩
  obtain ⟨H1,e1⟩ : ∃ H1,H1=upd H f.d1 (.dK (putK k1 (.inl sg) (.ref q))):=⟨_,rfl⟩
  rw [<- e1]
  have o1:Out f H H1:=fun c u m1 m2 m3 e=>by rw [e1,upd_ne m1]; exact e
  have b1:H1 f.d1=some (.dK (putK k1 (.inl sg) (.ref q))):=by rw [e1,upd_same]
  have b2:H1 f.d2=some (.dT k2):=by rw [e1,upd_ne n12.symm]; exact a2
  have b3:H1 f.d3=some (.dT k3):=by rw [e1,upd_ne n13.symm]; exact a3
  clear e1
  refine ⟨a,_,f.dx,_,_,rfl,o1 _ _ na1 na2 na3 o,T.cls_TableTongue,T.na_TableTongue_sign_by_row,rfl,?_⟩
  have hq1:=tb.tup hq o1
  refine ⟨f.d2,_,rfl,DPut.t (k:=keyOf r) b2 (by rw [<- keys_of]; exact hq1) (szlt (by omega)),?_⟩
  obtain ⟨H2,e2⟩ : ∃ H2,H2=upd H1 f.d2 (.dT (putK k2 (keyOf r) (.int sg))):=⟨_,rfl⟩
  rw [<- e2]
  have o2:Out f H1 H2:=fun c u m1 m2 m3 e=>by rw [e2,upd_ne m2]; exact e
  have c1:H2 f.d1=some (.dK (putK k1 (.inl sg) (.ref q))):=by rw [e2,upd_ne n12]; exact b1
  have c2:H2 f.d2=some (.dT (putK k2 (keyOf r) (.int sg))):=by rw [e2,upd_same]
  have c3:H2 f.d3=some (.dT k3):=by rw [e2,upd_ne ne.symm]; exact b3
  clear e2
  have o02:=o1.trans o2
  have hq2:=tb.tup hq o02
  refine ⟨_,.inr (.of hq2),?_⟩
  refine ⟨_,rfl,by rw [List.length_map]; omega,by rw [List.length_map]; omega,?_⟩
  rw [List.length_map]
  refine for_range (lo:=0) (n:=((r.length:Int)+1).toNat) (fun i σ H'=>Out f H H'/\H' f.d1=some (.dK (putK k1 (.inl sg) (.ref q)))/\H' f.d2=some (.dT (putK k2 (keyOf r) (.int sg)))/\(∃ k3',H' f.d3=some (.dT k3')/\k3'.length<=n+i/\(∀ m,m < i->Rst H' k3' (es++[(sg,r)]) (r.take m))/\(∀ e∈es,∀ m,m<=e.2.length->Rst H' k3' (es++[(sg,r)]) (e.2.take m)))/\∃ v3,σ=[some (.ref a),some (.int sg),some (.ref q),v3]) ⟨o02,c1,c2,⟨k3,c3,by omega,(fun m h=>absurd h (by omega)),fun e he m hm=>?_⟩,_,rfl⟩ ?_ ?_
  · obtain ⟨q',r2,x,y,e',he',z⟩:=kv.c e he m hm
    exact ⟨q',r2,x,tb.tup y o02,e',List.mem_append_left _ he',z⟩
  · rintro i σ H3 hi ⟨o3,d1,d2,⟨k3',d3,l3',new3,old3⟩,v3,rfl⟩
    have hq3:=tb.tup hq o3
    refine ⟨_,rfl,_,.of hq3,hq3,fun p4 H4 s4 h4=>?_⟩
    refine ⟨a,_,f.dx,_,_,rfl,s4 _ _ (o3 _ _ na1 na2 na3 o),T.cls_TableTongue,T.na_TableTongue_rest_by_row,rfl,?_⟩
    refine ⟨_,rfl,_,.of (s4 _ _ hq3),s4 _ _ hq3,fun p5 H5 s5 h5=>?_⟩
    rw [Int.zero_add,cut_to,keys_of] at h5
    have s35:=s4.trans s5
    refine ⟨f.d3,_,rfl,DPut.t (k:=keyOf (r.take i)) (s35 _ _ d3) h5 (szlt (by omega)),?_⟩
    obtain ⟨H6,e6⟩ : ∃ H6,H6=upd H5 f.d3 (.dT (putK k3' (keyOf (r.take i)) (.ref p4))):=⟨_,rfl⟩
    rw [<- e6]
    have t6 : ∀ c u,c≠f.d3->H3 c=some u->H6 c=some u:=fun c u m e=>by rw [e6,upd_ne m]; exact s35 _ _ e
    have n43:p4≠f.d3:=ne_kind (s5 _ _ h4) (s35 _ _ d3) (by intro z; cases z)
    have h46:H6 p4=some (.tup (cutV (r.map V.int) (some (0+(i:Int))) none)):=by rw [e6,upd_ne n43]; exact s5 _ _ h4
    have b6:H6 f.d3=some (.dT (putK k3' (keyOf (r.take i)) (.ref p4))):=by rw [e6,upd_same]
    clear e6
    have h46':H6 p4=some (.tup ((r.drop i).map V.int)):=by
      rw [h46,Int.zero_add,cutV_ints]
      exact congrArg _ (congrArg _ (congrArg _ (cutL_from r i)))
    have keep : ∀ rr,Rst H3 k3' (es++[(sg,r)]) rr->Rst H6 (putK k3' (keyOf (r.take i)) (.ref p4)) (es++[(sg,r)]) rr:=by
      rintro rr ⟨q',r2,x,y,z⟩
      by_cases c:keyOf rr=keyOf (r.take i)
      · have c':=keyOf_inj c
        exact ⟨p4,r.drop i,by rw [valV_put,if_pos c],h46',(sg,r),by simp,by rw [c',List.take_append_drop]⟩
      · exact ⟨q',r2,by rw [valV_put,if_neg c]; exact x,t6 _ _ (ne_kind y d3 (by intro z; cases z)) y,z⟩
    refine ⟨fun c u m1 m2 m3 e=>t6 _ _ m3 (o3 c u m1 m2 m3 e),t6 _ _ n13 d1,t6 _ _ ne d2,⟨_,b6,?_,fun m hm=>?_,fun e he m hm=>keep _ (old3 e he m hm)⟩,_,rfl⟩
    · have:=length_putK k3' (keyOf (r.take i)) (.ref p4); omega
    · by_cases c:m < i
      · exact keep _ (new3 m c)
      · obtain rfl:m=i:=by omega
        exact ⟨p4,r.drop m,by rw [valV_put,if_pos rfl],h46',(sg,r),by simp,by rw [List.take_append_drop]⟩
  · rintro σ H3 ⟨o3,d1,d2,⟨k3',d3,l3',new3,old3⟩,_⟩
    refine k _ ⟨o3 _ _ na1 na2 na3 o,⟨_,_,k3',d1,d2,d3,?_,?_,by omega,?_⟩,ne⟩ o3
    · have:=length_putK k1 (.inl sg) (.ref q); omega
    · have:=length_putK k2 (keyOf r) (.int sg); omega
    · refine ⟨fun e he=>?_,fun e he=>?_,fun r' hr'=>?_,fun e he m hm=>?_⟩
      · rcases List.mem_append.mp he with he | he
        · rw [valV_put,if_neg (fun z=>(new e he).1 (Sum.inl.inj z))]
          obtain ⟨q',x,y⟩:=kv.a e he
          exact ⟨q',x,tb.tup y o3⟩
        · rw [List.mem_singleton.mp he,valV_put,if_pos rfl]
          exact ⟨q,rfl,tb.tup hq o3⟩
      · rcases List.mem_append.mp he with he | he
        · rw [valV_put,if_neg (fun z=>(new e he).2 (keyOf_inj z))]
          exact kv.b e he
        · rw [List.mem_singleton.mp he,valV_put,if_pos rfl]
      · rw [valV_put,if_neg (fun z=>hr' (sg,r) (by simp) (keyOf_inj z).symm)]
        exact kv.b' r' fun e he=>hr' e (by simp [he])
      · rcases List.mem_append.mp he with he | he
        · exact old3 e he m hm
        · rw [List.mem_singleton.mp he] at hm ⊢
          exact new3 m (by dsimp only at hm; omega)
def spInitT (t:Adr):Sp:=fun vs H Q _=>∃ (a dx p:Addr) (ps:List Addr) (es:List (Int × List Int)),vs=[.ref a,.ref p]/\H a=some (.ins t.c_TableTongue dx [])/\H p=some (.lst (ps.map V.ref))/\EnH H ps es/\Es es /\
  ∀ f H',Kp a H H'->Tt t H' a f es 1000->Q .non H'
theorem Tt.up {H:Hp} {a:Addr} {f:Ft} {es:List (Int × List Int)} {n m:Nat} (h:Tt t H a f es n) (hm:n<=m):Tt t H a f es m:=by
  obtain ⟨o,⟨k1,k2,k3,a1,a2,a3,l1,l2,l3,kv⟩,ne⟩:=h
  exact ⟨o,⟨k1,k2,k3,a1,a2,a3,by omega,by omega,by omega,kv⟩,ne⟩
theorem ok_initT (T:Txt w K mg t):FnOk P w K mg base CX0 6 t.a_TableTongue_init t.f_TableTongue_init ["self", "rows"] (spInitT t):=by
  refine T.F_TableTongue_init.okQ sc_TableTongue_init (fun vs H Q E h=>by obtain ⟨a,dx,p,ps,es,rfl,_⟩:=h; rfl) fun cdv A outer s H vs Q E hr h=>?_
  obtain ⟨a,dx,p,ps,es,rfl,ha,hp,en,ok,kq⟩:=h
  have hu:=hr.units
  refine ⟨_,(q_pss_cons (q_ps_expr (q_cal (h_check_table T) hr (q_pa_c (q_vv 1) q_pa_nil)))
      (q_pss_cons (q_ps_fldK (K:=K) rfl (q_vv 0) q_me_dic)
      (q_pss_cons (q_ps_fldK (K:=K) rfl (q_vv 0) q_me_dicT)
      (q_pss_cons (q_ps_fldK (K:=K) rfl (q_vv 0) q_me_dicT)
      (q_pss_one (q_ps_for PassesOwn.never rfl (q_pi_listK (K:=K) rfl (q_vv 1)) (q_pg_name (i:=2) sc_TableTongue_init.nd rfl (by first | exact Or.inl rfl | exact Or.inr rfl)) (q_pss_one (q_ps_expr (q_meth (h_TableTongue_enter T) hr (q_vv 0) (q_pa_c (q_pe_ix (g_ixK (K:=K) rfl) (q_vv 2) q_pe_int (fun _ _=>rfl)) (q_pa_c (q_calTy (c_tupleK (K:=K) rfl) T.n_tuple PyProof.Rows.boot_tuple (q_pa_c (q_pe_ix (g_ixK (K:=K) rfl) (q_vv 2) q_pe_int (fun _ _=>rfl)) q_pa_nil)) q_pa_nil))))))))))),?_⟩
  refine ⟨p,ps,es,rfl,hp,en,ok,fun H1 s1=>?_⟩
  refine fun d1 H2 g2=>?_
  refine ⟨a,_,dx,_,rfl,g2.sm _ _ (s1 _ _ ha),T.cls_TableTongue,T.na_TableTongue_row_by_sign,Nat.lt_of_lt_of_le Nat.zero_lt_one (by decide),?_⟩
  obtain ⟨H3,e3⟩ : ∃ H3,H3=upd H2 a (HO.ins t.c_TableTongue dx (putF "row_by_sign" (.ref d1) [])):=⟨_,rfl⟩
  have a3:H3 a=some (.ins t.c_TableTongue dx [("row_by_sign",.ref d1)]):=by rw [e3,upd_same]; rfl
  have k3:Kp a H2 H3:=by rw [e3]; exact Kp.upd
  rw [<- e3]
  clear e3
  refine fun d2 H4 g4=>?_
  refine ⟨a,_,dx,_,rfl,g4.sm _ _ a3,T.cls_TableTongue,T.na_TableTongue_sign_by_row,Nat.lt_of_lt_of_le (Nat.lt_succ_self 1) (by decide),?_⟩
  obtain ⟨H5,e5⟩ : ∃ H5,H5=upd H4 a (HO.ins t.c_TableTongue dx (putF "sign_by_row" (.ref d2) [("row_by_sign",.ref d1)])):=⟨_,rfl⟩
  have a5:H5 a=some (.ins t.c_TableTongue dx [("row_by_sign",.ref d1),("sign_by_row",.ref d2)]):=by rw [e5,upd_same]; rfl
  have k5:Kp a H4 H5:=by rw [e5]; exact Kp.upd
  rw [<- e5]
  clear e5
  refine fun d3 H6 g6=>?_
  refine ⟨a,_,dx,_,rfl,g6.sm _ _ a5,T.cls_TableTongue,T.na_TableTongue_rest_by_row,Nat.lt_of_lt_of_le (Nat.lt_succ_self 2) (by decide),?_⟩
  obtain ⟨H7,e7⟩ : ∃ H7,H7=upd H6 a (HO.ins t.c_TableTongue dx (putF "rest_by_row" (.ref d3) [("row_by_sign",.ref d1),("sign_by_row",.ref d2)])):=⟨_,rfl⟩
  have a7:H7 a=some (.ins t.c_TableTongue dx [("row_by_sign",.ref d1),("sign_by_row",.ref d2),("rest_by_row",.ref d3)]):=by rw [e7,upd_same]; rfl
  have k7:Kp a H6 H7:=by rw [e7]; exact Kp.upd
  rw [<- e7]
  clear e7
  have n1:d1≠a:=(ne_of_none (s1 _ _ ha) g2.nw).symm
  have n2:d2≠a:=(ne_of_none a3 g4.nw).symm
  have n3:d3≠a:=(ne_of_none a5 g6.nw).symm
  have k35:Kp a H3 H5:=(Kp.of g4.sm).trans k5
  have k57:Kp a H5 H7:=(Kp.of g6.sm).trans k7
  have k37:Kp a H3 H7:=k35.trans k57
  have k17:Kp a H1 H7:=(Kp.of g2.sm).trans (k3.trans k37)
  have k07:Kp a H H7:=(Kp.of s1).trans k17
  have b2:H5 d2=some (.dT []):=k5 _ _ n2 g4.at_
  have n23:d2≠d3:=ne_of_none b2 g6.nw
  have tb:Tt t H7 a ⟨dx,d1,d2,d3⟩ [] 0:=⟨a7,⟨[],[],[],k37 _ _ n1 (k3 _ _ n1 g2.at_),k57 _ _ n2 b2,k7 _ _ n3 g6.at_,Nat.le_refl _,Nat.le_refl _,Nat.le_refl _,⟨(fun e h=>nomatch h),(fun e h=>nomatch h),(fun r _=>rfl),(fun e h=>nomatch h)⟩⟩,n23⟩
  have f1:H d1=none:=s1.free g2.nw
  have f2 : ∀ c u,H c=some u->c≠a->c≠d2:=fun c u e n=>ne_of_none (k3 _ _ n (g2.sm _ _ (s1 _ _ e))) g4.nw
  have f3 : ∀ c u,H c=some u->c≠a->c≠d3:=fun c u e n=>ne_of_none (k35 _ _ n (k3 _ _ n (g2.sm _ _ (s1 _ _ e)))) g6.nw
  have lx:=en.1
  have l64:=ok.l
  have kpo : ∀ H',Out ⟨dx,d1,d2,d3⟩ H7 H'->Kp a H H':=fun H' o c u n e=>o c u (ne_of_none e f1) (f2 c u e n) (f3 c u e n) (k07 c u n e)
  have px : ∀ H',Out ⟨dx,d1,d2,d3⟩ H7 H'->H' p=some (.lst (ps.map V.ref)):=fun H' o=>kpo H' o _ _ (ne_kind hp ha (by intro z; cases z)) hp
  refine ⟨p,rfl,⟨_,.of (px H7 (Out.of (Same.refl _)))⟩,for_list (K:=K) (a:=p) (xs:=ps.map V.ref) (fun i σ H'=>Tt t H' a ⟨dx,d1,d2,d3⟩ (es.take i) (i*9)/\Out ⟨dx,d1,d2,d3⟩ H7 H'/\∃ v2,σ=[some (.ref a),some (.ref p),v2]) ⟨tb.up (by omega),Out.of (Same.refl _),_,rfl⟩ (fun i σ H' _ z=>.of (px H' z.2.1)) ?_ ?_⟩
  · rintro i x σ H8 hx ⟨tb8,o8,v2,rfl⟩
    obtain ⟨pe,hpe,rfl⟩:=refs_at hx
    obtain ⟨e,he,⟨q,hq1,hq2⟩,l1,l6⟩:=en.right hpe
    have he8:=kpo _ o8 _ _ (ne_kind hq1 ha (by intro z; cases z)) hq1
    have hq8:=kpo _ o8 _ _ (ne_kind hq2 ha (by intro z; cases z)) hq2
    have hi:i < ps.length:=(List.getElem?_eq_some_iff.mp hpe).1
    refine ⟨a,dx,_,rfl,tb8.o,rfl,?_⟩
    refine ⟨_,_,.inr (.of he8),atI_nat (j:=0) rfl,?_⟩
    refine ⟨_,_,.inr (.of he8),atI_nat (j:=1) rfl,?_⟩
    refine ⟨_,.of hq8,fun pt H9 g9=>?_⟩
    refine ⟨a,⟨dx,d1,d2,d3⟩,pt,i*9,e.1,e.2,es.take i,rfl,tb8.mono g9.sm,g9.at_,l6,by omega,fun e' he'=>?_,fun HA tA oA=>?_⟩
    · obtain ⟨j,hj,rfl⟩:=List.mem_iff_getElem.mp he'
      obtain ⟨a2,e2⟩:=List.getElem?_eq_some_iff.mp he
      rw [List.length_take] at hj
      have nc:=List.pairwise_iff_getElem.mp ok.pw j i (by omega) a2 (by omega)
      rw [e2] at nc
      rw [List.getElem_take]
      unfold colB begB at nc
      refine ⟨fun z=>?_,fun z=>?_⟩
      · rw [decide_eq_true z] at nc; cases nc
      · rw [z] at nc; simp at nc
    · have et:es.take (i+1)=es.take i++[(e.1,e.2)]:=take_snoc he
      rw [et]
      exact ⟨tA.up (by omega),o8.trans ((Out.of g9.sm).trans oA),_,rfl⟩
  · rintro σ H8 ⟨t8,o8,_⟩
    rw [List.length_map,lx,List.take_length] at t8
    exact kq _ _ (kpo _ o8) (t8.up (by omega))
theorem hk_TableTongue_0 (T:Txt w K mg t):HasKD P w K mg base "TableTongue" t.c_TableTongue 6 t.a_TableTongue_init t.f_TableTongue_init ["self", "rows"] [] (spInitT t):=⟨T.gc_TableTongue,T.mk_TableTongue,⟨[],T.b_TableTongue_init,.nil⟩,ok_initT T⟩
def RowT (es:List (Int × List Int)) (row:List Int):Prop:=∃ e∈es,∃ m,m<=e.2.length/\row=e.2.take m
def spWhT (t:Adr):Sp:=fun vs H Q _=>∃ (a:Addr) (f:Ft) (es:List (Int × List Int)) (q:Addr) (row:List Int) (g:Int),vs=[.ref a,.ref q,.int g]/\Tt t H a f es 1000/\Es es/\H q=some (.lst (row.map V.int)) /\
  ((∀ e∈es,e.2≠row)->∀ H',Same H H'->Q .non H')/\(∀ e∈es,e.2=row->∀ p H',Same H H'->H' p=some (.tup [.int e.1,.int g])->Q (.ref p) H')
theorem ok_wholeT (T:Txt w K mg t):FnOk P w K mg base CX0 2 t.a_TableTongue_whole t.f_TableTongue_whole ["self", "row", "page"] (spWhT t):=by
  refine T.F_TableTongue_whole.okQ sc_TableTongue_whole (fun vs H Q E h=>by obtain ⟨o,f,es,q,row,g,rfl,_⟩:=h; rfl) fun cdv A outer s H vs Q E hr h=>?_
  obtain ⟨a,f,es,q,row,g,rfl,tt,ok,hq,kn,ks⟩:=h
  have hu:=hr.units
  refine ⟨_,(q_pss_cons (q_ps_set (i:=3) sc_TableTongue_whole.nd rfl (by first | exact Or.inl rfl | exact Or.inr rfl) (q_dget1M hu (q_fldK (K:=K) rfl (q_vv 0)) (q_calTy (c_tupleK (K:=K) rfl) T.n_tuple PyProof.Rows.boot_tuple (q_pa_c (q_vv 1) q_pa_nil))))
      (q_pss_one (q_ps_ret (q_pe_ifExp (q_mt_cmp g_is (q_vv 3) q_pe_non (nomark _)) q_pe_non (q_me_tup (q_pa_c (q_vv 3) (q_pa_c (q_vv 2) q_pa_nil))))))),?_⟩
  obtain ⟨o,⟨k1,k2,k3,a1,a2,a3,_,_,_,kv⟩,ne⟩:=id tt
  refine ⟨a,_,f.dx,_,_,rfl,o,T.cls_TableTongue,T.na_TableTongue_sign_by_row,rfl,?_⟩
  refine ⟨f.d2,rfl,.inr ⟨_,.inl a2⟩,?_⟩
  refine ⟨_,.of hq,fun p1 H1 g1=>?_⟩
  have h1:=g1.at_
  rw [keys_of] at h1
  refine ⟨_,DGet.t (g1.sm _ _ a2) h1,?_⟩
  by_cases c : ∀ e∈es,e.2≠row
  · rw [kv.b' row c]
    exact kn c H1 g1.sm
  · obtain ⟨e,he⟩:=Classical.not_forall.mp c
    obtain ⟨hm,hrow⟩:=Classical.not_imp.mp he
    have hrow:e.2=row:=Classical.not_not.mp hrow
    have vb:=kv.b e hm
    rw [hrow] at vb
    rw [vb]
    exact ⟨sz rfl,fun p2 H2 g2=>ks e hm hrow p2 H2 (g1.sm.trans g2.sm) g2.at_⟩
theorem h_TableTongue_whole_0 (T:Txt w K mg t):HasMD P w K mg base t.c_TableTongue "whole" 2 t.a_TableTongue_whole t.f_TableTongue_whole ["self", "row", "page"] [] (spWhT t) :=
  ⟨T.cls_TableTongue,T.mt_TableTongue_whole,⟨_,T.b_TableTongue_whole,.nil⟩,ok_wholeT T⟩
def spFlT (t:Adr):Sp:=fun vs H Q _=>∃ (a:Addr) (f:Ft) (es:List (Int × List Int)) (q:Addr) (row:List Int) (g:Int),vs=[.ref a,.ref q,.int g]/\Tt t H a f es 1000/\H q=some (.lst (row.map V.int))/\RowT es row /\
  ∀ p (r2:List Int) H',Same H H'->H' p=some (.lst (r2.map V.int))->(∃ e'∈es,e'.2=row++r2)->Q (.ref p) H'
theorem ok_fillT (T:Txt w K mg t):FnOk P w K mg base CX0 3 t.a_TableTongue_fill t.f_TableTongue_fill ["self", "row", "page"] (spFlT t):=by
  refine T.F_TableTongue_fill.okQ sc_TableTongue_fill (fun vs H Q E h=>by obtain ⟨o,f,es,q,row,g,rfl,_⟩:=h; rfl) fun cdv A outer s H vs Q E hr h=>?_
  obtain ⟨a,f,es,q,row,g,rfl,tt,hq,⟨e,he,m,hm,rfl⟩,k⟩:=h
  have hu:=hr.units
  refine ⟨_,(q_pss_cons (q_ps_set (i:=3) sc_TableTongue_fill.nd rfl (by first | exact Or.inl rfl | exact Or.inr rfl) (q_dget1M hu (q_fldK (K:=K) rfl (q_vv 0)) (q_calTy (c_tupleK (K:=K) rfl) T.n_tuple PyProof.Rows.boot_tuple (q_pa_c (q_vv 1) q_pa_nil))))
      (q_pss_one (q_ps_ret (q_pe_ifExp (q_mt_cmp g_is (q_vv 3) q_pe_non (nomark _)) q_pe_non (q_calTy (c_listK (K:=K) rfl) T.n_list PyProof.Rows.boot_list (q_pa_c (q_vv 3) q_pa_nil)))))),?_⟩
  obtain ⟨o,⟨k1,k2,k3,a1,a2,a3,_,_,_,kv⟩,ne⟩:=id tt
  refine ⟨a,_,f.dx,_,_,rfl,o,T.cls_TableTongue,T.na_TableTongue_rest_by_row,rfl,?_⟩
  refine ⟨f.d3,rfl,.inr ⟨_,.inl a3⟩,?_⟩
  refine ⟨_,.of hq,fun p1 H1 g1=>?_⟩
  have h1:=g1.at_
  rw [keys_of] at h1
  refine ⟨_,DGet.t (g1.sm _ _ a3) h1,?_⟩
  obtain ⟨q',r2,vc,hq',ee⟩:=kv.c e he m hm
  rw [vc]
  exact ⟨_,.inr (.of (g1.sm _ _ hq')),fun p2 H2 g2=>k p2 r2 H2 (g1.sm.trans g2.sm) g2.at_ ee⟩
theorem h_TableTongue_fill_0 (T:Txt w K mg t):HasMD P w K mg base t.c_TableTongue "fill" 3 t.a_TableTongue_fill t.f_TableTongue_fill ["self", "row", "page"] [] (spFlT t) :=
  ⟨T.cls_TableTongue,T.mt_TableTongue_fill,⟨_,T.b_TableTongue_fill,.nil⟩,ok_fillT T⟩
inductive Kt where
  | ld
  | pr (h:Bool)
  | sh (f:Fp) (ns ms:List Int)
  | tb (f:Ft) (es:List (Int × List Int))
  | br
def TN (t:Adr) (H:Hp) (o:Addr):Kt->Prop
  | .ld=>∃ dx,H o=some (.ins t.c_LeadTongue dx [])
  | .pr h=>Po t H o h
  | .sh f ns ms=>Tg t H o f ns ms
  | .tb f es=>Tt t H o f es 1000/\Es es
  | .br=>∃ dx,H o=some (.ins t.c_Tongue dx [])
theorem TN.mono {H H':Hp} {o:Addr} {D:Kt} (h:TN t H o D) (s:Same H H'):TN t H' o D:=by
  cases D with
  | ld=>obtain ⟨dx,h⟩:=h; exact ⟨dx,s _ _ h⟩
  | pr b=>exact Po.mono h s
  | sh f ns ms=>exact Tg.mono h s
  | tb f es=>exact ⟨Tt.mono h.1 s,h.2⟩
  | br=>obtain ⟨dx,h⟩:=h; exact ⟨dx,s _ _ h⟩
def splO:Kt->Int->Int->Option (List Int × Int)
  | .ld,g,n=>some (row n,g)
  | .pr h,g,n=>some (prow h n,g)
  | .sh _ ns ms,g,n=>spelF (sel g ns ms) (sel g ms ns) g (.int n)
  | .tb _ es,g,n=>(es.find? fun e=>decide (e.1=n)).map fun e=>(e.2,g)
  | .br,_,_=>none
def splF (D:Kt) (g n:Int):List Int × Int:=(splO D g n).getD ([],g)
def InT:Kt->Int->Prop
  | .ld,n=>Sg n
  | .pr _,n=>Sg n
  | .sh _ ns ms,n=>n∈ns\/n∈ms
  | .tb _ es,n=>∃ e∈es,e.1=n
  | .br,_=>False
def PgK:Kt->Int->Prop
  | .sh _ _ _,g=>Two g
  | _,g=>g=0
theorem spel_in {ns ms:List Int} {g n:Int} (two:Two g) (h:n∈ns\/n∈ms) : ∃ r g',spelF (sel g ns ms) (sel g ms ns) g (.int n)=some (r,g')/\Two g'/\r.length<=2:=by
  have hh:n∈sel g ns ms\/n∈sel g ms ns:=by
    rcases two with rfl | rfl
    · exact h
    · exact h.symm
  unfold spelF
  dsimp only
  cases e:idx (sel g ns ms) n with
  | some i=>exact ⟨_,_,rfl,two,by show (1:Nat)<=2; decide⟩
  | none =>
    dsimp only
    have hn:=idx_none.mp e
    rcases hh with hh | hh
    · exact absurd hh hn
    · obtain ⟨i,hi,_⟩:=idx_some hh
      rw [hi]
      exact ⟨_,_,rfl,two.flip,by show (2:Nat)<=2; decide⟩
theorem find_in {es:List (Int × List Int)} {n:Int} (h : ∃ e∈es,e.1=n) : ∃ e∈es,e.1=n/\(es.find? fun e=>decide (e.1=n))=some e:=by
  cases e:es.find? fun e=>decide (e.1=n) with
  | none =>
    obtain ⟨f,hf,rfl⟩:=h
    have:=List.find?_eq_none.mp e f hf
    simp at this
  | some f =>
    exact ⟨f,List.mem_of_find?_eq_some e,by simpa using List.find?_some e,rfl⟩
def Kok:Kt->Prop
  | .tb _ es=>Es es
  | _=>True
theorem TN.ok {H:Hp} {o:Addr} {D:Kt} (h:TN t H o D):Kok D:=by
  cases D with
  | tb f es=>exact h.2
  | _=>exact trivial
theorem spl_in {D:Kt} {g n:Int} (tn:Kok D) (hg:PgK D g) (hn:InT D n) : ∃ r g',splO D g n=some (r,g')/\splF D g n=(r,g')/\PgK D g'/\r.length<=6:=by
  have key : ∃ r g',splO D g n=some (r,g')/\PgK D g'/\r.length<=6:=by
    cases D with
    | ld=>exact ⟨_,_,rfl,hg,Nat.le_trans (row_len n).2 (by decide)⟩
    | pr b=>exact ⟨_,_,rfl,hg,Nat.le_trans (prow_len b n) (by decide)⟩
    | sh f ns ms =>
      obtain ⟨r,g',e,two,l⟩:=spel_in hg hn
      exact ⟨r,g',e,two,by omega⟩
    | tb f es =>
      obtain ⟨e,he,_,ef⟩:=find_in hn
      exact ⟨e.2,g,by show Option.map _ _=_; rw [ef]; rfl,hg,(Es.sg tn e he).2.2.1⟩
    | br=>exact hn.elim
  obtain ⟨r,g',e,a,b⟩:=key
  exact ⟨r,g',e,by unfold splF; rw [e]; rfl,a,b⟩
def wrF (D:Kt) (g:Int) (ts:List Int):List Int × Int:=ts.foldl (fun a n=>(a.1++(splF D a.2 n).1,(splF D a.2 n).2)) ([],g)
theorem wr_snoc (D:Kt) (g:Int) (ts:List Int) (n:Int):wrF D g (ts++[n])=((wrF D g ts).1++(splF D (wrF D g ts).2 n).1,(splF D (wrF D g ts).2 n).2):=by
  unfold wrF
  rw [List.foldl_append]
  rfl
theorem wr_ok {D:Kt} {g:Int} (tn:Kok D) (hg:PgK D g) : ∀ (m:Nat) (ts:List Int),(∀ i n,i < m->ts[i]? = some n->InT D n)->PgK D (wrF D g (ts.take m)).2/\(wrF D g (ts.take m)).1.length<=6*m
  | 0,ts,_=>⟨hg,Nat.le_refl _⟩
  | m+1,ts,h=>by
    obtain ⟨a,b⟩:=wr_ok tn hg m ts fun i n hi=>h i n (by omega)
    cases e:ts[m]? with
    | none =>
      rw [List.take_of_length_le (by have:=List.getElem?_eq_none_iff.mp e; omega)]
      rw [List.take_of_length_le (List.getElem?_eq_none_iff.mp e)] at a b
      exact ⟨a,by omega⟩
    | some n =>
      rw [take_snoc e,wr_snoc]
      obtain ⟨r,g',_,ef,pg,l⟩:=spl_in tn a (h m n (by omega) e)
      rw [ef]
      exact ⟨pg,by rw [List.length_append]; dsimp only; omega⟩
theorem all_at {D:Kt} {ts:List Int} (h : ∀ n∈ts,InT D n) (m:Nat) : ∀ i n,i < m->ts[i]? = some n->InT D n:=fun i n _ e=>h n (List.mem_of_getElem? e)
theorem spel_sh {ns ms:List Int} {g n:Int} (two:Two g) (h:n∈ns\/n∈ms) : ∃ r g',spelF (sel g ns ms) (sel g ms ns) g (.int n)=some (r,g')/\Two g'/\((∃ b:Int,r=[b]/\0<=b/\(sel g ns ms)[b.toNat]? = some n/\g'=g)\/(∃ c:Int,r=[254+(1 - g),c]/\0<=c/\(sel g ms ns)[c.toNat]? = some n/\n∉sel g ns ms/\g'=1 - g)):=by
  have hh:n∈sel g ns ms\/n∈sel g ms ns:=by
    rcases two with rfl | rfl
    · exact h
    · exact h.symm
  unfold spelF
  dsimp only
  cases e:idx (sel g ns ms) n with
  | some i=>exact ⟨_,_,rfl,two,.inl ⟨(i:Int),rfl,by omega,by simpa using (idx_get e).1,rfl⟩⟩
  | none =>
    dsimp only
    have hn:=idx_none.mp e
    rcases hh with hh | hh
    · exact absurd hh hn
    · obtain ⟨i,hi,_⟩:=idx_some hh
      rw [hi]
      exact ⟨_,_,rfl,two.flip,.inr ⟨(i:Int),rfl,by omega,by simpa using (idx_get hi).1,hn,rfl⟩⟩
theorem spl_sh {f:Fp} {ns ms:List Int} {g n:Int} {r:List Int} {g':Int} (e:spelF (sel g ns ms) (sel g ms ns) g (.int n)=some (r,g')):splF (.sh f ns ms) g n=(r,g'):=by
  show (spelF (sel g ns ms) (sel g ms ns) g (.int n)).getD ([],g)=_
  rw [e]; rfl
theorem ok_s:PyData.strOk "sign" = true:=by decide +kernel
theorem ok_m:PyData.strOk "more" = true:=by decide +kernel
theorem ok_n:PyData.strOk "none" = true:=by decide +kernel
theorem str_shaped {x:Str} (h:PyData.strOk x=true):SeqAt.shaped (.str x)=true:=by
  simpa [SeqAt.shaped,PyData.canLay0,PyData.depth] using h
def lkR (D:Kt) (g n:Int) (m:Nat):List V:=if m=(splF D g n).1.length then [.str "sign",.int n,.int (splF D g n).2] else [.str "more",.non,.int g]
theorem look_sh {ns ms:List Int} {f:Fp} {g n:Int} {m:Nat} (two:Two g) (hn:n∈ns\/n∈ms) (k0:Okp ns) (k1:Okp ms) (m1:1<=m) (m2:m<=(splF (.sh f ns ms) g n).1.length):RowOk g ((splF (.sh f ns ms) g n).1.take m)/\lookF (sel g ns ms) (sel g ms ns) g ((splF (.sh f ns ms) g n).1.take m)=lkR (.sh f ns ms) g n m:=by
  obtain ⟨r,g',e,_,hr⟩:=spel_sh two hn
  have es:splF (.sh f ns ms) g n=(r,g'):=spl_sh e
  unfold lkR
  rw [es] at m2 ⊢
  dsimp only at m2 ⊢
  rcases hr with ⟨b,rfl,b0,hb,rfl⟩ | ⟨c,rfl,c0,hc,hnp,rfl⟩
  · obtain rfl:m=1:=by simp at m2; omega
    refine ⟨.inl ⟨b,rfl,b0⟩,?_⟩
    show lookF _ _ _ [b]=_
    rw [look1 b0,hb]
    rfl
  · have hal:c∈aloneI (sel g ms ns) (sel g ns ms):=(mem_aloneI c0).mpr ⟨n,hc,hnp⟩
    have b0:(0:Int)<=254+(1 - g):=by rcases two with rfl | rfl <;> decide
    have m2':m<=2:=m2
    rcases (show m=1\/m=2 by omega) with rfl | rfl
    · refine ⟨.inl ⟨_,rfl,b0⟩,?_⟩
      show lookF _ _ _ [254+(1 - g)]=_
      have hl:=(sel_ok (g:=g) k0 k1).2.2
      rw [look1 b0,List.getElem?_eq_none (by rcases two with rfl | rfl <;> omega)]
      dsimp only
      rw [if_pos ⟨rfl,fun z=>by rw [z] at hal; cases hal⟩]
      rfl
    · refine ⟨.inr ⟨c,rfl,c0⟩,?_⟩
      show lookF _ _ _ [254+(1 - g),c]=_
      rw [look2 c0,if_pos hal,List.getD_eq_getElem?_getD,hc]
      rfl
theorem tb_one {es:List (Int × List Int)} (ok:Es es) {e e0:Int × List Int} (he:e∈es) (he0:e0∈es) {m:Nat} (hm:m<=e0.2.length) (h:e.2=e0.2.take m):e=e0/\m=e0.2.length:=by
  have le:e.2.length=m:=by rw [h,List.length_take]; omega
  have hc:colB e e0=true:=by
    unfold colB begB
    have:e0.2.take e.2.length=e.2:=by rw [le,h]
    simp [this]
  rcases ok.two he he0 with rfl | z
  · exact ⟨rfl,le.symm⟩
  · rw [z] at hc; cases hc
def Evn:Kt->Nat->Prop
  | .pr _,m=>m%2=0
  | _,_=>True
theorem look_ld {n:Int} (h:Sg n) {m:Nat} (m1:1<=m) (m2:m<=(row n).length):(m=(row n).length/\Whl ((row n).take m)/\car ((row n).take m)=n)\/(m < (row n).length/\¬ Whl ((row n).take m)/\Begs ((row n).take m)):=by
  obtain ⟨a,b⟩:=row_whl h
  rcases Nat.lt_or_ge m (row n).length with z | z
  · obtain ⟨c,d⟩:=whl_take a m1 z
    exact .inr ⟨z,d,c⟩
  · have e:m=(row n).length:=by omega
    subst e
    rw [List.take_length]
    exact .inl ⟨rfl,a,b⟩
theorem look_pr (h:Bool) {n:Int} (hs:Sg n) {m:Nat} (m1:1<=m) (m2:m<=(prow h n).length) (ev:m%2=0):(m=(prow h n).length/\whl h ((prow h n).take m)=some n)\/(m < (prow h n).length/\whl h ((prow h n).take m)=none/\fil h ((prow h n).take m)≠none):=by
  have l:=prow_len2 h n
  rcases Nat.lt_or_ge m (prow h n).length with z | z
  · have c : ¬ n < 65536:=fun c=>by rw [if_pos c] at l; omega
    rw [if_neg c] at l
    have e:m=2:=by omega
    obtain ⟨u,e2,u1,u2⟩:=prow_take h hs c
    rw [e,e2]
    exact .inr ⟨by omega,head_none h u1 u2,head_fil h u1 u2⟩
  · have e:m=(prow h n).length:=by omega
    rw [e,List.take_length]
    exact .inl ⟨rfl,whl_prow h hs⟩
def spNo:Sp:=fun _ _ _ _=>False
theorem h_Tongue_whole_0 (T:Txt w K mg t):HasMD P w K mg base t.c_Tongue "whole" 1 t.a_Tongue_whole t.f_Tongue_whole ["self", "row", "page"] [] spNo :=
  ⟨T.cls_Tongue,T.mt_Tongue_whole,⟨_,T.b_Tongue_whole,.nil⟩,T.F_Tongue_whole.okQ sc_Tongue_whole (fun vs H Q E h=>h.elim) fun cdv A outer s H vs Q E hr h=>h.elim⟩
theorem h_Tongue_fill_0 (T:Txt w K mg t):HasMD P w K mg base t.c_Tongue "fill" 1 t.a_Tongue_fill t.f_Tongue_fill ["self", "row", "page"] [] spNo :=
  ⟨T.cls_Tongue,T.mt_Tongue_fill,⟨_,T.b_Tongue_fill,.nil⟩,T.F_Tongue_fill.okQ sc_Tongue_fill (fun vs H Q E h=>h.elim) fun cdv A outer s H vs Q E hr h=>h.elim⟩
theorem tk_byts {r:List Int} (h:Byts r) (m:Nat):Byts (r.take m):=fun x hx=>h x (List.mem_of_mem_take hx)
def spLk (t:Adr):Sp:=fun vs H Q _=>∃ (o q:Addr) (D:Kt) (n g:Int) (m:Nat),vs=[.ref o,.ref q,.int g]/\TN t H o D/\PgK D g/\InT D n/\H q=some (.lst (((splF D g n).1.take m).map V.int))/\1<=m/\m<=(splF D g n).1.length/\Evn D m /\
  ∀ p H',Same H H'->H' p=some (.tup (lkR D g n m))->Q (.ref p) H'
theorem ok_look (T:Txt w K mg t):FnOk P w K mg base CX0 7 t.a_Tongue_look t.f_Tongue_look ["self", "begun", "page"] (spLk t):=by
  refine T.F_Tongue_look.okQ sc_Tongue_look (fun vs H Q E h=>by obtain ⟨o,q,D,n,g,m,rfl,_⟩:=h; rfl) fun cdv A outer s H vs Q E hr h=>?_
  obtain ⟨o,q,D,n,g,m,rfl,tn,pg,hn,hq,m1,m2,ev,k⟩:=h
  have hu:=hr.units
  refine ⟨_,(q_pss_cons (q_ps_set (i:=3) sc_Tongue_look.nd rfl (by first | exact Or.inl rfl | exact Or.inr rfl) (q_two (q_methD (h_Tongue_whole_0 T) hr (q_vv 0) (q_pa_c (q_vv 1) (q_pa_c (q_vv 2) q_pa_nil))) (q_two (q_methD (h_LeadTongue_whole_0 T) hr (q_vv 0) (q_pa_c (q_vv 1) (q_pa_c (q_vv 2) q_pa_nil))) (q_two (q_methD (h_PairTongue_whole_0 T) hr (q_vv 0) (q_pa_c (q_vv 1) (q_pa_c (q_vv 2) q_pa_nil))) (q_two (q_methD (h_ShiftTongue_whole_0 T) hr (q_vv 0) (q_pa_c (q_vv 1) (q_pa_c (q_vv 2) q_pa_nil))) (q_methD (h_TableTongue_whole_0 T) hr (q_vv 0) (q_pa_c (q_vv 1) (q_pa_c (q_vv 2) q_pa_nil))))))))
      (q_pss_cons (q_ps_if (q_mt_cmp g_isnot (q_vv 3) q_pe_non (nomark _)) (q_pss_one (q_ps_ret (q_me_tup (q_pa_c q_pe_str (q_pa_c (q_pe_ix (g_ixK (K:=K) rfl) (q_vv 3) q_pe_int (fun _ _=>rfl)) (q_pa_c (q_pe_ix (g_ixK (K:=K) rfl) (q_vv 3) q_pe_int (fun _ _=>rfl)) q_pa_nil)))))) q_pss_nil)
      (q_pss_cons (q_ps_if (q_mt_cmp g_is (q_two (q_methD (h_Tongue_fill_0 T) hr (q_vv 0) (q_pa_c (q_vv 1) (q_pa_c (q_vv 2) q_pa_nil))) (q_two (q_methD (h_LeadTongue_fill_0 T) hr (q_vv 0) (q_pa_c (q_vv 1) (q_pa_c (q_vv 2) q_pa_nil))) (q_two (q_methD (h_PairTongue_fill_0 T) hr (q_vv 0) (q_pa_c (q_vv 1) (q_pa_c (q_vv 2) q_pa_nil))) (q_two (q_methD (h_ShiftTongue_fill_0 T) hr (q_vv 0) (q_pa_c (q_vv 1) (q_pa_c (q_vv 2) q_pa_nil))) (q_methD (h_TableTongue_fill_0 T) hr (q_vv 0) (q_pa_c (q_vv 1) (q_pa_c (q_vv 2) q_pa_nil))))))) q_pe_non (nomark _)) (q_pss_one (q_ps_ret (q_me_tup (q_pa_c q_pe_str (q_pa_c q_pe_non (q_pa_c (q_vv 2) q_pa_nil)))))) q_pss_nil)
      (q_pss_one (q_ps_ret (q_me_tup (q_pa_c q_pe_str (q_pa_c q_pe_non (q_pa_c (q_vv 2) q_pa_nil))))))))),?_⟩
  cases D with
  | br=>exact hn.elim
  | ld =>
    obtain rfl:g=0:=pg
    obtain ⟨dx,ho⟩:=id tn
    have hq:H q=some (.lst (((row n).take m).map V.int)):=hq
    have m2:m<=(row n).length:=m2
    have rl:=row_len n
    have tl:((row n).take m).length<=1000:=by rw [List.length_take]; omega
    have kk : ∀ p H',Same H H'->H' p=some (.tup (if m=(row n).length then [.str "sign",.int n,.int 0] else [.str "more",.non,.int 0]))->Q (.ref p) H':=k
    refine .inr (.inl ⟨o,dx,_,rfl,ho,rfl,?_⟩)
    refine ⟨o,q,_,rfl,.of hq,tl,fun wh p H1 g1=>?_,fun nw H1 s1=>?_⟩
    · rcases look_ld hn m1 m2 with ⟨e,_,ec⟩ | ⟨_,nw,_⟩
      · rw [ec] at g1
        refine ⟨_,_,.inr g1.tup,atI_nat (j:=0) rfl,?_⟩
        refine ⟨_,_,.inr g1.tup,atI_nat (j:=1) rfl,?_⟩
        exact ⟨sz rfl,fun p2 H2 g2=>kk p2 H2 (g1.sm.trans g2.sm) (by rw [if_pos e]; exact g2.at_)⟩
      · exact absurd wh nw
    · rcases look_ld hn m1 m2 with ⟨_,wh,_⟩ | ⟨e,_,bg⟩
      · exact absurd wh nw
      · refine .inr (.inl ⟨o,dx,_,rfl,s1 _ _ ho,rfl,?_⟩)
        refine ⟨o,q,_,rfl,.of (s1 _ _ hq),tl,fun _ p2 H2 g2=>?_,fun nb=>absurd bg nb⟩
        exact ⟨sz rfl,fun p3 H3 g3=>kk p3 H3 (s1.trans (g2.sm.trans g3.sm)) (by rw [if_neg (by omega)]; exact g3.at_)⟩
  | pr h =>
    obtain rfl:g=0:=pg
    have po:Po t H o h:=tn
    obtain ⟨dx,ho⟩:=id po
    have hq:H q=some (.lst (((prow h n).take m).map V.int)):=hq
    have m2:m<=(prow h n).length:=m2
    have rl:=prow_len h n
    have tl:((prow h n).take m).length<=900:=by rw [List.length_take]; omega
    have by':=tk_byts (prow_byts h hn) m
    have kk : ∀ p H',Same H H'->H' p=some (.tup (if m=(prow h n).length then [.str "sign",.int n,.int 0] else [.str "more",.non,.int 0]))->Q (.ref p) H':=k
    refine .inr (.inr (.inl ⟨o,dx,_,rfl,ho,rfl,?_⟩))
    refine ⟨o,q,h,_,rfl,po,.of hq,by',by omega,fun n' en p H1 g1=>?_,fun en H1 s1=>?_⟩
    · rcases look_pr h hn m1 m2 ev with ⟨e,ec⟩ | ⟨_,nw,_⟩
      · rw [ec] at en
        cases en
        refine ⟨_,_,.inr g1.tup,atI_nat (j:=0) rfl,?_⟩
        refine ⟨_,_,.inr g1.tup,atI_nat (j:=1) rfl,?_⟩
        exact ⟨sz rfl,fun p2 H2 g2=>kk p2 H2 (g1.sm.trans g2.sm) (by rw [if_pos e]; exact g2.at_)⟩
      · rw [nw] at en; cases en
    · rcases look_pr h hn m1 m2 ev with ⟨_,ec⟩ | ⟨e,_,nf⟩
      · rw [ec] at en; cases en
      · refine .inr (.inr (.inl ⟨o,dx,_,rfl,s1 _ _ ho,rfl,?_⟩))
        refine ⟨o,q,h,_,rfl,po.mono s1,.of (s1 _ _ hq),by',tl,fun f ef p2 H2 g2=>?_,fun ef=>absurd ef nf⟩
        exact ⟨sz rfl,fun p3 H3 g3=>kk p3 H3 (s1.trans (g2.sm.trans g3.sm)) (by rw [if_neg (by omega)]; exact g3.at_)⟩
  | sh f ns ms =>
    have two:Two g:=pg
    have tg:Tg t H o f ns ms:=tn
    obtain ⟨ok,el⟩:=look_sh (f:=f) two hn tg.k0 tg.k1 m1 m2
    rw [<- el] at k
    refine .inr (.inr (.inr (.inl ⟨o,f.dx,_,rfl,tg.o,rfl,?_⟩)))
    refine ⟨o,f,ns,ms,q,_,g,rfl,two,tg,hq,ok,fun hw=>?_,fun n g' hw p H1 g1=>?_⟩
    · refine .inr (.inr (.inr (.inl ⟨o,f.dx,_,rfl,tg.o,rfl,?_⟩)))
      refine ⟨o,f,ns,ms,q,_,g,rfl,two,tg,hq,ok,fun hf H1 s1=>?_,fun hf p1 r2 H1 s1 _ _=>?_⟩
      · refine ⟨sz rfl,fun p2 H2 g2=>k p2 H2 (s1.trans g2.sm) ?_⟩
        unfold lookF
        rw [hw,hf]
        exact g2.at_
      · refine ⟨sz rfl,fun p2 H2 g2=>k p2 H2 (s1.trans g2.sm) ?_⟩
        unfold lookF
        rw [hw,hf]
        exact g2.at_
    · refine ⟨_,_,.inr g1.tup,atI_nat (j:=0) rfl,?_⟩
      refine ⟨_,_,.inr g1.tup,atI_nat (j:=1) rfl,?_⟩
      refine ⟨sz rfl,fun p2 H2 g2=>k p2 H2 (g1.sm.trans g2.sm) ?_⟩
      unfold lookF
      rw [hw]
      exact g2.at_
  | tb f es =>
    obtain rfl:g=0:=pg
    obtain ⟨tt,ok⟩:=id tn
    obtain ⟨e0,he0,en0,ef0⟩:=find_in hn
    have es':splF (.tb f es) 0 n=(e0.2,0):=by
      show (Option.map _ _).getD _=_
      rw [ef0]; rfl
    unfold lkR at k
    rw [es'] at hq m2 k
    dsimp only at hq m2 k
    have rt:RowT es (e0.2.take m):=⟨e0,he0,m,m2,rfl⟩
    refine .inr (.inr (.inr (.inr ⟨o,f.dx,_,rfl,tt.o,rfl,?_⟩)))
    refine ⟨o,f,es,q,_,0,rfl,tt,ok,hq,fun hnn H1 s1=>?_,fun e he hrow p H1 s1 hp=>?_⟩
    · refine .inr (.inr (.inr (.inr ⟨o,f.dx,_,rfl,(tt.mono s1).o,rfl,?_⟩)))
      refine ⟨o,f,es,q,_,0,rfl,tt.mono s1,s1 _ _ hq,rt,fun p2 r2 H2 s2 _ _=>?_⟩
      have ne : ¬ m=e0.2.length:=fun z=>hnn e0 he0 (by rw [z,List.take_length])
      rw [if_neg ne] at k
      exact ⟨sz rfl,fun p3 H3 g3=>k p3 H3 (s1.trans (s2.trans g3.sm)) g3.at_⟩
    · obtain ⟨ee,em⟩:=tb_one ok he he0 m2 hrow
      rw [if_pos em] at k
      rw [ee,en0] at hp
      refine ⟨_,_,.inr (.of hp),atI_nat (j:=0) rfl,?_⟩
      refine ⟨_,_,.inr (.of hp),atI_nat (j:=1) rfl,?_⟩
      exact ⟨sz rfl,fun p3 H3 g3=>k p3 H3 (s1.trans g3.sm) g3.at_⟩
theorem h_Tongue_look_0 (T:Txt w K mg t):HasMD P w K mg base t.c_Tongue "look" 7 t.a_Tongue_look t.f_Tongue_look ["self", "begun", "page"] [] (spLk t):=⟨T.cls_Tongue,T.mt_Tongue_look,⟨_,T.b_Tongue_look,.nil⟩,ok_look T⟩
theorem h_LeadTongue_look_0 (T:Txt w K mg t):HasMD P w K mg base t.c_LeadTongue "look" 7 t.a_Tongue_look t.f_Tongue_look ["self", "begun", "page"] [] (spLk t):=⟨T.cls_LeadTongue,T.mt_LeadTongue_look,⟨_,T.b_Tongue_look,.nil⟩,ok_look T⟩
theorem h_PairTongue_look_0 (T:Txt w K mg t):HasMD P w K mg base t.c_PairTongue "look" 7 t.a_Tongue_look t.f_Tongue_look ["self", "begun", "page"] [] (spLk t):=⟨T.cls_PairTongue,T.mt_PairTongue_look,⟨_,T.b_Tongue_look,.nil⟩,ok_look T⟩
theorem h_ShiftTongue_look_0 (T:Txt w K mg t):HasMD P w K mg base t.c_ShiftTongue "look" 7 t.a_Tongue_look t.f_Tongue_look ["self", "begun", "page"] [] (spLk t):=⟨T.cls_ShiftTongue,T.mt_ShiftTongue_look,⟨_,T.b_Tongue_look,.nil⟩,ok_look T⟩
theorem h_TableTongue_look_0 (T:Txt w K mg t):HasMD P w K mg base t.c_TableTongue "look" 7 t.a_Tongue_look t.f_Tongue_look ["self", "begun", "page"] [] (spLk t):=⟨T.cls_TableTongue,T.mt_TableTongue_look,⟨_,T.b_Tongue_look,.nil⟩,ok_look T⟩
def spUn (u:Int):Sp:=fun vs H Q _=>∃ o:V,vs=[o]/\Q (.int u) H
theorem ok_unit (T:Txt w K mg t):FnOk P w K mg base CX0 1 t.a_Tongue_unit t.f_Tongue_unit ["self"] (spUn 1):=by
  refine T.F_Tongue_unit.okQ sc_Tongue_unit (fun vs H Q E h=>by obtain ⟨o,rfl,_⟩:=h; rfl) fun cdv A outer s H vs Q E hr h=>?_
  obtain ⟨o,rfl,k⟩:=h
  exact ⟨_,(q_pss_one (q_ps_ret q_pe_int)),k⟩
theorem h_Tongue_unit (T:Txt w K mg t):HasM P w K mg base t.c_Tongue "unit" 1 t.a_Tongue_unit t.f_Tongue_unit ["self"] (spUn 1):=⟨T.cls_Tongue,T.mt_Tongue_unit,T.b_Tongue_unit,ok_unit T⟩
theorem h_LeadTongue_unit (T:Txt w K mg t):HasM P w K mg base t.c_LeadTongue "unit" 1 t.a_Tongue_unit t.f_Tongue_unit ["self"] (spUn 1):=⟨T.cls_LeadTongue,T.mt_LeadTongue_unit,T.b_Tongue_unit,ok_unit T⟩
theorem h_ShiftTongue_unit (T:Txt w K mg t):HasM P w K mg base t.c_ShiftTongue "unit" 1 t.a_Tongue_unit t.f_Tongue_unit ["self"] (spUn 1):=⟨T.cls_ShiftTongue,T.mt_ShiftTongue_unit,T.b_Tongue_unit,ok_unit T⟩
theorem h_TableTongue_unit (T:Txt w K mg t):HasM P w K mg base t.c_TableTongue "unit" 1 t.a_Tongue_unit t.f_Tongue_unit ["self"] (spUn 1):=⟨T.cls_TableTongue,T.mt_TableTongue_unit,T.b_Tongue_unit,ok_unit T⟩
theorem h_PairTongue_unit (T:Txt w K mg t):HasM P w K mg base t.c_PairTongue "unit" 1 t.a_PairTongue_unit t.f_PairTongue_unit ["self"] (spUn 2):=by
  refine ⟨T.cls_PairTongue,T.mt_PairTongue_unit,T.b_PairTongue_unit,T.F_PairTongue_unit.okQ sc_PairTongue_unit (fun vs H Q E h=>by obtain ⟨o,rfl,_⟩:=h; rfl) fun cdv A outer s H vs Q E hr h=>?_⟩
  obtain ⟨o,rfl,k⟩:=h
  exact ⟨_,(q_pss_one (q_ps_ret q_pe_int)),k⟩
theorem Kp.free {x b:Addr} {H H':Hp} {o:HO} (k:Kp x H H') (hx:H' x=some o) (n:H' b=none):H b=none:=by
  cases e:H b with
  | none=>rfl
  | some u =>
    have:=k b u (fun z=>by rw [z,hx] at n; cases n) e
    rw [n] at this; cases this
abbrev RdO (t:Adr) (dx o b mt:Addr) (pl g c:Int) (e:Bool):HO:=.ins t.c_Reader dx [("tongue",.ref o),("place",.int pl),("at_page",.int g),("begun",.ref b),("many",.int c),("met",.ref mt),("ended",.bl e)]
def spInitR (t:Adr):Sp:=fun vs H Q _=>∃ (x dx o:Addr) (pl:Int),vs=[.ref x,.ref o,.int pl]/\H x=some (.ins t.c_Reader dx [])/\∀ b mt H',H b=none->H mt=none->b≠mt->Kp x H H'->H' x=some (RdO t dx o b mt pl 0 0 false)->H' b=some (.lst [])->H' mt=some (.lst [])->Q .non H'
theorem ok_initR (T:Txt w K mg t):FnOk P w K mg base CX0 1 t.a_Reader_init t.f_Reader_init ["self", "tongue", "place"] (spInitR t):=by
  refine T.F_Reader_init.okQ sc_Reader_init (fun vs H Q E h=>by obtain ⟨x,dx,o,pl,rfl,_⟩:=h; rfl) fun cdv A outer s H vs Q E hr h=>?_
  obtain ⟨x,dx,o,pl,rfl,hx,k⟩:=h
  refine ⟨_,(q_pss_cons (q_ps_fldK (K:=K) rfl (q_vv 0) (q_vv 1))
      (q_pss_cons (q_ps_fldK (K:=K) rfl (q_vv 0) (q_vv 2))
      (q_pss_cons (q_ps_fldK (K:=K) rfl (q_vv 0) q_pe_int)
      (q_pss_cons (q_ps_fldK (K:=K) rfl (q_vv 0) (q_me_lst q_pa_nil))
      (q_pss_cons (q_ps_fldK (K:=K) rfl (q_vv 0) q_pe_int)
      (q_pss_cons (q_ps_fldK (K:=K) rfl (q_vv 0) (q_me_lst q_pa_nil))
      (q_pss_one (q_ps_fldK (K:=K) rfl (q_vv 0) q_pe_bl)))))))),?_⟩
  refine ⟨x,_,dx,_,rfl,hx,T.cls_Reader,T.na_Reader_tongue,Nat.lt_of_lt_of_le Nat.zero_lt_one (by decide),?_⟩
  refine ⟨x,_,dx,_,rfl,upd_same,T.cls_Reader,T.na_Reader_place,Nat.lt_of_lt_of_le (Nat.lt_succ_self 1) (by decide),?_⟩
  refine ⟨x,_,dx,_,rfl,upd_same,T.cls_Reader,T.na_Reader_at_page,Nat.lt_of_lt_of_le (Nat.lt_succ_self 2) (by decide),?_⟩
  refine ⟨sz rfl,fun b H1 g1=>?_⟩
  have nb:H b=none:=Kp.free (x:=x) (Kp.trans Kp.upd (Kp.trans Kp.upd Kp.upd)) upd_same g1.nw
  have k1:Kp x H H1:=Kp.trans (Kp.trans Kp.upd (Kp.trans Kp.upd Kp.upd)) (Kp.of g1.sm)
  have nxb:b≠x:=fun z=>by rw [z,hx] at nb; cases nb
  have h1:=g1.sm x _ upd_same
  refine ⟨x,_,dx,_,rfl,h1,T.cls_Reader,T.na_Reader_begun,Nat.lt_of_lt_of_le (Nat.lt_succ_self 3) (by decide),?_⟩
  refine ⟨x,_,dx,_,rfl,upd_same,T.cls_Reader,T.na_Reader_many,Nat.lt_of_lt_of_le (Nat.lt_succ_self 4) (by decide),?_⟩
  refine ⟨sz rfl,fun mt H2 g2=>?_⟩
  have nm:H mt=none:=Kp.free (x:=x) (k1.trans (Kp.trans Kp.upd Kp.upd)) upd_same g2.nw
  have k3:Kp x H H2:=Kp.trans (k1.trans (Kp.trans Kp.upd Kp.upd)) (Kp.of g2.sm)
  have b2:H2 b=some (.lst []):=g2.sm _ _ (by rw [upd_ne nxb,upd_ne nxb]; exact g1.at_)
  have nbm:b≠mt:=ne_of_none (by rw [upd_ne nxb,upd_ne nxb]; exact g1.at_) g2.nw
  have nxm:mt≠x:=fun z=>by rw [z,hx] at nm; cases nm
  have h2:=g2.sm x _ upd_same
  refine ⟨x,_,dx,_,rfl,h2,T.cls_Reader,T.na_Reader_met,Nat.lt_of_lt_of_le (Nat.lt_succ_self 5) (by decide),?_⟩
  refine ⟨x,_,dx,_,rfl,upd_same,T.cls_Reader,T.na_Reader_ended,Nat.lt_of_lt_of_le (Nat.lt_succ_self 6) (by decide),?_⟩
  exact k b mt _ nb nm nbm (k3.trans (Kp.upd.trans Kp.upd)) (by rw [upd_same]; rfl) (by rw [upd_ne nxb,upd_ne nxb]; exact b2) (by rw [upd_ne nxm,upd_ne nxm]; exact g2.at_)
theorem hk_Reader_1 (T:Txt w K mg t):HasKD P w K mg base "Reader" t.c_Reader 1 t.a_Reader_init t.f_Reader_init ["self", "tongue", "place"] [.int 0] (spInitR t):=⟨T.gc_Reader,T.mk_Reader,⟨_,T.bd_Reader_init,.cons ⟨_,rfl⟩ .nil⟩,ok_initR T⟩
theorem hk_Reader_0 (T:Txt w K mg t):HasKD P w K mg base "Reader" t.c_Reader 1 t.a_Reader_init t.f_Reader_init ["self", "tongue", "place"] [] (spInitR t):=⟨T.gc_Reader,T.mk_Reader,⟨[],T.b_Reader_init,.nil⟩,ok_initR T⟩
theorem h_Reader_meet_none (T:Txt w K mg t):HasM P w K mg base t.c_Reader "meet_none" 2 t.a_Reader_meet_none t.f_Reader_meet_none ["self"] spNo :=
  ⟨T.cls_Reader,T.mt_Reader_meet_none,T.b_Reader_meet_none,T.F_Reader_meet_none.okQ sc_Reader_meet_none (fun vs H Q E h=>h.elim) fun cdv A outer s H vs Q E hr h=>h.elim⟩
theorem h_Reader_meet (T:Txt w K mg t):HasM P w K mg base t.c_Reader "meet" 2 t.a_Reader_meet t.f_Reader_meet ["self", "length", "kind"] spNo :=
  ⟨T.cls_Reader,T.mt_Reader_meet,T.b_Reader_meet,T.F_Reader_meet.okQ sc_Reader_meet (fun vs H Q E h=>h.elim) fun cdv A outer s H vs Q E hr h=>h.elim⟩
def spLab (t:Adr):Sp:=fun vs H Q _=>∃ (x dx o b mt:Addr) (D:Kt) (n g c pl:Int) (m:Nat),vs=[.ref x]/\H x=some (RdO t dx o b mt pl g c false)/\TN t H o D/\PgK D g/\InT D n/\H b=some (.lst (((splF D g n).1.take m).map V.int))/\1<=m/\m<=(splF D g n).1.length/\Evn D m /\
  (m < (splF D g n).1.length->∀ q H',Same H H'->H q=none->H' q=some (.lst [])->Q (.ref q) H') /\
  (m=(splF D g n).1.length->∀ q b' H',Kp x H H'->H q=none->H b'=none->q≠b'->H' x=some (RdO t dx o b' mt pl (splF D g n).2 c false)->H' b'=some (.lst [])->H' q=some (.lst [.int n])->Q (.ref q) H')
theorem h_Reader_look_at_begun (T:Txt w K mg t):HasM P w K mg base t.c_Reader "look_at_begun" 8 t.a_Reader_look_at_begun t.f_Reader_look_at_begun ["self"] (spLab t):=by
  refine ⟨T.cls_Reader,T.mt_Reader_look_at_begun,T.b_Reader_look_at_begun,T.F_Reader_look_at_begun.okQ sc_Reader_look_at_begun (fun vs H Q E h=>by obtain ⟨x,dx,o,b,mt,D,n,g,c,pl,m,rfl,_⟩:=h; rfl) fun cdv A outer s H vs Q E hr h=>?_⟩
  obtain ⟨x,dx,o,b,mt,D,n,g,c,pl,m,rfl,hx,tn,pg,hn,hb,m1,m2,ev,km,ks⟩:=h
  have hu:=hr.units
  refine ⟨_,(q_pss_cons (q_ps_set (i:=1) sc_Reader_look_at_begun.nd rfl (by first | exact Or.inl rfl | exact Or.inr rfl) (q_two (q_methD (h_Tongue_look_0 T) hr (q_fldK (K:=K) rfl (q_vv 0)) (q_pa_c (q_fldK (K:=K) rfl (q_vv 0)) (q_pa_c (q_fldK (K:=K) rfl (q_vv 0)) q_pa_nil))) (q_two (q_methD (h_LeadTongue_look_0 T) hr (q_fldK (K:=K) rfl (q_vv 0)) (q_pa_c (q_fldK (K:=K) rfl (q_vv 0)) (q_pa_c (q_fldK (K:=K) rfl (q_vv 0)) q_pa_nil))) (q_two (q_methD (h_PairTongue_look_0 T) hr (q_fldK (K:=K) rfl (q_vv 0)) (q_pa_c (q_fldK (K:=K) rfl (q_vv 0)) (q_pa_c (q_fldK (K:=K) rfl (q_vv 0)) q_pa_nil))) (q_two (q_methD (h_ShiftTongue_look_0 T) hr (q_fldK (K:=K) rfl (q_vv 0)) (q_pa_c (q_fldK (K:=K) rfl (q_vv 0)) (q_pa_c (q_fldK (K:=K) rfl (q_vv 0)) q_pa_nil))) (q_methD (h_TableTongue_look_0 T) hr (q_fldK (K:=K) rfl (q_vv 0)) (q_pa_c (q_fldK (K:=K) rfl (q_vv 0)) (q_pa_c (q_fldK (K:=K) rfl (q_vv 0)) q_pa_nil))))))))
      (q_pss_cons (q_ps_if (q_mt_cmp (g_eqK (K:=K) rfl hu) (q_pe_ix (g_ixK (K:=K) rfl) (q_vv 1) q_pe_int (fun _ _=>rfl)) q_pe_str (nomark _)) (q_pss_one (q_ps_ret (q_me_lst q_pa_nil))) q_pss_nil)
      (q_pss_cons (q_ps_if (q_mt_cmp (g_eqK (K:=K) rfl hu) (q_pe_ix (g_ixK (K:=K) rfl) (q_vv 1) q_pe_int (fun _ _=>rfl)) q_pe_str (nomark _)) (q_pss_one (q_ps_ret (q_meth0 (h_Reader_meet_none T) hr (q_vv 0)))) q_pss_nil)
      (q_pss_cons (q_ps_fldK (K:=K) rfl (q_vv 0) (q_me_lst q_pa_nil))
      (q_pss_cons (q_ps_fldK (K:=K) rfl (q_vv 0) (q_pe_ix (g_ixK (K:=K) rfl) (q_vv 1) q_pe_int (fun _ _=>rfl)))
      (q_pss_one (q_ps_ret (q_me_lst (q_pa_c (q_pe_ix (g_ixK (K:=K) rfl) (q_vv 1) q_pe_int (fun _ _=>rfl)) q_pa_nil))))))))),?_⟩
  refine seq_nx (fun σ' H'=>∃ pf,Same H H'/\H' pf=some (.tup (lkR D g n m))/\σ'=[some (.ref x),some (.ref pf)]) (fun nx hnx=>?_) ?_
  · cases D with
    | br=>exact hn.elim
    | ld =>
      obtain ⟨dxo,ho⟩:=id tn
      exact .inr (.inl ⟨x,_,dx,_,_,rfl,hx,T.cls_Reader,T.na_Reader_tongue,rfl,o,dxo,_,rfl,ho,rfl,x,_,dx,_,_,rfl,hx,T.cls_Reader,T.na_Reader_begun,rfl,x,_,dx,_,_,rfl,hx,T.cls_Reader,T.na_Reader_at_page,rfl,o,b,.ld,n,g,m,rfl,tn,pg,hn,hb,m1,m2,ev,fun p H' s' hp=>hnx _ _ ⟨p,s',hp,rfl⟩⟩)
    | pr h =>
      obtain ⟨dxo,ho⟩:=id tn
      exact .inr (.inr (.inl ⟨x,_,dx,_,_,rfl,hx,T.cls_Reader,T.na_Reader_tongue,rfl,o,dxo,_,rfl,ho,rfl,x,_,dx,_,_,rfl,hx,T.cls_Reader,T.na_Reader_begun,rfl,x,_,dx,_,_,rfl,hx,T.cls_Reader,T.na_Reader_at_page,rfl,o,b,.pr h,n,g,m,rfl,tn,pg,hn,hb,m1,m2,ev,fun p H' s' hp=>hnx _ _ ⟨p,s',hp,rfl⟩⟩))
    | sh f ns ms =>
      exact .inr (.inr (.inr (.inl ⟨x,_,dx,_,_,rfl,hx,T.cls_Reader,T.na_Reader_tongue,rfl,o,f.dx,_,rfl,Tg.o tn,rfl,x,_,dx,_,_,rfl,hx,T.cls_Reader,T.na_Reader_begun,rfl,x,_,dx,_,_,rfl,hx,T.cls_Reader,T.na_Reader_at_page,rfl,o,b,.sh f ns ms,n,g,m,rfl,tn,pg,hn,hb,m1,m2,ev,fun p H' s' hp=>hnx _ _ ⟨p,s',hp,rfl⟩⟩)))
    | tb f es =>
      exact .inr (.inr (.inr (.inr ⟨x,_,dx,_,_,rfl,hx,T.cls_Reader,T.na_Reader_tongue,rfl,o,f.dx,_,rfl,tn.1.o,rfl,x,_,dx,_,_,rfl,hx,T.cls_Reader,T.na_Reader_begun,rfl,x,_,dx,_,_,rfl,hx,T.cls_Reader,T.na_Reader_at_page,rfl,o,b,.tb f es,n,g,m,rfl,tn,pg,hn,hb,m1,m2,ev,fun p H' s' hp=>hnx _ _ ⟨p,s',hp,rfl⟩⟩)))
  · rintro σ' H1 ⟨pf,s1,hp,rfl⟩
    unfold lkR at hp
    by_cases e:m=(splF D g n).1.length
    · rw [if_pos e] at hp
      refine ⟨_,_,.inr (.of hp),atI_nat (j:=0) rfl,?_⟩
      refine ⟨_,_,DataV.str _,DataV.str _,str_shaped ok_s,str_shaped ok_m,?_⟩
      refine ite2 (fun z=>absurd (show PyData.eqv (.str "sign") (.str "more")=true from z) (by decide +kernel)) (fun _=>?_)
      refine ⟨_,_,.inr (.of hp),atI_nat (j:=0) rfl,?_⟩
      refine ⟨_,_,DataV.str _,DataV.str _,str_shaped ok_s,str_shaped ok_n,?_⟩
      refine ite2 (fun z=>absurd (show PyData.eqv (.str "sign") (.str "none")=true from z) (by decide +kernel)) (fun _=>?_)
      refine ⟨sz rfl,fun b' H2 g2=>?_⟩
      have s2:=s1.trans g2.sm
      have hx2:=s2 _ _ hx
      have hp2:=g2.sm _ _ hp
      have nb:H b'=none:=s1.free g2.nw
      have npx:pf≠x:=ne_kind hp2 hx2 (by intro z; cases z)
      have nbx:b'≠x:=fun z=>by rw [z,hx] at nb; cases nb
      refine ⟨x,_,dx,_,rfl,hx2,T.cls_Reader,T.na_Reader_begun,Nat.lt_of_lt_of_le (Nat.lt_succ_self 7) (by decide),?_⟩
      refine ⟨_,_,.inr (.of (by rw [upd_ne npx]; exact hp2)),atI_nat (j:=2) rfl,?_⟩
      refine ⟨x,_,dx,_,rfl,upd_same,T.cls_Reader,T.na_Reader_at_page,Nat.lt_of_lt_of_le (Nat.lt_succ_self 7) (by decide),?_⟩
      refine ⟨_,_,.inr (.of (by rw [upd_ne npx,upd_ne npx]; exact hp2)),atI_nat (j:=1) rfl,?_⟩
      refine ⟨sz rfl,fun q H3 g3=>?_⟩
      have hb3:=g3.sm b' _ (by rw [upd_ne nbx,upd_ne nbx]; exact g2.at_)
      exact ks e q b' H3 (Kp.trans (Kp.trans (Kp.of s2) (Kp.trans Kp.upd Kp.upd)) (Kp.of g3.sm)) (Kp.free (x:=x) (Kp.trans (Kp.of s2) (Kp.trans Kp.upd Kp.upd)) upd_same g3.nw) nb (ne_of_none (by rw [upd_ne nbx,upd_ne nbx]; exact g2.at_) g3.nw).symm (g3.sm x _ (by rw [upd_same]; rfl)) hb3 g3.at_
    · rw [if_neg e] at hp
      refine ⟨_,_,.inr (.of hp),atI_nat (j:=0) rfl,?_⟩
      refine ⟨_,_,DataV.str _,DataV.str _,str_shaped ok_m,str_shaped ok_m,?_⟩
      refine ite2 (fun _=>?_) (fun z=>absurd (show PyData.eqv (.str "more") (.str "more")=true by decide +kernel) z)
      exact ⟨sz rfl,fun q H2 g2=>km (by omega) q H2 (s1.trans g2.sm) (s1.free g2.nw) g2.at_⟩
theorem wr_acc (D:Kt) : ∀ (ts:List Int) (row:List Int) (g:Int),ts.foldl (fun a n=>(a.1++(splF D a.2 n).1,(splF D a.2 n).2)) (row,g)=(row++(wrF D g ts).1,(wrF D g ts).2)
  | [],row,g=>by simp [wrF]
  | n :: ts,row,g=>by
    rw [List.foldl_cons,wr_acc D ts]
    have e:wrF D g (n :: ts)=((splF D g n).1++(wrF D (splF D g n).2 ts).1,(wrF D (splF D g n).2 ts).2):=by
      show List.foldl _ _ (n :: ts)=_
      rw [List.foldl_cons,wr_acc D ts]
      simp
    rw [e,List.append_assoc]
theorem wr_append (D:Kt) (g:Int) (xs ys:List Int):wrF D g (xs++ys)=((wrF D g xs).1++(wrF D (wrF D g xs).2 ys).1,(wrF D (wrF D g xs).2 ys).2):=by
  show List.foldl _ _ (xs++ys)=_
  rw [List.foldl_append]
  exact wr_acc D ys _ _
def rk (D:Kt) (ts:List Int) (k:Nat):List Int:=(splF D (wrF D 0 (ts.take k)).2 (ts.getD k 0)).1
theorem wr_next {D:Kt} {ts:List Int} {k:Nat} {n:Int} (h:ts[k]? = some n):wrF D 0 (ts.take (k+1))=((wrF D 0 (ts.take k)).1++rk D ts k,(splF D (wrF D 0 (ts.take k)).2 n).2):=by
  rw [take_snoc h,wr_snoc]
  unfold rk
  rw [List.getD_eq_getElem?_getD,h]
  rfl
theorem wr_split {D:Kt} {ts:List Int} {k:Nat} {n:Int} (h:ts[k]? = some n) : ∃ rest,(wrF D 0 ts).1=(wrF D 0 (ts.take k)).1++rk D ts k++rest:=by
  have e:ts=ts.take (k+1)++ts.drop (k+1):=(List.take_append_drop _ _).symm
  refine ⟨(wrF D (wrF D 0 (ts.take (k+1))).2 (ts.drop (k+1))).1,?_⟩
  have:wrF D 0 ts=wrF D 0 (ts.take (k+1)++ts.drop (k+1)):=by rw [<- e]
  rw [this,wr_append,wr_next h]
theorem spl_pos {D:Kt} {g n:Int} (tn:Kok D) (pg:PgK D g) (hn:InT D n):1<=(splF D g n).1.length:=by
  cases D with
  | ld=>exact (row_len n).1
  | pr h=>show 1<=(prow h n).length; rw [prow_len2]; split <;> omega
  | sh f ns ms =>
    obtain ⟨r,g',e,_,hr⟩:=spel_sh pg hn
    rw [spl_sh e]
    rcases hr with ⟨b,rfl,_⟩ | ⟨c,rfl,_⟩
    · show 1<=1; decide
    · show 1<=2; decide
  | tb f es =>
    obtain ⟨e,he,_,ef⟩:=find_in hn
    have es':splF (.tb f es) g n=(e.2,g):=by
      show (Option.map _ _).getD _=_
      rw [ef]; rfl
    rw [es']
    exact (Es.sg tn e he).2.1
  | br=>exact hn.elim
theorem evn_or {D:Kt} {g n:Int} {m:Nat} (hm:m < (splF D g n).1.length):Evn D (m+1)\/(∃ h,D=.pr h)/\(m+1)%2=1/\m+1 < (splF D g n).1.length:=by
  cases D with
  | pr h =>
    rcases Nat.mod_two_eq_zero_or_one (m+1) with z | z
    · exact .inl z
    · refine .inr ⟨⟨h,rfl⟩,z,?_⟩
      have hm:m < (prow h n).length:=hm
      show m+1 < (prow h n).length
      have:=prow_len2 h n
      split at this <;> omega
  | _=>exact .inl trivial
def Kp2 (x y:Addr) (H H':Hp):Prop:=∀ b u,b≠x->b≠y->H b=some u->H' b=some u
def spTk (t:Adr):Sp:=fun vs H Q _=>∃ (Hb:Hp) (x dx o b mt:Addr) (D:Kt) (n g c by' pl:Int) (m:Nat),vs=[.ref x,.int by']/\TN t Hb o D/\Same Hb H/\Hb x=none/\Hb b=none/\H x=some (RdO t dx o b mt pl g c false)/\PgK D g/\InT D n/\H b=some (.lst (((splF D g n).1.take m).map V.int))/\(splF D g n).1[m]? = some by' /\
  (m+1 < (splF D g n).1.length->∀ q H',Kp2 x b H H'->H q=none->H' x=some (RdO t dx o b mt pl g (c+1) false)->H' b=some (.lst (((splF D g n).1.take (m+1)).map V.int))->H' q=some (.lst [])->Q (.ref q) H') /\
  (m+1=(splF D g n).1.length->∀ q b' H',Kp2 x b H H'->H q=none->H b'=none->q≠b'->H' x=some (RdO t dx o b' mt pl (splF D g n).2 (c+1) false)->H' b'=some (.lst [])->H' q=some (.lst [.int n])->Q (.ref q) H')
theorem h_Reader_take (T:Txt w K mg t):HasM P w K mg base t.c_Reader "take" 9 t.a_Reader_take t.f_Reader_take ["self", "byte"] (spTk t):=by
  refine ⟨T.cls_Reader,T.mt_Reader_take,T.b_Reader_take,T.F_Reader_take.okQ sc_Reader_take (fun vs H Q E h=>by obtain ⟨Hb,x,dx,o,b,mt,D,n,g,c,by',pl,m,rfl,_⟩:=h; rfl) fun cdv A outer s H vs Q E hr h=>?_⟩
  obtain ⟨Hb,x,dx,o,b,mt,D,n,g,c,by',pl,m,rfl,tn,sb,fx,fb,hx,pg,hn,hb,hby,km,ks⟩:=h
  have hu:=hr.units
  have hm:m < (splF D g n).1.length:=(List.getElem?_eq_some_iff.mp hby).1
  have l6:(splF D g n).1.length<=6:=by obtain ⟨r,g',_,e,_,l⟩:=spl_in tn.ok pg hn; rw [e]; exact l
  have nbx:b≠x:=ne_kind hb hx (by intro z; cases z)
  refine ⟨_,(q_pss_cons (q_ps_expr (q_pe_bmK (K:=K) rfl PySem.F.plainAttrs_list PySem.F.slot_list_append PySem.F.type_list_append mg_append (q_fldK (K:=K) rfl (q_vv 0)) (q_pa_c (q_vv 1) q_pa_nil)))
      (q_pss_cons (q_fldaugK (K:=K) rfl (q_vv 0) q_pe_int)
      (q_pss_cons (q_ps_if (q_mt_cmp (g_neK (K:=K) rfl hu) (q_pe_op g_mod (q_calB (c_lenK (K:=K) rfl) T.n_len PySem.boot_len (q_pa_c (q_fldK (K:=K) rfl (q_vv 0)) q_pa_nil)) (q_two (q_meth0 (h_Tongue_unit T) hr (q_fldK (K:=K) rfl (q_vv 0))) (q_two (q_meth0 (h_LeadTongue_unit T) hr (q_fldK (K:=K) rfl (q_vv 0))) (q_two (q_meth0 (h_PairTongue_unit T) hr (q_fldK (K:=K) rfl (q_vv 0))) (q_two (q_meth0 (h_ShiftTongue_unit T) hr (q_fldK (K:=K) rfl (q_vv 0))) (q_meth0 (h_TableTongue_unit T) hr (q_fldK (K:=K) rfl (q_vv 0)))))))) q_pe_int (nomark _)) (q_pss_one (q_ps_ret (q_me_lst q_pa_nil))) q_pss_nil)
      (q_pss_one (q_ps_ret (q_meth0 (h_Reader_look_at_begun T) hr (q_vv 0))))))),?_⟩
  refine ⟨x,_,dx,_,_,rfl,hx,T.cls_Reader,T.na_Reader_begun,rfl,?_⟩
  refine ⟨.inl ⟨rfl,_,.of hb⟩,?_⟩
  refine ⟨_,hb,szlt (by rw [List.length_map,List.length_take]; omega),?_⟩
  obtain ⟨H1,e1⟩ : ∃ H1,H1=upd H b (.lst (((splF D g n).1.take m).map V.int++[.int by'])):=⟨_,rfl⟩
  rw [<- e1]
  have hb1:H1 b=some (.lst (((splF D g n).1.take (m+1)).map V.int)):=by rw [e1,upd_same,take_snoc hby,List.map_append]; rfl
  have hx1:H1 x=some (RdO t dx o b mt pl g c false):=by rw [e1,upd_ne nbx.symm]; exact hx
  refine ⟨x,_,dx,_,_,rfl,hx1,T.cls_Reader,T.na_Reader_many,rfl,_,_,rfl,rfl,dx,_,hx1,Nat.lt_of_lt_of_le (Nat.lt_succ_self 7) (by decide),?_⟩
  obtain ⟨H2,e2⟩ : ∃ H2,H2=upd H1 x (RdO t dx o b mt pl g (c+1) false):=⟨_,rfl⟩
  have e2':upd H1 x (.ins t.c_Reader dx (putF "many" (.int (c+1)) [("tongue",.ref o),("place",.int pl),("at_page",.int g),("begun",.ref b),("many",.int c),("met",.ref mt),("ended",.bl false)]))=H2:=by rw [e2]; rfl
  rw [e2']
  have hx2:H2 x=some (RdO t dx o b mt pl g (c+1) false):=by rw [e2]; exact upd_same
  have hb2:H2 b=some (.lst (((splF D g n).1.take (m+1)).map V.int)):=by rw [e2,upd_ne nbx]; exact hb1
  have sb2:Same Hb H2:=by rw [e2,e1]; exact (sb.put fb).put fx
  have k2:Kp2 x b H H2:=fun a u na nb e=>by rw [e2,upd_ne na,e1,upd_ne nb]; exact e
  have tn2:=tn.mono sb2
  have ltk:((splF D g n).1.take (m+1)).length=m+1:=by rw [List.length_take]; omega
  have nq2 : ∀ q,H2 q=none->H q=none:=fun q nq=>by
    cases e:H q with
    | none=>rfl
    | some u =>
      have:=k2 q u (fun z=>by rw [z,hx2] at nq; cases nq) (fun z=>by rw [z,hb2] at nq; cases nq) e
      rw [nq] at this; cases this
  dsimp only
  refine seq_nx (fun σ' H'=>H'=H2/\Evn D (m+1)/\σ'=[some (.ref x),some (.int by')]) (fun nx hnx=>?_) ?_
  · refine ⟨x,_,dx,_,_,rfl,hx2,T.cls_Reader,T.na_Reader_begun,rfl,?_⟩
    refine ⟨_,.inl (.of hb2),?_⟩
    rw [List.length_map,ltk]
    cases D with
    | br=>exact hn.elim
    | ld =>
      obtain ⟨dxo,ho⟩:=id tn2
      refine .inr (.inl ⟨x,_,dx,_,_,rfl,hx2,T.cls_Reader,T.na_Reader_tongue,rfl,o,dxo,_,rfl,ho,rfl,_,rfl,Int.zero_lt_one,?_⟩)
      exact ite2 (fun z=>absurd z (by simp)) (fun _=>hnx _ _ ⟨rfl,trivial,rfl⟩)
    | pr h =>
      obtain ⟨dxo,ho⟩:=id tn2
      refine .inr (.inr (.inl ⟨x,_,dx,_,_,rfl,hx2,T.cls_Reader,T.na_Reader_tongue,rfl,o,dxo,_,rfl,ho,rfl,_,rfl,(show (0:Int) < 2 by decide),?_⟩))
      refine ite2 (fun z=>?_) (fun z=>?_)
      · rcases evn_or hm with ev | ⟨_,_,lt⟩
        · have ev:(m+1)%2=0:=ev
          have z:(!decide ((((m+1:Nat):Int))%2=0))=true:=z
          rw [decide_eq_true (by omega)] at z
          cases z
        · exact ⟨sz rfl,fun q H3 g3=>km lt q H3 (fun a u na nb e=>g3.sm _ _ (k2 a u na nb e)) (nq2 q g3.nw) (g3.sm _ _ hx2) (g3.sm _ _ hb2) g3.at_⟩
      · refine hnx _ _ ⟨rfl,?_,rfl⟩
        have z : ¬ (!decide ((((m+1:Nat):Int))%2=0))=true:=z
        show (m+1)%2=0
        rcases Nat.mod_two_eq_zero_or_one (m+1) with y | y
        · exact y
        · exact absurd (by rw [decide_eq_false (by omega)]; rfl) z
    | sh f ns ms =>
      refine .inr (.inr (.inr (.inl ⟨x,_,dx,_,_,rfl,hx2,T.cls_Reader,T.na_Reader_tongue,rfl,o,f.dx,_,rfl,Tg.o tn2,rfl,_,rfl,Int.zero_lt_one,?_⟩)))
      exact ite2 (fun z=>absurd z (by simp)) (fun _=>hnx _ _ ⟨rfl,trivial,rfl⟩)
    | tb f es =>
      refine .inr (.inr (.inr (.inr ⟨x,_,dx,_,_,rfl,hx2,T.cls_Reader,T.na_Reader_tongue,rfl,o,f.dx,_,rfl,tn2.1.o,rfl,_,rfl,Int.zero_lt_one,?_⟩)))
      exact ite2 (fun z=>absurd z (by simp)) (fun _=>hnx _ _ ⟨rfl,trivial,rfl⟩)
  · rintro σ' H' ⟨rfl,ev,rfl⟩
    refine ⟨x,dx,_,rfl,hx2,rfl,x,dx,o,b,mt,D,n,g,c+1,pl,m+1,rfl,hx2,tn2,pg,hn,hb2,by omega,by omega,ev,fun lt q H3 s3 nq hq=>?_,fun eq q b' H3 k3 nq nb' ne hx3 hb3 hq3=>?_⟩
    · exact km lt q H3 (fun a u na nb e=>s3 _ _ (k2 a u na nb e)) (nq2 q nq) (s3 _ _ hx2) (s3 _ _ hb2) hq
    · exact ks eq q b' H3 (fun a u na nb e=>k3 _ _ na (k2 a u na nb e)) (nq2 q nq) (nq2 b' nb') ne hx3 hb3 hq3
theorem rk_eq {D:Kt} {ts:List Int} {k:Nat} {n:Int} (h:ts[k]? = some n):rk D ts k=(splF D (wrF D 0 (ts.take k)).2 n).1:=by unfold rk; rw [List.getD_eq_getElem?_getD,h]; rfl
theorem pgk0 (D:Kt):PgK D 0:=by
  cases D with
  | sh f ns ms=>exact .inl rfl
  | _=>exact rfl
theorem rk_pos {D:Kt} {ts:List Int} (tn:Kok D) (hin : ∀ n∈ts,InT D n) {k:Nat} (hk:k < ts.length):0 < (rk D ts k).length:=by
  have e:=List.getElem?_eq_getElem hk
  rw [rk_eq e]
  exact spl_pos tn (wr_ok tn (pgk0 D) k ts (all_at hin k)).1 (hin _ (List.mem_of_getElem? e))
theorem wl_succ {D:Kt} {ts:List Int} {j:Nat} (h:j < ts.length):(wrF D 0 (ts.take (j+1))).1.length=(wrF D 0 (ts.take j)).1.length+(rk D ts j).length:=by
  rw [wr_next (List.getElem?_eq_getElem h)]; simp
theorem wl_mono {D:Kt} {ts:List Int} {j:Nat} : ∀ k,j<=k->k<=ts.length->(wrF D 0 (ts.take j)).1.length<=(wrF D 0 (ts.take k)).1.length
  | 0,h,_=>by
    obtain rfl:j=0:=by omega
    exact Nat.le_refl _
  | k+1,h,hk=>by
    by_cases e:j=k+1
    · rw [e]; exact Nat.le_refl _
    · have:=wl_mono (D:=D) (ts:=ts) (j:=j) k (by omega) (by omega)
      rw [wl_succ (by omega)]
      omega
def Stt (D:Kt) (ts:List Int) (N k m:Nat):Prop:=k<=ts.length/\(wrF D 0 ts).1.take N=(wrF D 0 (ts.take k)).1++(rk D ts k).take m/\N<=(wrF D 0 ts).1.length/\(k=ts.length->m=0)/\(k < ts.length->m < (rk D ts k).length)
theorem Stt.len {D:Kt} {ts:List Int} {N k m:Nat} (h:Stt D ts N k m):N=(wrF D 0 (ts.take k)).1.length+m:=by
  obtain ⟨hk,e,hN,h0,h1⟩:=h
  have l:=congrArg List.length e
  rw [List.length_take,List.length_append,List.length_take] at l
  rcases Nat.lt_or_ge k ts.length with z | z
  · have:=h1 z
    omega
  · have:=h0 (by omega)
    omega
theorem Stt.uniq {D:Kt} {ts:List Int} {N k m k' m':Nat} (h:Stt D ts N k m) (h':Stt D ts N k' m'):k=k'/\m=m':=by
  have aux : ∀ {k m k' m':Nat},Stt D ts N k m->Stt D ts N k' m'->¬ k < k':=fun {k m k' m'} h h' lt=>by
    have a:=h.len
    have b:=h'.len
    have kl:k < ts.length:=Nat.lt_of_lt_of_le lt h'.1
    have c:=h.2.2.2.2 kl
    have d:=wl_mono (D:=D) (ts:=ts) (j:=k+1) k' lt h'.1
    rw [wl_succ kl] at d
    omega
  have e:k=k':=by
    have:=aux h h'
    have:=aux h' h
    omega
  subst e
  refine ⟨rfl,?_⟩
  have:=h.len
  have:=h'.len
  omega
theorem Stt.zero {D:Kt} {ts:List Int} (pos : ∀ j,j < ts.length->0 < (rk D ts j).length):Stt D ts 0 0 0:=⟨Nat.zero_le _,rfl,Nat.zero_le _,(fun _=>rfl),pos 0⟩
theorem Stt.step {D:Kt} {ts:List Int} {N k m:Nat} {by':Int} (h:Stt D ts N k m) (pos : ∀ j,j < ts.length->0 < (rk D ts j).length) (hb:(wrF D 0 ts).1[N]? = some by') : ∃ n,ts[k]? = some n/\(rk D ts k)[m]? = some by'/\(m+1 < (rk D ts k).length->Stt D ts (N+1) k (m+1))/\(m+1=(rk D ts k).length->Stt D ts (N+1) (k+1) 0):=by
  have hl:=h.len
  obtain ⟨hk,htk,hN,hm0,hm1⟩:=h
  have hi:N < (wrF D 0 ts).1.length:=(List.getElem?_eq_some_iff.mp hb).1
  have hj':k < ts.length:=by
    rcases Nat.lt_or_ge k ts.length with z | z
    · exact z
    · have e:k=ts.length:=by omega
      rw [hm0 e,e,List.take_length] at hl
      omega
  have hm:=hm1 hj'
  obtain ⟨n,hn⟩ : ∃ n,ts[k]? = some n:=⟨_,List.getElem?_eq_getElem hj'⟩
  obtain ⟨rest,hsp⟩:=wr_split (D:=D) hn
  have nxt:=wr_next (D:=D) hn
  have hbm:(rk D ts k)[m]? = some by':=by
    rw [hsp,hl,List.append_assoc,List.getElem?_append_right (by omega),Nat.add_sub_cancel_left,List.getElem?_append_left hm] at hb
    exact hb
  have htk2:(wrF D 0 ts).1.take (N+1)=(wrF D 0 (ts.take k)).1++(rk D ts k).take (m+1):=by rw [take_snoc hb,htk,take_snoc hbm,List.append_assoc]
  refine ⟨n,hn,hbm,fun lt=>⟨hk,htk2,hi,by omega,fun _=>lt⟩,fun eq=>⟨hj',?_,hi,(fun _=>rfl),pos (k+1)⟩⟩
  rw [htk2,eq,List.take_length,nxt]; simp
def Rd (t:Adr) (H:Hp) (x dx o b mt:Addr) (pl:Int) (D:Kt) (ts:List Int) (N k m:Nat):Prop:=H x=some (RdO t dx o b mt pl (wrF D 0 (ts.take k)).2 (N:Int) false)/\H b=some (.lst (((rk D ts k).take m).map V.int))/\H mt=some (.lst [])
def spFe (K:PySem.W.Frag) (t:Adr):Sp:=fun vs H Q _=>(∃ (Hb:Hp) (x dx o b mt a:Addr) (D:Kt) (ts ws:List Int) (pl:Int) (N k m:Nat),vs=[.ref x,.ref a]/\TN t Hb o D/\Same Hb H/\Hb x=none/\Hb b=none/\Hb mt=none/\b≠mt/\(∀ n∈ts,InT D n)/\ts.length<=1000/\SqL K Hb a (ws.map V.int)/\(∀ i,i < ws.length->ws[i]? = (wrF D 0 ts).1[N+i]?)/\Rd t H x dx o b mt pl D ts N k m/\Stt D ts N k m /\
    ∀ (q b':Addr) (k' m':Nat) H',Same Hb H'->H q=none->Hb b'=none->b'≠mt->q≠b'->Rd t H' x dx o b' mt pl D ts (N+ws.length) k' m'->H' q=some (.lst (((ts.take k').drop k).map V.int))->k<=k'->Stt D ts (N+ws.length) k' m'->Q (.ref q) H') \/
  (∃ (x dx o b mt a:Addr) (pl g c:Int),vs=[.ref x,.ref a]/\H x=some (RdO t dx o b mt pl g c true)/\∀ q H',Gro H q (.lst []) H'->Q (.ref q) H')
theorem h_Reader_feed (T:Txt w K mg t):HasM P w K mg base t.c_Reader "feed" 10 t.a_Reader_feed t.f_Reader_feed ["self", "row"] (spFe K t):=by
  refine ⟨T.cls_Reader,T.mt_Reader_feed,T.b_Reader_feed,T.F_Reader_feed.okQ sc_Reader_feed (fun vs H Q E h=>by rcases h with ⟨Hb,x,dx,o,b,mt,a,D,ts,ws,pl,N,k,m,rfl,_⟩ | ⟨x,dx,o,b,mt,a,pl,g,c,rfl,_⟩ <;> rfl) fun cdv A outer s H vs Q E hr h=>?_⟩
  have hu:=hr.units
  rcases h with ⟨Hb,x,dx,o,b0,mt,a,D,ts,ws,pl,N,k0,m0,rfl,tn,sb,fx,fb0,fm,nbm0,hin,hl,ha,hws,⟨hx,hb0,hmt⟩,st0,k⟩ | ⟨x,dx,o,b,mt,a,pl,g,c,rfl,hx,k⟩
  · refine ⟨_,(q_pss_cons (q_ps_set (i:=2) sc_Reader_feed.nd rfl (by first | exact Or.inl rfl | exact Or.inr rfl) (q_me_lst q_pa_nil))
      (q_pss_cons (q_ps_if (q_mt_truK (K:=K) rfl (q_fldK (K:=K) rfl (q_vv 0))) (q_pss_one (q_ps_ret (q_vv 2))) q_pss_nil)
      (q_pss_cons (q_ps_for PassesOwn.never rfl (q_pi_listK (K:=K) rfl (q_vv 1)) (q_pg_name (i:=3) sc_Reader_feed.nd rfl (by first | exact Or.inl rfl | exact Or.inr rfl)) (q_pss_cons (q_ps_expr (q_pe_bmK (K:=K) rfl PySem.F.plainAttrs_list PySem.F.slot_list_extend PySem.F.type_list_extend (mg_extendK (K:=K) rfl) (q_vv 2) (q_pa_c (q_meth (h_Reader_take T) hr (q_vv 0) (q_pa_c (q_vv 3) q_pa_nil)) q_pa_nil)))
      (q_pss_one (q_ps_if (q_mt_truK (K:=K) rfl (q_fldK (K:=K) rfl (q_vv 0))) (q_pss_one q_ps_break) q_pss_nil))))
      (q_pss_one (q_ps_ret (q_vv 2)))))),?_⟩
    have pos : ∀ j,j < ts.length->0 < (rk D ts j).length:=fun j hj=>rk_pos tn.ok hin hj
    refine ⟨sz rfl,fun q H1 g1=>?_⟩
    have s1:=sb.trans g1.sm
    have fq:Hb q=none:=sb.free g1.nw
    have hx1:=g1.sm _ _ hx
    have nqm:q≠mt:=(ne_of_none hmt g1.nw).symm
    refine ⟨x,_,dx,_,_,rfl,hx1,T.cls_Reader,T.na_Reader_ended,rfl,?_⟩
    refine ⟨a,rfl,⟨_,s1.seq ha⟩,for_list (K:=K) (a:=a) (xs:=ws.map V.int) (fun i σ H'=>Same Hb H'/\∃ (j m:Nat) (b:Addr) (v3:Option V),Hb b=none/\q≠b/\b≠mt/\Rd t H' x dx o b mt pl D ts (N+i) j m/\H' q=some (.lst (((ts.take j).drop k0).map V.int))/\k0<=j/\Stt D ts (N+i) j m/\σ=[some (.ref x),some (.ref a),some (.ref q),v3])
      ⟨s1,k0,m0,b0,_,fb0,(ne_of_none hb0 g1.nw).symm,nbm0,⟨hx1,g1.sm _ _ hb0,g1.sm _ _ hmt⟩,by rw [List.drop_eq_nil_of_le (by rw [List.length_take]; omega)]; exact g1.at_,Nat.le_refl _,st0,rfl⟩ (fun i σ H' _ z=>z.1.seq ha) ?_ ?_⟩
    · rintro i v σ H3 hv ⟨s3,j,m,b,v3,fb,nqb,nbm,⟨hx3,hb3,hm3⟩,hq3,hkj,st,rfl⟩
      obtain ⟨by',hby,rfl⟩:=ints_at hv
      have hiw:i < ws.length:=(List.getElem?_eq_some_iff.mp hby).1
      rw [hws i hiw] at hby
      obtain ⟨n,hn,hbm,st1,st2⟩:=st.step pos hby
      have hjl:j < ts.length:=(List.getElem?_eq_some_iff.mp hn).1
      have hnin:=hin n (List.mem_of_getElem? hn)
      have pgk:=(wr_ok tn.ok (pgk0 D) j ts (all_at hin j)).1
      have nxt:=wr_next (D:=D) hn
      have erk:=rk_eq (D:=D) hn
      have nqx:q≠x:=ne_kind hq3 hx3 (by intro z; cases z)
      have nmx:mt≠x:=ne_kind hm3 hx3 (by intro z; cases z)
      have lts:((ts.take j).drop k0).length<=1000:=by rw [List.length_drop,List.length_take]; omega
      refine ⟨.inl ⟨rfl,_,.of hq3⟩,?_⟩
      refine ⟨x,dx,_,rfl,hx3,rfl,Hb,x,dx,o,b,mt,D,n,_,_,by',pl,m,rfl,tn,s3,fx,fb,hx3,pgk,hnin,by rw [<- erk]; exact hb3,by rw [<- erk]; exact hbm,fun lt q2 H4 k4 nq2 hx4 hb4 hq4=>?_,fun eq q2 b2 H4 k4 nq2 nb2 ne hx4 hb4 hq4=>?_⟩
      · rw [<- erk] at lt hb4
        have hqq:=k4 _ _ nqx nqb hq3
        have s4:Same Hb H4:=fun a u e=>k4 a u (ne_of_none e fx) (ne_of_none e fb) (s3 a u e)
        refine ⟨_,_,hqq,hq4,szl (by rw [List.length_map]; show _+0<=_; omega),?_⟩
        have hx5:upd H4 q (.lst (((ts.take j).drop k0).map V.int++[])) x=some (RdO t dx o b mt pl (wrF D 0 (ts.take j)).2 ((N+i+1:Nat):Int) false):=by rw [upd_ne nqx.symm,Int.natCast_add]; exact hx4
        refine ⟨x,_,dx,_,_,rfl,hx5,T.cls_Reader,T.na_Reader_ended,rfl,?_⟩
        exact ⟨s4.put fq,j,m+1,b,_,fb,nqb,nbm,⟨hx5,by rw [upd_ne nqb.symm]; exact hb4,by rw [upd_ne nqm.symm]; exact k4 _ _ nmx nbm.symm hm3⟩,by rw [upd_same,List.append_nil],hkj,st1 lt,rfl⟩
      · rw [<- erk] at eq
        have hqq:=k4 _ _ nqx nqb hq3
        have s4:Same Hb H4:=fun a u e=>k4 a u (ne_of_none e fx) (ne_of_none e fb) (s3 a u e)
        have nqb2:q≠b2:=ne_of_none hq3 nb2
        refine ⟨_,_,hqq,hq4,szl (by rw [List.length_map]; show _+1<=_; rw [List.length_drop,List.length_take]; omega),?_⟩
        have ex:(wrF D 0 (ts.take (j+1))).2=(splF D (wrF D 0 (ts.take j)).2 n).2:=by rw [nxt]
        have hx5:upd H4 q (.lst (((ts.take j).drop k0).map V.int++[.int n])) x=some (RdO t dx o b2 mt pl (wrF D 0 (ts.take (j+1))).2 ((N+i+1:Nat):Int) false):=by rw [upd_ne nqx.symm,ex,Int.natCast_add]; exact hx4
        refine ⟨x,_,dx,_,_,rfl,hx5,T.cls_Reader,T.na_Reader_ended,rfl,?_⟩
        exact ⟨s4.put fq,j+1,0,b2,_,s3.free nb2,nqb2,(ne_of_none hm3 nb2).symm,⟨hx5,by rw [upd_ne nqb2.symm]; exact hb4,by rw [upd_ne nqm.symm]; exact k4 _ _ nmx nbm.symm hm3⟩,by rw [upd_same,take_snoc hn,List.drop_append_of_le_length (by rw [List.length_take]; omega),List.map_append]; rfl,by omega,st2 eq,rfl⟩
    · rintro σ H3 ⟨s3,j,m,b,v3,fb,nqb,nbm,rd3,hq3,hkj,st,rfl⟩
      rw [List.length_map] at rd3 st
      exact k q b j m H3 s3 g1.nw fb nbm nqb rd3 hq3 hkj st
  · refine ⟨_,(q_pss_cons (q_ps_set (i:=2) sc_Reader_feed.nd rfl (by first | exact Or.inl rfl | exact Or.inr rfl) (q_me_lst q_pa_nil))
      (q_pss_cons (q_ps_if (q_mt_truK (K:=K) rfl (q_fldK (K:=K) rfl (q_vv 0))) (q_pss_one (q_ps_ret (q_vv 2))) q_pss_nil)
      (q_pss_cons (q_ps_for PassesOwn.never rfl (q_pi_listK (K:=K) rfl (q_vv 1)) (q_pg_name (i:=3) sc_Reader_feed.nd rfl (by first | exact Or.inl rfl | exact Or.inr rfl)) (q_pss_cons (q_ps_expr (q_pe_bmK (K:=K) rfl PySem.F.plainAttrs_list PySem.F.slot_list_extend PySem.F.type_list_extend (mg_extendK (K:=K) rfl) (q_vv 2) (q_pa_c (q_meth (h_Reader_take T) hr (q_vv 0) (q_pa_c (q_vv 3) q_pa_nil)) q_pa_nil)))
      (q_pss_one (q_ps_if (q_mt_truK (K:=K) rfl (q_fldK (K:=K) rfl (q_vv 0))) (q_pss_one q_ps_break) q_pss_nil))))
      (q_pss_one (q_ps_ret (q_vv 2)))))),?_⟩
    refine ⟨sz rfl,fun q H1 g1=>?_⟩
    refine ⟨x,_,dx,_,_,rfl,g1.sm _ _ hx,T.cls_Reader,T.na_Reader_ended,rfl,?_⟩
    exact k q H1 g1
theorem same_make {H:Hp} {x dx C:Addr} (hx:H x=none) (hdx:H dx=none):Same H (upd (upd H dx (.own x)) x (.ins C dx [])):=fun b ob q=>by rw [upd_ne (ne_of_none q hx),upd_ne (ne_of_none q hdx)]; exact q
def spEn (t:Adr):Sp:=fun vs H Q _=>∃ (x dx o b mt:Addr) (pl g c:Int) (e:Bool),vs=[.ref x]/\H x=some (RdO t dx o b mt pl g c e)/\H b=some (.lst [])/\∀ p H',H p=none->Kp x H H'->H' x=some (RdO t dx o b mt pl g c true)->H' p=some (.lst [])->Q (.ref p) H'
theorem h_Reader_end (T:Txt w K mg t):HasM P w K mg base t.c_Reader "end" 3 t.a_Reader_end t.f_Reader_end ["self"] (spEn t):=by
  refine ⟨T.cls_Reader,T.mt_Reader_end,T.b_Reader_end,T.F_Reader_end.okQ sc_Reader_end (fun vs H Q E h=>by obtain ⟨x,dx,o,b,mt,pl,g,c,e,rfl,_⟩:=h; rfl) fun cdv A outer s H vs Q E hr h=>?_⟩
  obtain ⟨x,dx,o,b,mt,pl,g,c,e,rfl,hx,hb,k⟩:=h
  have hu:=hr.units
  refine ⟨_,(q_pss_cons (q_ps_if (q_mt_truK (K:=K) rfl (q_fldK (K:=K) rfl (q_vv 0))) (q_pss_one (q_ps_ret (q_me_lst q_pa_nil))) q_pss_nil)
      (q_pss_cons (q_ps_set (i:=1) sc_Reader_end.nd rfl (by first | exact Or.inl rfl | exact Or.inr rfl) (q_pe_ifExp (q_mt_truK (K:=K) rfl (q_fldK (K:=K) rfl (q_vv 0))) (q_meth (h_Reader_meet T) hr (q_vv 0) (q_pa_c (q_calB (c_lenK (K:=K) rfl) T.n_len PySem.boot_len (q_pa_c (q_fldK (K:=K) rfl (q_vv 0)) q_pa_nil)) (q_pa_c q_pe_str q_pa_nil))) (q_me_lst q_pa_nil)))
      (q_pss_cons (q_ps_fldK (K:=K) rfl (q_vv 0) q_pe_bl)
      (q_pss_one (q_ps_ret (q_vv 1)))))),?_⟩
  refine ⟨x,_,dx,_,_,rfl,hx,T.cls_Reader,T.na_Reader_ended,rfl,?_⟩
  cases e with
  | true=>exact ⟨sz rfl,fun p H1 g1=>k p H1 g1.nw (Kp.of g1.sm) (g1.sm _ _ hx) g1.at_⟩
  | false =>
    refine ⟨x,_,dx,_,_,rfl,hx,T.cls_Reader,T.na_Reader_begun,rfl,_,.inl (.of hb),?_⟩
    refine ⟨sz rfl,fun p H1 g1=>?_⟩
    refine ⟨x,_,dx,_,rfl,g1.sm _ _ hx,T.cls_Reader,T.na_Reader_ended,Nat.lt_of_lt_of_le (Nat.lt_succ_self 7) (by decide),?_⟩
    exact k p _ g1.nw ((Kp.of g1.sm).trans Kp.upd) (by rw [upd_same]; rfl) (by rw [upd_ne (ne_of_none hx g1.nw).symm]; exact g1.at_)
def spFs (t:Adr):Sp:=fun vs H Q _=>∃ (x dx o b mt:Addr) (pl g c:Int) (e:Bool),vs=[.ref x]/\H x=some (RdO t dx o b mt pl g c e)/\H mt=some (.lst [])/\∀ p H',Gro H p (.lst []) H'->Q (.ref p) H'
theorem h_Reader_faults (T:Txt w K mg t):HasM P w K mg base t.c_Reader "faults" 1 t.a_Reader_faults t.f_Reader_faults ["self"] (spFs t):=by
  refine ⟨T.cls_Reader,T.mt_Reader_faults,T.b_Reader_faults,T.F_Reader_faults.okQ sc_Reader_faults (fun vs H Q E h=>by obtain ⟨x,dx,o,b,mt,pl,g,c,e,rfl,_⟩:=h; rfl) fun cdv A outer s H vs Q E hr h=>?_⟩
  obtain ⟨x,dx,o,b,mt,pl,g,c,e,rfl,hx,hm,k⟩:=h
  refine ⟨_,(q_pss_one (q_ps_ret (q_calTy (c_listK (K:=K) rfl) T.n_list PyProof.Rows.boot_list (q_pa_c (q_fldK (K:=K) rfl (q_vv 0)) q_pa_nil)))),?_⟩
  refine ⟨x,_,dx,_,_,rfl,hx,T.cls_Reader,T.na_Reader_met,rfl,?_⟩
  exact ⟨_,.inl (.of hm),k⟩
def spPg (t:Adr):Sp:=fun vs H Q _=>∃ (x dx o b mt:Addr) (pl g c:Int) (e:Bool),vs=[.ref x]/\H x=some (RdO t dx o b mt pl g c e)/\Q (.int g) H
theorem h_Reader_page (T:Txt w K mg t):HasM P w K mg base t.c_Reader "page" 1 t.a_Reader_page t.f_Reader_page ["self"] (spPg t):=by
  refine ⟨T.cls_Reader,T.mt_Reader_page,T.b_Reader_page,T.F_Reader_page.okQ sc_Reader_page (fun vs H Q E h=>by obtain ⟨x,dx,o,b,mt,pl,g,c,e,rfl,_⟩:=h; rfl) fun cdv A outer s H vs Q E hr h=>?_⟩
  obtain ⟨x,dx,o,b,mt,pl,g,c,e,rfl,hx,k⟩:=h
  exact ⟨_,(q_pss_one (q_ps_ret (q_fldK (K:=K) rfl (q_vv 0)))),x,_,dx,_,_,rfl,hx,T.cls_Reader,T.na_Reader_at_page,rfl,k⟩
def spHd (t:Adr):Sp:=fun vs H Q _=>∃ (x dx o b mt:Addr) (pl g c:Int) (e:Bool) (xs:List V),vs=[.ref x]/\H x=some (RdO t dx o b mt pl g c e)/\H b=some (.lst xs)/\Q (.int (xs.length:Int)) H
theorem h_Reader_held (T:Txt w K mg t):HasM P w K mg base t.c_Reader "held" 1 t.a_Reader_held t.f_Reader_held ["self"] (spHd t):=by
  refine ⟨T.cls_Reader,T.mt_Reader_held,T.b_Reader_held,T.F_Reader_held.okQ sc_Reader_held (fun vs H Q E h=>by obtain ⟨x,dx,o,b,mt,pl,g,c,e,xs,rfl,_⟩:=h; rfl) fun cdv A outer s H vs Q E hr h=>?_⟩
  obtain ⟨x,dx,o,b,mt,pl,g,c,e,xs,rfl,hx,hb,k⟩:=h
  exact ⟨_,(q_pss_one (q_ps_ret (q_calB (c_lenK (K:=K) rfl) T.n_len PySem.boot_len (q_pa_c (q_fldK (K:=K) rfl (q_vv 0)) q_pa_nil)))),x,_,dx,_,_,rfl,hx,T.cls_Reader,T.na_Reader_begun,rfl,_,.inl (.of hb),k⟩
def spTa (t:Adr):Sp:=fun vs H Q _=>∃ (x dx o b mt:Addr) (pl g c:Int) (e:Bool),vs=[.ref x]/\H x=some (RdO t dx o b mt pl g c e)/\Q (.int c) H
theorem h_Reader_taken (T:Txt w K mg t):HasM P w K mg base t.c_Reader "taken" 1 t.a_Reader_taken t.f_Reader_taken ["self"] (spTa t):=by
  refine ⟨T.cls_Reader,T.mt_Reader_taken,T.b_Reader_taken,T.F_Reader_taken.okQ sc_Reader_taken (fun vs H Q E h=>by obtain ⟨x,dx,o,b,mt,pl,g,c,e,rfl,_⟩:=h; rfl) fun cdv A outer s H vs Q E hr h=>?_⟩
  obtain ⟨x,dx,o,b,mt,pl,g,c,e,rfl,hx,k⟩:=h
  exact ⟨_,(q_pss_one (q_ps_ret (q_fldK (K:=K) rfl (q_vv 0)))),x,_,dx,_,_,rfl,hx,T.cls_Reader,T.na_Reader_many,rfl,k⟩
def spOv (t:Adr):Sp:=fun vs H Q _=>∃ (x dx o b mt:Addr) (pl g c:Int) (e:Bool),vs=[.ref x]/\H x=some (RdO t dx o b mt pl g c e)/\Q (.bl e) H
theorem h_Reader_over (T:Txt w K mg t):HasM P w K mg base t.c_Reader "over" 1 t.a_Reader_over t.f_Reader_over ["self"] (spOv t):=by
  refine ⟨T.cls_Reader,T.mt_Reader_over,T.b_Reader_over,T.F_Reader_over.okQ sc_Reader_over (fun vs H Q E h=>by obtain ⟨x,dx,o,b,mt,pl,g,c,e,rfl,_⟩:=h; rfl) fun cdv A outer s H vs Q E hr h=>?_⟩
  obtain ⟨x,dx,o,b,mt,pl,g,c,e,rfl,hx,k⟩:=h
  exact ⟨_,(q_pss_one (q_ps_ret (q_fldK (K:=K) rfl (q_vv 0)))),x,_,dx,_,_,rfl,hx,T.cls_Reader,T.na_Reader_ended,rfl,k⟩
def spDrawn (K:PySem.W.Frag):Sp:=fun vs H Q _=>∃ (a:Addr) (ns:List Int) (k:Nat),vs=[.ref a,.int (k:Int)]/\SqL K H a (ns.map V.int)/\∀ c H',Same H H'->Q (.int c) H'
theorem h_z_drawn (T:Txt w K mg t):Has P w K mg base "_law_drawn" 1 t.a_z_drawn t.f_z_drawn ["_law_script", "_law_at"] (spDrawn K):=by
  refine ⟨T.g_z_drawn,T.F_z_drawn.kp,T.b_z_drawn,T.F_z_drawn.okQ sc_z_drawn (fun vs H Q E h=>by obtain ⟨a,ns,i,rfl,_⟩:=h; rfl) fun cdv A outer s H vs Q E hr h=>?_⟩
  obtain ⟨a,ns,i,rfl,h1,k⟩:=h
  refine ⟨_,(q_pss_one (q_ps_ret (q_calB (c_sumK (K:=K) rfl rfl) T.n_sum PyProof.Rows.boot_sum (q_pa_c (q_pe_slice (g_slK (K:=K) rfl) (q_vv 0) (q_po_some (q_vv 1)) (q_po_some (q_pe_op (g_addK (K:=K) rfl) (q_vv 1) q_pe_int))) q_pa_nil)))),?_⟩
  refine ⟨_,rfl,_,rfl,_,h1,fun p1 H1 g1=>?_⟩
  rw [cutV_ints] at g1
  exact ⟨_,g1.lst,k _ _ g1.sm⟩
theorem h_z_is_number (T:Txt w K mg t):Has P w K mg base "_law_is_number" 1 t.a_z_is_number t.f_z_is_number ["_law_found"] (fun vs H Q _=>∃ i,vs=[.int i]/\Q (.bl true) H):=by
  refine ⟨T.g_z_is_number,T.F_z_is_number.kp,T.b_z_is_number,T.F_z_is_number.okQ sc_z_is_number (fun vs H Q E h=>by obtain ⟨i,rfl,_⟩:=h; rfl) fun cdv A outer s H vs Q E hr h=>?_⟩
  obtain ⟨i,rfl,k⟩:=h
  refine ⟨_,(q_pss_one (q_ps_ret (q_me_and (q_me_not (q_calB (c_instK (K:=K) rfl) T.n_isinstance PyProof.Rows.boot_isinstance (q_pa_c (q_vv 0) (q_pa_c (q_bty rfl T.n_bool PyProof.Rows.boot_bool) q_pa_nil)))) (q_pe_one (q_calB (c_instK (K:=K) rfl) T.n_isinstance PyProof.Rows.boot_isinstance (q_pa_c (q_vv 0) (q_pa_c (q_bty rfl T.n_int PyProof.Rows.boot_int) q_pa_nil))))))),?_⟩
  obtain ⟨ty,hty,e0⟩:=(Knd.int (K:=K) (H:=H) i).isBl
  refine ⟨ty,_,hty,e0,?_⟩
  refine iteT ?_
  obtain ⟨ty,hty,e0⟩:=(Knd.int (K:=K) (H:=H) i).isInt
  exact ⟨ty,_,hty,e0,k⟩
def spMix:Sp:=fun vs H Q _=>∃ (n k:Int),vs=[.int n,.int k]/\0<=k/\k<=1000000/\∀ m,0<=m->m < 2147483629->Q (.int m) H
theorem h_z_mixed (T:Txt w K mg t):Has P w K mg base "_law_mixed" 1 t.a_z_mixed t.f_z_mixed ["_law_number", "_law_k"] spMix:=by
  refine ⟨T.g_z_mixed,T.F_z_mixed.kp,T.b_z_mixed,T.F_z_mixed.okQ sc_z_mixed (fun vs H Q E h=>by obtain ⟨n,k,rfl,_⟩:=h; rfl) fun cdv A outer s H vs Q E hr h=>?_⟩
  obtain ⟨n,k,rfl,k0,k1,kq⟩:=h
  have two64:(2:Int) ^ 64=18446744073709551616:=by decide
  refine ⟨_,(q_pss_cons (q_ps_set (i:=0) sc_z_mixed.nd rfl (by first | exact Or.inl rfl | exact Or.inr rfl) (q_me_md (q_pe_op (g_addK (K:=K) rfl) (q_pe_op (g_addK (K:=K) rfl) (q_vv 0) (q_pe_op g_mul (q_pe_op g_mul q_pe_int (q_vv 1)) (q_vv 1))) q_pe_int)))
      (q_pss_one (q_ps_ret (q_me_md (q_pe_op (g_addK (K:=K) rfl) (q_pe_op (g_addK (K:=K) rfl) (q_pe_op g_mul (q_vv 0) (q_vv 0)) (q_pe_op g_mul q_pe_int (q_vv 0))) (q_vv 1)))))),?_⟩
  refine ⟨Or.inl ⟨by decide,by decide⟩,?_⟩
  refine ⟨Or.inr ⟨by omega,by omega⟩,?_⟩
  refine ⟨Or.inl ⟨by omega,by omega⟩,?_⟩
  refine ⟨Or.inl ⟨by decide,by decide⟩,?_⟩
  exact kq _ (by omega) (by omega)
def gapF (n:Int):Int:=if (if n%1111808>=55296 then n%1111808+2048 else n%1111808)>=61184 then (if n%1111808>=55296 then n%1111808+2048 else n%1111808)+256 else (if n%1111808>=55296 then n%1111808+2048 else n%1111808)
theorem gap_sg (n:Int):Sg (gapF n):=by
  unfold gapF Sg
  (repeat' split) <;> omega
theorem gap_inj {a b:Int} (h:gapF a=gapF b):a%1111808=b%1111808:=by
  unfold gapF at h
  revert h
  (repeat' split) <;> omega
theorem h_z_gapped (T:Txt w K mg t):Has P w K mg base "_law_gapped" 1 t.a_z_gapped t.f_z_gapped ["_law_number"] (fun vs H Q _=>∃ n,vs=[.int n]/\Q (.int (gapF n)) H):=by
  refine ⟨T.g_z_gapped,T.F_z_gapped.kp,T.b_z_gapped,T.F_z_gapped.okQ sc_z_gapped (fun vs H Q E h=>by obtain ⟨n,rfl,_⟩:=h; rfl) fun cdv A outer s H vs Q E hr h=>?_⟩
  obtain ⟨n,rfl,k⟩:=h
  refine ⟨_,(q_pss_cons (q_ps_set (i:=1) sc_z_gapped.nd rfl (by first | exact Or.inl rfl | exact Or.inr rfl) (q_me_md (q_vv 0)))
      (q_pss_cons (q_ps_if (q_mt_cmp g_ge (q_vv 1) q_pe_int (nomark _)) (q_pss_one (q_ps_set (i:=1) sc_z_gapped.nd rfl (by first | exact Or.inl rfl | exact Or.inr rfl) (q_pe_op (g_addK (K:=K) rfl) (q_vv 1) q_pe_int))) q_pss_nil)
      (q_pss_cons (q_ps_if (q_mt_cmp g_ge (q_vv 1) q_pe_int (nomark _)) (q_pss_one (q_ps_set (i:=1) sc_z_gapped.nd rfl (by first | exact Or.inl rfl | exact Or.inr rfl) (q_pe_op (g_addK (K:=K) rfl) (q_vv 1) q_pe_int))) q_pss_nil)
      (q_pss_one (q_ps_ret (q_vv 1)))))),?_⟩
  unfold gapF at k
  refine ite2 (fun z=>?_) (fun z=>?_)
  · have z:n%1111808>=55296:=of_decide_eq_true z
    rw [if_pos z] at k
    refine ite2 (fun y=>?_) (fun y=>?_)
    · rw [if_pos (of_decide_eq_true y)] at k; exact k
    · rw [if_neg (fun x=>y (decide_eq_true x))] at k; exact k
  · have z : ¬ n%1111808>=55296:=fun y=>z (decide_eq_true y)
    rw [if_neg z] at k
    refine ite2 (fun y=>?_) (fun y=>?_)
    · rw [if_pos (of_decide_eq_true y)] at k; exact k
    · rw [if_neg (fun x=>y (decide_eq_true x))] at k; exact k
def spSign:Sp:=fun vs H Q _=>∃ c,vs=[.int c]/\∀ n H',Same H H'->Sg n->Q (.int n) H'
theorem sg_some : ∀ n∈([0,10,127,128,2047,2048,55295,57344,61183,61440,65279,65535,65536,1048575,1114111]:List Int),Sg n:=by unfold Sg; decide
theorem h_z_as_sign (T:Txt w K mg t):Has P w K mg base "_law_as_sign" 2 t.a_z_as_sign t.f_z_as_sign ["_law_number"] spSign:=by
  refine ⟨T.g_z_as_sign,T.F_z_as_sign.kp,T.b_z_as_sign,T.F_z_as_sign.okQ sc_z_as_sign (fun vs H Q E h=>by obtain ⟨c,rfl,_⟩:=h; rfl) fun cdv A outer s H vs Q E hr h=>?_⟩
  obtain ⟨c,rfl,k⟩:=h
  have hu:=hr.units
  refine ⟨_,(q_pss_cons (q_ps_set (i:=1) sc_z_as_sign.nd rfl (by first | exact Or.inl rfl | exact Or.inr rfl) (q_me_lst (q_pa_const rfl)))
      (q_pss_cons (q_ps_if (q_mt_cmp (g_eqK (K:=K) rfl hu) (q_me_md (q_vv 0)) q_pe_int (nomark _)) (q_pss_one (q_ps_ret (q_pe_ix (g_ixK (K:=K) rfl) (q_vv 1) (q_me_md (q_me_fd (q_vv 0))) (fun _ _=>rfl)))) q_pss_nil)
      (q_pss_cons (q_ps_if (q_mt_cmp (g_eqK (K:=K) rfl hu) (q_me_md (q_vv 0)) q_pe_int (nomark _)) (q_pss_one (q_ps_ret (q_me_md (q_me_fd (q_vv 0))))) q_pss_nil)
      (q_pss_one (q_ps_ret (q_cal (h_z_gapped T) hr (q_pa_c (q_me_fd (q_vv 0)) q_pa_nil))))))),?_⟩
  refine ⟨sz rfl,fun p1 H1 g1=>?_⟩
  refine ite2 (fun _=>?_) (fun _=>?_)
  · obtain ⟨v,hv,e1,_⟩:=atI_in (xs:=(([0,10,127,128,2047,2048,55295,57344,61183,61440,65279,65535,65536,1048575,1114111]:List Int).map V.int)) (i:=c / 4%15) (by omega) (by simp; omega)
    obtain ⟨n,hn,rfl⟩:=List.mem_map.mp hv
    exact ⟨_,_,.inl g1.lst,e1,k _ _ g1.sm (sg_some n hn)⟩
  refine ite2 (fun _=>?_) (fun _=>?_)
  · exact k _ _ g1.sm (by unfold Sg; omega)
  · exact ⟨_,rfl,k _ _ g1.sm (gap_sg _)⟩
theorem rng_okp {f:Nat->Int} {n:Nat} (hn:n<=250) (hs : ∀ k,k < n->Sg (f k)) (inj : ∀ i j,i < n->j < n->f i=f j->i=j):Okp ((List.range n).map f):=by
  refine ⟨fun m hm=>?_,?_,by rw [List.length_map,List.length_range]; exact hn⟩
  · obtain ⟨k,hk,rfl⟩:=List.mem_map.mp hm
    exact hs k (List.mem_range.mp hk)
  · refine List.pairwise_map.mpr ?_
    exact List.nodup_range.imp_of_mem fun {i j} hi hj ne e=>ne (inj i j (List.mem_range.mp hi) (List.mem_range.mp hj) e)
theorem Okp.rev {ns:List Int} (h:Okp ns):Okp ns.reverse:=⟨fun n hn=>h.1 n (List.mem_reverse.mp hn),List.pairwise_reverse.mpr (h.2.1.imp fun h=>Ne.symm h),by rw [List.length_reverse]; exact h.2.2⟩
def spLs:Sp:=fun vs H Q _=>∃ (c:Int),vs=[.int c]/\∀ (p q r:Addr) (ns ms:List Int) H',Same H H'->H' p=some (.tup [.ref q,.ref r])->H' q=some (.lst (ns.map V.int))->H' r=some (.lst (ms.map V.int))->Okp ns->Okp ms->Q (.ref p) H'
theorem h_z_lists (T:Txt w K mg t):Has P w K mg base "_law_lists" 2 t.a_z_lists t.f_z_lists ["_law_number"] spLs:=by
  refine ⟨T.g_z_lists,T.F_z_lists.kp,T.b_z_lists,T.F_z_lists.okQ sc_z_lists (fun vs H Q E h=>by obtain ⟨c,rfl,_⟩:=h; rfl) fun cdv A outer s H vs Q E hr h=>?_⟩
  obtain ⟨c,rfl,k⟩:=h
  have hu:=hr.units
  have two64:(2:Int) ^ 64=18446744073709551616:=by decide
  refine ⟨_,(q_pss_cons (q_ps_set (i:=1) sc_z_lists.nd rfl (by first | exact Or.inl rfl | exact Or.inr rfl) (q_me_lst (q_pa_c (q_me_md (q_me_fd (q_vv 0))) (q_pa_c (q_me_md (q_me_fd (q_vv 0))) q_pa_nil))))
      (q_pss_cons (q_ps_if (q_mt_cmp (g_eqK (K:=K) rfl hu) (q_me_md (q_vv 0)) q_pe_int (nomark _)) (q_pss_one (q_ps_set (i:=1) sc_z_lists.nd rfl (by first | exact Or.inl rfl | exact Or.inr rfl) (q_me_lst (q_pa_c (q_pe_op (g_addK (K:=K) rfl) q_pe_int (q_me_md (q_me_fd (q_vv 0)))) (q_pa_c (q_me_md (q_me_fd (q_vv 0))) q_pa_nil))))) q_pss_nil)
      (q_pss_cons (q_ps_set (i:=2) sc_z_lists.nd rfl (by first | exact Or.inl rfl | exact Or.inr rfl) (q_me_md (q_me_fd (q_vv 0))))
      (q_pss_cons (q_ps_setC (i:=3) sc_z_lists.nd rfl (by first | exact Or.inl rfl | exact Or.inr rfl) rfl (CompScope.of (fns:=(defScope s_z_lists).names) (N:=["_law_number", "_law_sizes", "_law_base", "_law_first", "_law_second"]) (Nc:=["_law_k", "_law_base"]) (nv:=1) (caps:=[2]) rfl rfl (by decide +kernel)) (q_pi_range1 rfl T.n_range (q_pa_c (q_pe_ix (g_ixK (K:=K) rfl) (q_vv 1) q_pe_int (fun _ _=>rfl)) q_pa_nil)) (fun _ _ _ _=>(q_pg_name (i:=0) (show List.Nodup (["_law_k", "_law_base"]:List Str) by decide +kernel) rfl (Or.inl rfl) (Or.inr rfl))) (fun _ _ _ _=>q_pts_nil) (fun _ _ _ _=>(q_cal (h_z_gapped T) hr (q_pa_c (q_pe_op g_mul q_pe_int (q_pe_op (g_addK (K:=K) rfl) (q_vv 1) (q_pe_op g_mul q_pe_int (q_vv 0)))) q_pa_nil))))
      (q_pss_cons (q_ps_setC (i:=4) sc_z_lists.nd rfl (by first | exact Or.inl rfl | exact Or.inr rfl) rfl (CompScope.of (fns:=(defScope s_z_lists).names) (N:=["_law_number", "_law_sizes", "_law_base", "_law_first", "_law_second"]) (Nc:=["_law_k", "_law_base"]) (nv:=1) (caps:=[2]) rfl rfl (by decide +kernel)) (q_pi_range1 rfl T.n_range (q_pa_c (q_pe_ix (g_ixK (K:=K) rfl) (q_vv 1) q_pe_int (fun _ _=>rfl)) q_pa_nil)) (fun _ _ _ _=>(q_pg_name (i:=0) (show List.Nodup (["_law_k", "_law_base"]:List Str) by decide +kernel) rfl (Or.inl rfl) (Or.inr rfl))) (fun _ _ _ _=>q_pts_nil) (fun _ _ _ _=>(q_cal (h_z_gapped T) hr (q_pa_c (q_pe_op g_mul q_pe_int (q_pe_op (g_addK (K:=K) rfl) (q_vv 1) (q_pe_op g_mul q_pe_int (q_vv 0)))) q_pa_nil))))
      (q_pss_cons (q_ps_if (q_mt_cmp g_gt (q_me_md (q_vv 0)) q_pe_int (nomark _)) (q_pss_one (q_ps_expr (q_pe_bm0K (K:=K) rfl PySem.F.plainAttrs_list PySem.F.slot_list_reverse PySem.F.type_list_reverse mt_reverse (q_vv 4)))) q_pss_nil)
      (q_pss_one (q_ps_ret (q_me_tup (q_pa_c (q_vv 3) (q_pa_c (q_vv 4) q_pa_nil))))))))))),?_⟩
  refine ⟨sz rfl,fun p1 H1 g1=>?_⟩
  dsimp only [gName]
  refine seq_nx (fun σ' H'=>Same H H'/\∃ (ps:Addr) (x y:Int),H' ps=some (.lst [.int x,.int y])/\0<=x/\x<=250/\0<=y/\y<=250/\σ'=[some (.int c),some (.ref ps),none,none,none]) (fun nx hn=>?_) ?_
  · refine ite2 (fun _=>?_) (fun _=>?_)
    · refine ⟨sz rfl,fun p2 H2 g2=>?_⟩
      exact hn _ _ ⟨g1.sm.trans g2.sm,p2,_,_,g2.at_,by omega,by omega,by omega,by omega,rfl⟩
    · exact hn _ _ ⟨g1.sm,p1,_,_,g1.at_,by omega,by omega,by omega,by omega,rfl⟩
  rintro σ' H2 ⟨s2,ps,x,y,hps,x0,x1,y0,y1,rfl⟩
  obtain ⟨b,eb⟩ : ∃ b,b=c / 1000%1111:=⟨_,rfl⟩
  refine ⟨_,.int x,.inl (.of hps),atI_nat (j:=0) rfl,?_⟩
  refine ⟨x,rfl,by omega,by omega,?_⟩
  refine comp_toR (lo:=0) (n:=x.toNat) (((List.range x.toNat).map fun k:Nat=>gapF (4999*(c / 1000%1111+3*(0+(k:Int))))).map V.int) (by rw [List.length_map,List.length_map,List.length_range]) (szl (by omega)) (fun j v H5 N hj hv s5 hN=>?_) fun q0 H3 g3=>?_
  · rw [List.getElem?_map,List.getElem?_map,List.getElem?_range hj] at hv
    cases hv
    refine ⟨Or.inl ⟨by decide,by decide⟩,?_⟩
    refine ⟨Or.inl ⟨by decide,by decide⟩,?_⟩
    exact ⟨_,rfl,hN _ (Same.refl _)⟩
  have ok0:Okp ((List.range x.toNat).map fun k:Nat=>gapF (4999*(c / 1000%1111+3*(0+(k:Int))))):=rng_okp (by omega) (fun k _=>gap_sg _) fun i j hi hj e=>by have:=gap_inj e; omega
  refine ⟨_,.int y,.inl (.of (g3.sm _ _ hps)),atI_nat (j:=1) rfl,?_⟩
  refine ⟨y,rfl,by omega,by omega,?_⟩
  refine comp_toR (lo:=0) (n:=y.toNat) (((List.range y.toNat).map fun k:Nat=>gapF (4999*(c / 1000%1111+5*(0+(k:Int))))).map V.int) (by rw [List.length_map,List.length_map,List.length_range]) (szl (by omega)) (fun j v H5 N hj hv s5 hN=>?_) fun q1 H4 g4=>?_
  · rw [List.getElem?_map,List.getElem?_map,List.getElem?_range hj] at hv
    cases hv
    refine ⟨Or.inl ⟨by decide,by decide⟩,?_⟩
    refine ⟨Or.inl ⟨by decide,by decide⟩,?_⟩
    exact ⟨_,rfl,hN _ (Same.refl _)⟩
  have ok1:Okp ((List.range y.toNat).map fun k:Nat=>gapF (4999*(c / 1000%1111+5*(0+(k:Int))))):=rng_okp (by omega) (fun k _=>gap_sg _) fun i j hi hj e=>by have:=gap_inj e; omega
  have s24:=g3.sm.trans g4.sm
  have n10:q1≠q0:=(ne_of_none g3.at_ g4.nw).symm
  have f1:H q1=none:=s2.free (g3.sm.free g4.nw)
  dsimp only [gName]
  refine seq_nx (fun σ' H'=>Same H H'/\H' q0=some (.lst (((List.range x.toNat).map fun k:Nat=>gapF (4999*(c / 1000%1111+3*(0+(k:Int))))).map V.int))/\(∃ ms,H' q1=some (.lst (ms.map V.int))/\Okp ms)/\σ'=[some (.int c),some (.ref ps),some (.int (c / 1000%1111)),some (.ref q0),some (.ref q1)]) (fun nx hn=>?_) ?_
  · refine ite2 (fun _=>?_) (fun _=>?_)
    · refine ⟨.inl ⟨rfl,_,.of g4.at_⟩,?_⟩
      refine ⟨q1,_,rfl,rfl,g4.at_,?_⟩
      exact hn _ _ ⟨(s2.trans s24).put f1,by rw [upd_ne n10.symm]; exact g4.sm _ _ g3.at_,⟨_,by rw [upd_same,List.map_reverse],ok1.rev⟩,rfl⟩
    · exact hn _ _ ⟨s2.trans s24,g4.sm _ _ g3.at_,⟨_,g4.at_,ok1⟩,rfl⟩
  · rintro σ' H5 ⟨s5,h0,⟨ms,hm,okm⟩,rfl⟩
    exact ⟨sz rfl,fun p6 H6 g6=>k p6 q0 q1 _ _ H6 (s5.trans g6.sm) g6.at_ (g6.sm _ _ h0) (g6.sm _ _ hm) ok0 okm⟩
theorem beg_ne {h h' a b:List Int} (l:h.length=h'.length) (n:h≠h'):begB (h++a) (h'++b)=false:=by
  unfold begB
  rw [decide_eq_false]
  intro z
  apply n
  have:=congrArg (List.take h.length) z
  rw [List.take_take,Nat.min_eq_left (by rw [List.length_append]; omega),List.take_append_of_le_length (by omega),List.take_append_of_le_length (by omega),List.take_length,l,List.take_length] at this
  exact this.symm
def hdT (n:Int) (k:Nat):List Int:=if n / 11%3 > 0 then [(n / 13+7*((0+(k:Int)) / 3))%256,(n / 4000+5*((0+(k:Int))%3))%256] else [(n / 13+7*(0+(k:Int)))%256]
theorem hd_len (n:Int) (i j:Nat):(hdT n i).length=(hdT n j).length:=by
  unfold hdT; split <;> rfl
theorem hd_le (n:Int) (i:Nat):1<=(hdT n i).length/\(hdT n i).length<=2:=by
  unfold hdT; split <;> simp
theorem hd_ne {n:Int} {i j:Nat} (hi:i < 13) (hj:j < 13) (h:i≠j):hdT n i≠hdT n j:=by
  unfold hdT
  split
  · intro z
    simp at z
    omega
  · intro z
    simp at z
    omega
theorem hd_by (n:Int) (i:Nat) : ∀ b∈hdT n i,0<=b/\b<=255:=by
  intro b hb
  unfold hdT at hb
  split at hb
  · simp at hb; omega
  · simp at hb; omega
def sgT (n:Int) (k:Nat):Int:=gapF (4999*(n / 13%999+(0+(k:Int))))
theorem sgT_ne {n:Int} {i j:Nat} (hi:i < 13) (hj:j < 13) (h:i≠j):sgT n i≠sgT n j:=fun z=>by
  have:=gap_inj z
  omega
def Drw (n:Int) (es:List (Int × List Int)):Prop:=∀ (j:Nat) e,es[j]? = some e->e.1=sgT n j/\∃ tl,e.2=hdT n j++tl/\tl.length<=4/\∀ b∈tl,0<=b/\b<=255
theorem drw_es {n:Int} {es:List (Int × List Int)} (h:Drw n es) (l:es.length<=13):Es es:=by
  refine ⟨fun e he=>?_,List.pairwise_iff_getElem.mpr fun i j hi hj hij=>?_,by omega⟩
  · obtain ⟨j,hj,rfl⟩:=List.mem_iff_getElem.mp he
    obtain ⟨e1,tl,e2,l4,hb⟩:=h j _ (List.getElem?_eq_getElem hj)
    have:=hd_le n j
    refine ⟨by rw [e1]; exact gap_sg _,by rw [e2,List.length_append]; omega,by rw [e2,List.length_append]; omega,fun b hb'=>?_⟩
    rw [e2] at hb'
    rcases List.mem_append.mp hb' with z | z
    · exact hd_by n j b z
    · exact hb b z
  · obtain ⟨a1,t1,a2,_⟩:=h i _ (List.getElem?_eq_getElem hi)
    obtain ⟨b1,t2,b2,_⟩:=h j _ (List.getElem?_eq_getElem hj)
    unfold colB
    rw [a1,a2,b1,b2,beg_ne (hd_len n i j) (hd_ne (by omega) (by omega) (by omega)),beg_ne (hd_len n j i) (hd_ne (by omega) (by omega) (by omega)),decide_eq_false (sgT_ne (by omega) (by omega) (by omega))]
    rfl
def RwH (H:Hp) (qs:List Addr) (es:List (Int × List Int)):Prop:=All2 (fun q e=>H q=some (.lst (e.2.map V.int))) qs es
theorem RwH.mono {H H':Hp} {qs:List Addr} {es:List (Int × List Int)} (h:RwH H qs es) (s:Same H H'):RwH H' qs es:=h.imp fun q e z=>s _ _ z
def spTbl:Sp:=fun vs H Q _=>∃ (c:Int),vs=[.int c]/\0<=c/\∀ (p a b:Addr) (qs:List Addr) (es:List (Int × List Int)) H',Same H H'->H' p=some (.tup [.ref a,.ref b])->H' a=some (.lst ((es.map fun e=>e.1).map V.int))->H' b=some (.lst (qs.map V.ref))->RwH H' qs es->Es es->Q (.ref p) H'
theorem h_z_table (T:Txt w K mg t):Has P w K mg base "_law_table" 2 t.a_z_table t.f_z_table ["_law_number"] spTbl:=by
  refine ⟨T.g_z_table,T.F_z_table.kp,T.b_z_table,T.F_z_table.okQ sc_z_table (fun vs H Q E h=>by obtain ⟨c,rfl,_⟩:=h; rfl) fun cdv A outer s H vs Q E hr h=>?_⟩
  obtain ⟨c,rfl,c0,k⟩:=h
  have hu:=hr.units
  have two64:(2:Int) ^ 64=18446744073709551616:=by decide
  refine ⟨_,(q_pss_cons (q_ps_set (i:=1) sc_z_table.nd rfl (by first | exact Or.inl rfl | exact Or.inr rfl) (q_me_lst q_pa_nil))
      (q_pss_cons (q_ps_set (i:=2) sc_z_table.nd rfl (by first | exact Or.inl rfl | exact Or.inr rfl) (q_me_lst q_pa_nil))
      (q_pss_cons (q_ps_for PassesOwn.never rfl (q_pi_range1 rfl T.n_range (q_pa_c (q_me_md (q_vv 0)) q_pa_nil)) (q_pg_name (i:=3) sc_z_table.nd rfl (by first | exact Or.inl rfl | exact Or.inr rfl)) (q_pss_cons (q_ps_set (i:=4) sc_z_table.nd rfl (by first | exact Or.inl rfl | exact Or.inr rfl) (q_cal (h_z_mixed T) hr (q_pa_c (q_vv 0) (q_pa_c (q_pe_op (g_addK (K:=K) rfl) (q_vv 3) q_pe_int) q_pa_nil))))
      (q_pss_cons (q_ps_set (i:=5) sc_z_table.nd rfl (by first | exact Or.inl rfl | exact Or.inr rfl) (q_me_lst (q_pa_c (q_me_md (q_pe_op (g_addK (K:=K) rfl) (q_me_fd (q_vv 0)) (q_pe_op g_mul q_pe_int (q_vv 3)))) q_pa_nil)))
      (q_pss_cons (q_ps_if (q_mt_cmp g_gt (q_me_md (q_me_fd (q_vv 0))) q_pe_int (nomark _)) (q_pss_one (q_ps_set (i:=5) sc_z_table.nd rfl (by first | exact Or.inl rfl | exact Or.inr rfl) (q_me_lst (q_pa_c (q_me_md (q_pe_op (g_addK (K:=K) rfl) (q_me_fd (q_vv 0)) (q_pe_op g_mul q_pe_int (q_me_fd (q_vv 3))))) (q_pa_c (q_me_md (q_pe_op (g_addK (K:=K) rfl) (q_me_fd (q_vv 0)) (q_pe_op g_mul q_pe_int (q_me_md (q_vv 3))))) q_pa_nil))))) q_pss_nil)
      (q_pss_cons (q_ps_set (i:=5) sc_z_table.nd rfl (by first | exact Or.inl rfl | exact Or.inr rfl) (q_pe_op (g_addK (K:=K) rfl) (q_vv 5) (q_pe_comp rfl (CompScope.of (fns:=(defScope s_z_table).names) (N:=["_law_number", "_law_signs", "_law_rows", "_law_k", "_law_far", "_law_row"]) (Nc:=["_law_j", "_law_far"]) (nv:=1) (caps:=[4]) rfl rfl (by decide +kernel)) (q_pi_range1 rfl T.n_range (q_pa_c (q_me_md (q_vv 4)) q_pa_nil)) (fun _ _ _ _=>(q_pg_name (i:=0) (show List.Nodup (["_law_j", "_law_far"]:List Str) by decide +kernel) rfl (Or.inl rfl) (Or.inr rfl))) (fun _ _ _ _=>q_pts_nil) (fun _ _ _ _=>(q_me_md (q_pe_op (g_addK (K:=K) rfl) (q_me_fd (q_vv 1)) (q_pe_op g_mul q_pe_int (q_vv 0))))))))
      (q_pss_cons (q_ps_expr (q_pe_bmK (K:=K) rfl PySem.F.plainAttrs_list PySem.F.slot_list_append PySem.F.type_list_append mg_append (q_vv 1) (q_pa_c (q_cal (h_z_gapped T) hr (q_pa_c (q_pe_op g_mul q_pe_int (q_pe_op (g_addK (K:=K) rfl) (q_me_md (q_me_fd (q_vv 0))) (q_vv 3))) q_pa_nil)) q_pa_nil)))
      (q_pss_one (q_ps_expr (q_pe_bmK (K:=K) rfl PySem.F.plainAttrs_list PySem.F.slot_list_append PySem.F.type_list_append mg_append (q_vv 2) (q_pa_c (q_vv 5) q_pa_nil))))))))))
      (q_pss_one (q_ps_ret (q_me_tup (q_pa_c (q_vv 1) (q_pa_c (q_vv 2) q_pa_nil)))))))),?_⟩
  refine ⟨sz rfl,fun pa H1 g1=>?_⟩
  refine ⟨sz rfl,fun pb H2 g2=>?_⟩
  have nab:pb≠pa:=(ne_of_none g1.at_ g2.nw).symm
  have fa:H pa=none:=g1.nw
  have fb:H pb=none:=g1.sm.free g2.nw
  refine ⟨c%13,rfl,by omega,by omega,?_⟩
  refine for_range (lo:=0) (n:=(c%13).toNat) (fun i σ H'=>Same H H'/\(∃ qs es,es.length=i/\Drw c es/\H' pa=some (.lst ((es.map fun e=>e.1).map V.int))/\H' pb=some (.lst (qs.map V.ref))/\RwH H' qs es/\∀ q∈qs,q≠pa/\q≠pb)/\∃ v3 v4 v5,σ=[some (.int c),some (.ref pa),some (.ref pb),v3,v4,v5])
    ⟨g1.sm.trans g2.sm,⟨[],[],rfl,(fun j e h=>by simp at h),g2.sm _ _ g1.at_,g2.at_,All2.nil,(fun q h=>nomatch h)⟩,_,_,_,rfl⟩ ?_ ?_
  · rintro i σ H3 hi ⟨s3,⟨qs,es,le,dr,ha,hb,rw3,nq⟩,v3,v4,v5,rfl⟩
    have hi13:i < 13:=by omega
    refine ⟨_,_,rfl,by omega,by omega,fun far f0 f1=>?_⟩
    refine ⟨Or.inl ⟨by decide,by decide⟩,?_⟩
    refine ⟨sz rfl,fun p4 H4 g4=>?_⟩
    dsimp only [gName]
    refine seq_nx (fun σ' H'=>Same H3 H'/\∃ p5,H' p5=some (.lst ((hdT c i).map V.int))/\σ'=[some (.int c),some (.ref pa),some (.ref pb),some (.int (0+(i:Int))),some (.int far),some (.ref p5)]) (fun nx hn=>?_) ?_
    · refine ite2 (fun z=>?_) (fun z=>?_)
      · have z:c / 11%3 > 0:=of_decide_eq_true z
        refine ⟨Or.inl ⟨by decide,by decide⟩,?_⟩
        refine ⟨Or.inl ⟨by decide,by decide⟩,?_⟩
        refine ⟨sz rfl,fun p5 H5 g5=>?_⟩
        exact hn _ _ ⟨g4.sm.trans g5.sm,p5,by unfold hdT; rw [if_pos z]; exact g5.at_,rfl⟩
      · have z : ¬ c / 11%3 > 0:=fun y=>z (decide_eq_true y)
        exact hn _ _ ⟨g4.sm,p4,by unfold hdT; rw [if_neg z]; exact g4.at_,rfl⟩
    rintro σ' H5 ⟨s5,p5,h5,rfl⟩
    refine ⟨far%5,rfl,by omega,by omega,?_⟩
    refine comp_toR (lo:=0) (n:=(far%5).toNat) (((List.range (far%5).toNat).map fun j:Nat=>(far / 16+3*(0+(j:Int)))%256).map V.int) (by rw [List.length_map,List.length_map,List.length_range]) (szl (by omega)) (fun j v H6 N hj hv s6 hN=>?_) fun p6 H6 g6=>?_
    · rw [List.getElem?_map,List.getElem?_map,List.getElem?_range hj] at hv
      cases hv
      refine ⟨Or.inl ⟨by decide,by decide⟩,?_⟩
      exact hN _ (Same.refl _)
    have hl:=hd_le c i
    refine ⟨_,_,.of (g6.sm _ _ h5),g6.lst,szl (by rw [List.length_map,List.length_map,List.length_map,List.length_range]; omega),fun p7 H7 g7=>?_⟩
    rw [<- List.map_append] at g7
    have s37:=s5.trans (g6.sm.trans g7.sm)
    have ha7:=s37 _ _ ha
    have hb7:=s37 _ _ hb
    have np7a:p7≠pa:=(ne_of_none (g6.sm _ _ (s5 _ _ ha)) g7.nw).symm
    have np7b:p7≠pb:=(ne_of_none (g6.sm _ _ (s5 _ _ hb)) g7.nw).symm
    refine ⟨.inl ⟨rfl,_,.of ha7⟩,?_⟩
    refine ⟨Or.inl ⟨by decide,by decide⟩,?_⟩
    refine ⟨_,rfl,?_⟩
    refine ⟨_,ha7,szlt (by rw [List.length_map,List.length_map]; omega),?_⟩
    have hb8:upd H7 pa (.lst ((es.map fun e=>e.1).map V.int++[.int (sgT c i)])) pb=some (.lst (qs.map V.ref)):=by rw [upd_ne nab]; exact hb7
    refine ⟨.inl ⟨rfl,_,.of hb8⟩,?_⟩
    have lq:qs.length=i:=by rw [<- le]; exact rw3.1
    refine ⟨_,hb8,szlt (by rw [List.length_map]; omega),?_⟩
    refine ⟨((s3.trans s37).put fa).put fb,⟨qs++[p7],es++[(sgT c i,hdT c i++(List.range (far%5).toNat).map fun j:Nat=>(far / 16+3*(0+(j:Int)))%256)],by rw [List.length_append,le]; rfl,fun j e he=>?_,?_,?_,All2.app ⟨rw3.1,fun j q e hq he=>?_⟩ (All2.cons ?_ All2.nil),fun q hq=>?_⟩,_,_,_,rfl⟩
    · by_cases cj:j < es.length
      · rw [List.getElem?_append_left cj] at he
        exact dr j e he
      · have ej:j=es.length:=by
          have:=(List.getElem?_eq_some_iff.mp he).1
          rw [List.length_append] at this
          simp at this
          omega
        rw [ej,List.getElem?_append_right (Nat.le_refl _),Nat.sub_self] at he
        cases he
        refine ⟨by rw [ej,le],_,by rw [ej,le],by rw [List.length_map,List.length_range]; omega,fun b hb=>?_⟩
        obtain ⟨x,_,rfl⟩:=List.mem_map.mp hb
        omega
    · rw [upd_ne nab.symm,upd_same,List.map_append,List.map_append]; rfl
    · rw [upd_same,List.map_append]; rfl
    · obtain ⟨n1,n2⟩:=nq q (List.mem_of_getElem? hq)
      rw [upd_ne n2,upd_ne n1]
      exact s37 _ _ (rw3.2 j q e hq he)
    · rw [upd_ne np7b,upd_ne np7a]
      exact g7.at_
    · rcases List.mem_append.mp hq with z | z
      · exact nq q z
      · rw [List.mem_singleton.mp z]; exact ⟨np7a,np7b⟩
  · rintro σ H3 ⟨s3,⟨qs,es,le,dr,ha,hb,rw3,nq⟩,v3,v4,v5,rfl⟩
    exact ⟨sz rfl,fun p4 H4 g4=>k p4 pa pb qs es H4 (s3.trans g4.sm) g4.at_ (g4.sm _ _ ha) (g4.sm _ _ hb) (rw3.mono g4.sm) (drw_es dr (by omega))⟩
theorem ok_lead:PyData.strOk "lead" = true:=by decide +kernel
theorem ok_high:PyData.strOk "high" = true:=by decide +kernel
theorem ok_low:PyData.strOk "low" = true:=by decide +kernel
theorem ok_shift:PyData.strOk "shift" = true:=by decide +kernel
theorem ok_table:PyData.strOk "table" = true:=by decide +kernel
theorem ok_bare:PyData.strOk "bare" = true:=by decide +kernel
theorem or2 {p q:Prop} [Decidable p] [Decidable q] {A B:Prop} (h1:p\/q->A) (h2 : ¬ p->¬ q->B):if decide p=true then (if true=true then A else B) else (if decide q=true then A else B):=by
  by_cases c:p
  · rw [if_pos (decide_eq_true c),if_pos rfl]; exact h1 (.inl c)
  · rw [if_neg (fun z=>c (of_decide_eq_true z))]
    by_cases c':q
    · rw [if_pos (decide_eq_true c')]; exact h1 (.inr c')
    · rw [if_neg (fun z=>c' (of_decide_eq_true z))]; exact h2 c c'
inductive Md where
  | ld
  | pr (h:Bool)
  | sh (ns ms:List Int)
  | tb (es:List (Int × List Int))
  | br
def wrd:Md->Str
  | .ld => "lead"
  | .pr h=>ordOf h
  | .sh _ _ => "shift"
  | .tb _ => "table"
  | .br => "bare"
def Cont (H:Hp) (a b:Addr):Md->Prop
  | .sh ns ms=>H a=some (.lst (ns.map V.int))/\H b=some (.lst (ms.map V.int))/\Okp ns/\Okp ms
  | .tb es=>H a=some (.lst ((es.map fun e=>e.1).map V.int))/\(∃ qs,H b=some (.lst (qs.map V.ref))/\RwH H qs es)/\Es es
  | _=>H a=some (.lst [])/\H b=some (.lst [])
theorem Cont.mono {H H':Hp} {a b:Addr} {M:Md} (h:Cont H a b M) (s:Same H H'):Cont H' a b M:=by
  cases M with
  | sh ns ms=>exact ⟨s _ _ h.1,s _ _ h.2.1,h.2.2⟩
  | tb es =>
    obtain ⟨h1,⟨qs,h2,h3⟩,h4⟩:=h
    exact ⟨s _ _ h1,⟨qs,s _ _ h2,h3.mono s⟩,h4⟩
  | ld=>exact ⟨s _ _ h.1,s _ _ h.2⟩
  | pr b=>exact ⟨s _ _ h.1,s _ _ h.2⟩
  | br=>exact ⟨s _ _ h.1,s _ _ h.2⟩
def Mod (H:Hp) (p:Addr) (M:Md):Prop:=∃ a b,H p=some (.tup [.str (wrd M),.ref a,.ref b])/\Cont H a b M
theorem Mod.mono {H H':Hp} {p:Addr} {M:Md} (h:Mod H p M) (s:Same H H'):Mod H' p M:=by
  obtain ⟨a,b,h1,h2⟩:=h
  exact ⟨a,b,s _ _ h1,h2.mono s⟩
def spMd:Sp:=fun vs H Q _=>∃ c:Int,vs=[.int c]/\∀ p M H',Same H H'->Mod H' p M->Q (.ref p) H'
theorem h_z_model (T:Txt w K mg t):Has P w K mg base "_law_model" 3 t.a_z_model t.f_z_model ["_law_cell"] spMd:=by
  refine ⟨T.g_z_model,T.F_z_model.kp,T.b_z_model,T.F_z_model.okQ sc_z_model (fun vs H Q E h=>by obtain ⟨c,rfl,_⟩:=h; rfl) fun cdv A outer s H vs Q E hr h=>?_⟩
  obtain ⟨c,rfl,k⟩:=h
  have hu:=hr.units
  refine ⟨_,(q_pss_cons (q_ps_set (i:=1) sc_z_model.nd rfl (by first | exact Or.inl rfl | exact Or.inr rfl) (q_cal (h_z_mixed T) hr (q_pa_c (q_me_fd (q_vv 0)) (q_pa_c q_pe_int q_pa_nil))))
      (q_pss_cons (q_ps_if (q_PW_pt (q_pw_or (q_mt_cmp (g_eqK (K:=K) rfl hu) (q_me_md (q_vv 0)) q_pe_int (nomark _)) (q_pw_or1 (q_mt_cmp (g_eqK (K:=K) rfl hu) (q_me_md (q_vv 0)) q_pe_int (nomark _))))) (q_pss_cons (q_ps_asg (q_cal (h_z_lists T) hr (q_pa_c (q_vv 1) q_pa_nil)) (q_pg_tupK (K:=K) rfl rfl (q_pgs_cons (q_pg_name (i:=2) sc_z_model.nd rfl (by first | exact Or.inl rfl | exact Or.inr rfl)) (q_pgs_cons (q_pg_name (i:=3) sc_z_model.nd rfl (by first | exact Or.inl rfl | exact Or.inr rfl)) q_pgs_nil))))
      (q_pss_one (q_ps_ret (q_me_tup (q_pa_c q_pe_str (q_pa_c (q_vv 2) (q_pa_c (q_vv 3) q_pa_nil))))))) q_pss_nil)
      (q_pss_cons (q_ps_if (q_PW_pt (q_pw_or (q_mt_cmp (g_eqK (K:=K) rfl hu) (q_me_md (q_vv 0)) q_pe_int (nomark _)) (q_pw_or1 (q_mt_cmp (g_eqK (K:=K) rfl hu) (q_me_md (q_vv 0)) q_pe_int (nomark _))))) (q_pss_cons (q_ps_asg (q_cal (h_z_table T) hr (q_pa_c (q_vv 1) q_pa_nil)) (q_pg_tupK (K:=K) rfl rfl (q_pgs_cons (q_pg_name (i:=4) sc_z_model.nd rfl (by first | exact Or.inl rfl | exact Or.inr rfl)) (q_pgs_cons (q_pg_name (i:=5) sc_z_model.nd rfl (by first | exact Or.inl rfl | exact Or.inr rfl)) q_pgs_nil))))
      (q_pss_one (q_ps_ret (q_me_tup (q_pa_c q_pe_str (q_pa_c (q_vv 4) (q_pa_c (q_vv 5) q_pa_nil))))))) q_pss_nil)
      (q_pss_cons (q_ps_if (q_PW_pt (q_pw_and (q_mt_cmp (g_eqK (K:=K) rfl hu) (q_me_md (q_vv 0)) q_pe_int (nomark _)) (q_pw_and1 (q_mt_cmp (g_eqK (K:=K) rfl hu) (q_me_md (q_vv 1)) q_pe_int (nomark _))))) (q_pss_one (q_ps_ret (q_me_tup (q_pa_c q_pe_str (q_pa_c (q_me_lst q_pa_nil) (q_pa_c (q_me_lst q_pa_nil) q_pa_nil)))))) q_pss_nil)
      (q_pss_one (q_ps_ret (q_me_tup (q_pa_c (q_pe_ix (g_ixK (K:=K) rfl) (q_me_lst (q_pa_const rfl)) (q_me_md (q_me_md (q_vv 0))) (fun _ _=>rfl)) (q_pa_c (q_me_lst q_pa_nil) (q_pa_c (q_me_lst q_pa_nil) q_pa_nil)))))))))),?_⟩
  refine ⟨_,_,rfl,by decide,by decide,fun n n0 n1=>?_⟩
  refine or2 (p:=c%8=3) (q:=c%8=4) (fun _=>?_) (fun _ _=>?_)
  · refine ⟨n,rfl,fun p q r ns ms H1 s1 hp hq hr_ okn okm=>?_⟩
    refine ⟨p,_,rfl,.of hp,rfl,_,_,rfl,_,_,rfl,rfl,?_⟩
    exact ⟨sz rfl,fun p2 H2 g2=>k p2 (.sh ns ms) H2 (s1.trans g2.sm) ⟨q,r,g2.at_,g2.sm _ _ hq,g2.sm _ _ hr_,okn,okm⟩⟩
  refine or2 (p:=c%8=5) (q:=c%8=6) (fun _=>?_) (fun _ _=>?_)
  · refine ⟨n,rfl,n0,fun p q r qs es H1 s1 hp hq hr_ rw1 ok=>?_⟩
    refine ⟨p,_,rfl,.of hp,rfl,_,_,rfl,_,_,rfl,rfl,?_⟩
    exact ⟨sz rfl,fun p2 H2 g2=>k p2 (.tb es) H2 (s1.trans g2.sm) ⟨q,r,g2.at_,g2.sm _ _ hq,⟨qs,g2.sm _ _ hr_,rw1.mono g2.sm⟩,ok⟩⟩
  have last : ∀ H0,Same H H0->∀ M:Md,(M=.ld\/(∃ h,M=.pr h)\/M=.br)->∀ pa H1 pb H2 p3 H3,Gro H0 pa (.lst []) H1->Gro H1 pb (.lst []) H2->Gro H2 p3 (.tup [.str (wrd M),.ref pa,.ref pb]) H3->Q (.ref p3) H3:=by
    intro H0 s0 M hM pa H1 pb H2 p3 H3 g1 g2 g3
    refine k p3 M H3 (s0.trans (g1.sm.trans (g2.sm.trans g3.sm))) ⟨pa,pb,g3.at_,?_⟩
    rcases hM with rfl | ⟨h,rfl⟩ | rfl <;> exact ⟨g3.sm _ _ (g2.sm _ _ g1.at_),g3.sm _ _ g2.at_⟩
  have rest : ∀ i:Int,0<=i->i < 3->∃ M:Md,(M=.ld\/(∃ h,M=.pr h)\/M=.br)/\atI [V.str "lead",.str "high",.str "low"] i=some (.str (wrd M)):=by
    intro i i0 i3
    rcases (show i=0\/i=1\/i=2 by omega) with rfl | rfl | rfl
    · exact ⟨.ld,.inl rfl,rfl⟩
    · exact ⟨.pr true,.inr (.inl ⟨_,rfl⟩),rfl⟩
    · exact ⟨.pr false,.inr (.inl ⟨_,rfl⟩),rfl⟩
  have fin : ∀ {R:VK},(∀ p H',(∃ M:Md,(M=.ld\/(∃ h,M=.pr h)\/M=.br)/\∃ pa H1 pb H2 H0,Same H H0/\Gro H0 pa (.lst []) H1/\Gro H1 pb (.lst []) H2/\Gro H2 p (.tup [.str (wrd M),.ref pa,.ref pb]) H')->Q (.ref p) H'):=fun {R} p H' h=>by
    obtain ⟨M,hM,pa,H1,pb,H2,H0,s0,g1,g2,g3⟩:=h
    exact last H0 s0 M hM pa H1 pb H2 p H' g1 g2 g3
  have tail : ∀ (hx:True),mTup (tCons (tOp (gIx K) (mLst (tConsts [V.str "lead",V.str "high",V.str "low"])) (mMd 3 (mMd 8 (mV 0)))) (tCons (mLst tNil) (tCons (mLst tNil) tNil))) [some (.int c),some (.int n),none,none,none,none] H Q:=by
    intro _
    refine ⟨sz rfl,fun p0 H0 g0=>?_⟩
    obtain ⟨M,hM,eM⟩:=rest (c%8%3) (by omega) (by omega)
    refine ⟨_,_,.inl g0.lst,eM,?_⟩
    refine ⟨sz rfl,fun pa H1 g1=>?_⟩
    refine ⟨sz rfl,fun pb H2 g2=>?_⟩
    exact ⟨sz rfl,fun p3 H3 g3=>last H0 g0.sm M hM pa H1 pb H2 p3 H3 g1 g2 g3⟩
  refine ite2 (fun _=>?_) (fun _=>?_)
  · refine ite2 (fun _=>?_) (fun _=>?_)
    · refine ⟨sz rfl,fun pa H1 g1=>?_⟩
      refine ⟨sz rfl,fun pb H2 g2=>?_⟩
      exact ⟨sz rfl,fun p3 H3 g3=>last H (Same.refl _) .br (.inr (.inr rfl)) pa H1 pb H2 p3 H3 g1 g2 g3⟩
    · exact tail trivial
  · exact tail trivial
def Mt:Md->Kt->Prop
  | .ld,D=>D=.ld
  | .pr h,D=>D=.pr h
  | .sh ns ms,D=>∃ f,D=.sh f ns ms
  | .tb es,D=>∃ f,D=.tb f es
  | .br,D=>D=.br
def spTn (t:Adr):Sp:=fun vs H Q _=>∃ (p:Addr) (M:Md),vs=[.ref p]/\Mod H p M/\∀ o D H',Same H H'->Mt M D->TN t H' o D->Q (.ref o) H'
theorem h_z_tongue (T:Txt w K mg t):Has P w K mg base "_law_tongue" 8 t.a_z_tongue t.f_z_tongue ["_law_model_here"] (spTn t):=by
  refine ⟨T.g_z_tongue,T.F_z_tongue.kp,T.b_z_tongue,T.F_z_tongue.okQ sc_z_tongue (fun vs H Q E h=>by obtain ⟨p,M,rfl,_⟩:=h; rfl) fun cdv A outer s H vs Q E hr h=>?_⟩
  obtain ⟨p,M,rfl,⟨a,b,hp,ct⟩,k⟩:=h
  have hu:=hr.units
  refine ⟨_,(q_pss_cons (q_ps_asg (q_vv 0) (q_pg_tupK (K:=K) rfl rfl (q_pgs_cons (q_pg_name (i:=1) sc_z_tongue.nd rfl (by first | exact Or.inl rfl | exact Or.inr rfl)) (q_pgs_cons (q_pg_name (i:=2) sc_z_tongue.nd rfl (by first | exact Or.inl rfl | exact Or.inr rfl)) (q_pgs_cons (q_pg_name (i:=3) sc_z_tongue.nd rfl (by first | exact Or.inl rfl | exact Or.inr rfl)) q_pgs_nil)))))
      (q_pss_cons (q_ps_if (q_mt_cmp (g_eqK (K:=K) rfl hu) (q_vv 1) q_pe_str (nomark _)) (q_pss_one (q_ps_ret (q_mk0 T.mk0_LeadTongue T.gc_LeadTongue))) q_pss_nil)
      (q_pss_cons (q_ps_if (q_PW_pt (q_pw_or (q_mt_cmp (g_eqK (K:=K) rfl hu) (q_vv 1) q_pe_str (nomark _)) (q_pw_or1 (q_mt_cmp (g_eqK (K:=K) rfl hu) (q_vv 1) q_pe_str (nomark _))))) (q_pss_one (q_ps_ret (q_makeD (hk_PairTongue_0 T) hr (q_pa_c (q_vv 1) q_pa_nil)))) q_pss_nil)
      (q_pss_cons (q_ps_if (q_mt_cmp (g_eqK (K:=K) rfl hu) (q_vv 1) q_pe_str (nomark _)) (q_pss_one (q_ps_ret (q_makeD (hk_ShiftTongue_0 T) hr (q_pa_c (q_calTy (c_listK (K:=K) rfl) T.n_list PyProof.Rows.boot_list (q_pa_c (q_vv 2) q_pa_nil)) (q_pa_c (q_calTy (c_listK (K:=K) rfl) T.n_list PyProof.Rows.boot_list (q_pa_c (q_vv 3) q_pa_nil)) q_pa_nil))))) q_pss_nil)
      (q_pss_cons (q_ps_if (q_mt_cmp (g_eqK (K:=K) rfl hu) (q_vv 1) q_pe_str (nomark _)) (q_pss_one (q_ps_ret (q_makeD (hk_TableTongue_0 T) hr (q_pa_c (q_pe_comp rfl (CompScope.of (fns:=(defScope s_z_tongue).names) (N:=["_law_model_here", "_law_word", "_law_first", "_law_second"]) (Nc:=["_law_sign", "_law_row"]) (nv:=2) (caps:=[]) rfl rfl (by decide +kernel)) (q_pi_zipK (K:=K) rfl rfl T.n_zip (q_pa_c (q_vv 2) (q_pa_c (q_vv 3) q_pa_nil))) (fun _ _ _ _=>(q_pg_tupK (K:=K) rfl (n:=2) rfl (q_pgs_cons (q_pg_name (i:=0) (show List.Nodup (["_law_sign", "_law_row"]:List Str) by decide +kernel) rfl (Or.inl rfl) (Or.inr rfl)) (q_pgs_cons (q_pg_name (i:=1) (show List.Nodup (["_law_sign", "_law_row"]:List Str) by decide +kernel) rfl (Or.inl rfl) (Or.inr rfl)) q_pgs_nil)))) (fun _ _ _ _=>q_pts_nil) (fun _ _ _ _=>(q_me_tup (q_pa_c (q_vv 0) (q_pa_c (q_calTy (c_listK (K:=K) rfl) T.n_list PyProof.Rows.boot_list (q_pa_c (q_vv 1) q_pa_nil)) q_pa_nil))))) q_pa_nil)))) q_pss_nil)
      (q_pss_one (q_ps_ret (q_mk0 T.mk0_Tongue T.gc_Tongue)))))))),?_⟩
  refine ⟨p,_,rfl,.of hp,rfl,_,_,rfl,_,_,rfl,_,_,rfl,rfl,?_⟩
  cases M with
  | ld =>
    refine ⟨_,_,DataV.str _,DataV.str _,str_shaped ok_lead,str_shaped ok_lead,?_⟩
    refine ite2 (fun _=>?_) (fun z=>absurd (show PyData.eqv (.str "lead") (.str "lead")=true by decide +kernel) z)
    refine fun x dx hx hdx hne=>?_
    exact k x .ld _ (same_make hx hdx) rfl ⟨dx,upd_same⟩
  | pr h =>
    cases h with
    | true =>
      refine ⟨_,_,DataV.str _,DataV.str _,str_shaped ok_high,str_shaped ok_lead,?_⟩
      refine ite2 (fun z=>absurd (show PyData.eqv (.str "high") (.str "lead")=true from z) (by decide +kernel)) (fun _=>?_)
      refine ⟨_,_,DataV.str _,DataV.str _,str_shaped ok_high,str_shaped ok_high,?_⟩
      refine ite2 (fun _=>?_) (fun z=>absurd (show PyData.eqv (.str "high") (.str "high")=true by decide +kernel) z)
      refine iteT ?_
      refine fun x dx hx hdx hne=>?_
      refine ⟨x,dx,true,rfl,upd_same,rfl,?_⟩
      refine k x (.pr true) _ (fun c u e=>?_) rfl ⟨dx,upd_same⟩
      rw [upd_ne (ne_of_none e hx)]
      exact same_make hx hdx c u e
    | false =>
      refine ⟨_,_,DataV.str _,DataV.str _,str_shaped ok_low,str_shaped ok_lead,?_⟩
      refine ite2 (fun z=>absurd (show PyData.eqv (.str "low") (.str "lead")=true from z) (by decide +kernel)) (fun _=>?_)
      refine ⟨_,_,DataV.str _,DataV.str _,str_shaped ok_low,str_shaped ok_high,?_⟩
      refine ite2 (fun z=>absurd (show PyData.eqv (.str "low") (.str "high")=true from z) (by decide +kernel)) (fun _=>?_)
      refine ⟨_,_,DataV.str _,DataV.str _,str_shaped ok_low,str_shaped ok_low,?_⟩
      refine ite2 (fun _=>?_) (fun z=>absurd (show PyData.eqv (.str "low") (.str "low")=true by decide +kernel) z)
      refine fun x dx hx hdx hne=>?_
      refine ⟨x,dx,false,rfl,upd_same,rfl,?_⟩
      refine k x (.pr false) _ (fun c u e=>?_) rfl ⟨dx,upd_same⟩
      rw [upd_ne (ne_of_none e hx)]
      exact same_make hx hdx c u e
  | sh ns ms =>
    obtain ⟨ha,hb,okn,okm⟩:=ct
    refine ⟨_,_,DataV.str _,DataV.str _,str_shaped ok_shift,str_shaped ok_lead,?_⟩
    refine ite2 (fun z=>absurd (show PyData.eqv (.str "shift") (.str "lead")=true from z) (by decide +kernel)) (fun _=>?_)
    refine ⟨_,_,DataV.str _,DataV.str _,str_shaped ok_shift,str_shaped ok_high,?_⟩
    refine ite2 (fun z=>absurd (show PyData.eqv (.str "shift") (.str "high")=true from z) (by decide +kernel)) (fun _=>?_)
    refine ⟨_,_,DataV.str _,DataV.str _,str_shaped ok_shift,str_shaped ok_low,?_⟩
    refine ite2 (fun z=>absurd (show PyData.eqv (.str "shift") (.str "low")=true from z) (by decide +kernel)) (fun _=>?_)
    refine ⟨_,_,DataV.str _,DataV.str _,str_shaped ok_shift,str_shaped ok_shift,?_⟩
    refine ite2 (fun _=>?_) (fun z=>absurd (show PyData.eqv (.str "shift") (.str "shift")=true by decide +kernel) z)
    refine ⟨_,.inl (.of ha),fun q H1 g1=>?_⟩
    refine ⟨_,.inl (.of (g1.sm _ _ hb)),fun r H2 g2=>?_⟩
    refine fun x dx hx hdx hne=>?_
    have s:=same_make (C:=t.c_ShiftTongue) hx hdx
    have q2:=g2.sm _ _ g1.at_
    refine ⟨x,dx,q,r,ns,ms,rfl,upd_same,.of (s _ _ q2),.of (s _ _ g2.at_),okn,okm,ne_of_none q2 hx,ne_of_none g2.at_ hx,fun fp H8 k8 tg8 fr=>⟨rfl,?_⟩⟩
    refine k x (.sh fp ns ms) H8 (fun c u e=>k8 _ _ (ne_of_none (g2.sm _ _ (g1.sm _ _ e)) hx) (s _ _ (g2.sm _ _ (g1.sm _ _ e)))) ⟨fp,rfl⟩ tg8
  | tb es =>
    obtain ⟨ha,⟨qs,hb,rw1⟩,ok⟩:=ct
    refine ⟨_,_,DataV.str _,DataV.str _,str_shaped ok_table,str_shaped ok_lead,?_⟩
    refine ite2 (fun z=>absurd (show PyData.eqv (.str "table") (.str "lead")=true from z) (by decide +kernel)) (fun _=>?_)
    refine ⟨_,_,DataV.str _,DataV.str _,str_shaped ok_table,str_shaped ok_high,?_⟩
    refine ite2 (fun z=>absurd (show PyData.eqv (.str "table") (.str "high")=true from z) (by decide +kernel)) (fun _=>?_)
    refine ⟨_,_,DataV.str _,DataV.str _,str_shaped ok_table,str_shaped ok_low,?_⟩
    refine ite2 (fun z=>absurd (show PyData.eqv (.str "table") (.str "low")=true from z) (by decide +kernel)) (fun _=>?_)
    refine ⟨_,_,DataV.str _,DataV.str _,str_shaped ok_table,str_shaped ok_shift,?_⟩
    refine ite2 (fun z=>absurd (show PyData.eqv (.str "table") (.str "shift")=true from z) (by decide +kernel)) (fun _=>?_)
    refine ⟨_,_,DataV.str _,DataV.str _,str_shaped ok_table,str_shaped ok_table,?_⟩
    refine ite2 (fun _=>?_) (fun z=>absurd (show PyData.eqv (.str "table") (.str "table")=true by decide +kernel) z)
    have l64:=ok.l
    have lq:=rw1.1
    refine ⟨a,b,_,_,rfl,.of ha,.of hb,?_⟩
    refine comp_zip (K:=K) (a:=a) (b:=b) (xs:=(es.map fun e=>e.1).map V.int) (zs:=qs.map V.ref) (cs:=[]) (by simp [lq]) (fun i ys H'=>Same H H'/\∃ ps:List Addr,ys=ps.map V.ref/\ps.length=i/\EnH H' ps (es.take i)) ⟨Same.refl _,[],rfl,rfl,All2.nil⟩ (fun i ys H' hi z=>⟨z.1.seq (.of ha),z.1.seq (.of hb),by obtain ⟨_,ps,rfl,hl,_⟩:=z; rw [List.length_map]; omega⟩) (szl (by rw [List.length_map,List.length_map]; omega)) (fun i x z ys H2 H3 N hx hz pv s3 hN=>?_) fun ys H2 pf H3 pv g3=>?_
    · obtain ⟨n,hn,rfl⟩:=ints_at hx
      obtain ⟨q,hq,rfl⟩:=refs_at hz
      obtain ⟨s2,ps,rfl,hl,en⟩:=pv
      obtain ⟨e,he,hrow⟩:=rw1.right hq
      rw [List.getElem?_map,he] at hn
      cases hn
      simp only [tTrue,if_true]
      have s02:=s2.trans s3
      refine ⟨_,.inl (.of (s02 _ _ hrow)),fun q2 H4 g4=>?_⟩
      refine ⟨sz rfl,fun p5 H5 g5=>?_⟩
      refine hN _ _ ⟨s02.trans (g4.sm.trans g5.sm),ps++[p5],by rw [List.map_append]; rfl,by rw [List.length_append,hl]; rfl,?_⟩
      rw [take_snoc he]
      refine All2.app (en.mono (s3.trans (g4.sm.trans g5.sm))) (All2.cons ⟨⟨q2,g5.at_,g5.sm _ _ g4.at_⟩,?_⟩ All2.nil)
      have:=ok.sg e (List.mem_of_getElem? he)
      exact ⟨this.2.1,this.2.2.1⟩
    obtain ⟨s2,ps,rfl,hl,en⟩:=pv
    rw [List.length_map,List.length_map,List.take_length] at en
    refine fun x dx hx hdx hne=>?_
    have s:=same_make (C:=t.c_TableTongue) hx hdx
    refine ⟨x,dx,pf,ps,es,rfl,upd_same,s _ _ g3.at_,en.mono (g3.sm.trans s),ok,fun f H8 k8 tt8=>⟨rfl,?_⟩⟩
    exact k x (.tb f es) H8 (fun c u e=>k8 _ _ (ne_of_none (g3.sm _ _ (s2 _ _ e)) hx) (s _ _ (g3.sm _ _ (s2 _ _ e)))) ⟨f,rfl⟩ ⟨tt8,ok⟩
  | br =>
    refine ⟨_,_,DataV.str _,DataV.str _,str_shaped ok_bare,str_shaped ok_lead,?_⟩
    refine ite2 (fun z=>absurd (show PyData.eqv (.str "bare") (.str "lead")=true from z) (by decide +kernel)) (fun _=>?_)
    refine ⟨_,_,DataV.str _,DataV.str _,str_shaped ok_bare,str_shaped ok_high,?_⟩
    refine ite2 (fun z=>absurd (show PyData.eqv (.str "bare") (.str "high")=true from z) (by decide +kernel)) (fun _=>?_)
    refine ⟨_,_,DataV.str _,DataV.str _,str_shaped ok_bare,str_shaped ok_low,?_⟩
    refine ite2 (fun z=>absurd (show PyData.eqv (.str "bare") (.str "low")=true from z) (by decide +kernel)) (fun _=>?_)
    refine ⟨_,_,DataV.str _,DataV.str _,str_shaped ok_bare,str_shaped ok_shift,?_⟩
    refine ite2 (fun z=>absurd (show PyData.eqv (.str "bare") (.str "shift")=true from z) (by decide +kernel)) (fun _=>?_)
    refine ⟨_,_,DataV.str _,DataV.str _,str_shaped ok_bare,str_shaped ok_table,?_⟩
    refine ite2 (fun z=>absurd (show PyData.eqv (.str "bare") (.str "table")=true from z) (by decide +kernel)) (fun _=>?_)
    refine fun x dx hx hdx hne=>?_
    exact k x .br _ (same_make hx hdx) rfl ⟨dx,upd_same⟩
def spLr:Sp:=fun vs H Q _=>∃ n,vs=[.int n]/\∀ p H',Gro H p (.lst ((row n).map V.int)) H'->Q (.ref p) H'
theorem h_z_lead_row (T:Txt w K mg t):Has P w K mg base "_law_lead_row" 1 t.a_z_lead_row t.f_z_lead_row ["_law_sign"] spLr:=by
  refine ⟨T.g_z_lead_row,T.F_z_lead_row.kp,T.b_z_lead_row,T.F_z_lead_row.okQ sc_z_lead_row (fun vs H Q E h=>by obtain ⟨n,rfl,_⟩:=h; rfl) fun cdv A outer s H vs Q E hr h=>?_⟩
  obtain ⟨n,rfl,k⟩:=h
  refine ⟨_,(q_pss_cons (q_ps_if (q_mt_cmp g_lt (q_vv 0) q_pe_int (nomark _)) (q_pss_one (q_ps_ret (q_me_lst (q_pa_c (q_vv 0) q_pa_nil)))) q_pss_nil)
      (q_pss_cons (q_ps_if (q_mt_cmp g_lt (q_vv 0) q_pe_int (nomark _)) (q_pss_one (q_ps_ret (q_me_lst (q_pa_c (q_pe_op (g_addK (K:=K) rfl) q_pe_int (q_me_fd (q_vv 0))) (q_pa_c (q_pe_op (g_addK (K:=K) rfl) q_pe_int (q_me_md (q_vv 0))) q_pa_nil))))) q_pss_nil)
      (q_pss_cons (q_ps_if (q_mt_cmp g_lt (q_vv 0) q_pe_int (nomark _)) (q_pss_one (q_ps_ret (q_me_lst (q_pa_c (q_pe_op (g_addK (K:=K) rfl) q_pe_int (q_me_fd (q_vv 0))) (q_pa_c (q_pe_op (g_addK (K:=K) rfl) q_pe_int (q_me_md (q_me_fd (q_vv 0)))) (q_pa_c (q_pe_op (g_addK (K:=K) rfl) q_pe_int (q_me_md (q_vv 0))) q_pa_nil)))))) q_pss_nil)
      (q_pss_one (q_ps_ret (q_me_lst (q_pa_c (q_pe_op (g_addK (K:=K) rfl) q_pe_int (q_me_fd (q_vv 0))) (q_pa_c (q_pe_op (g_addK (K:=K) rfl) q_pe_int (q_me_md (q_me_fd (q_vv 0)))) (q_pa_c (q_pe_op (g_addK (K:=K) rfl) q_pe_int (q_me_md (q_me_fd (q_vv 0)))) (q_pa_c (q_pe_op (g_addK (K:=K) rfl) q_pe_int (q_me_md (q_vv 0))) q_pa_nil)))))))))),?_⟩
  unfold row at k
  refine ite2 (fun c1=>?_) (fun c1=>?_)
  · rw [if_pos (of_decide_eq_true c1)] at k
    exact ⟨sz rfl,k⟩
  rw [if_neg (fun z=>c1 (decide_eq_true z))] at k
  refine ite2 (fun c2=>?_) (fun c2=>?_)
  · rw [if_pos (of_decide_eq_true c2)] at k
    exact ⟨sz rfl,k⟩
  rw [if_neg (fun z=>c2 (decide_eq_true z))] at k
  refine ite2 (fun c3=>?_) (fun c3=>?_)
  · rw [if_pos (of_decide_eq_true c3)] at k
    exact ⟨sz rfl,k⟩
  rw [if_neg (fun z=>c3 (decide_eq_true z))] at k
  exact ⟨sz rfl,k⟩
def spPr:Sp:=fun vs H Q _=>∃ (n:Int) (h:Bool),vs=[.int n,.str (ordOf h)]/\∀ p H',Same H H'->H p=none->H' p=some (.lst ((prow h n).map V.int))->Q (.ref p) H'
theorem h_z_pair_row (T:Txt w K mg t):Has P w K mg base "_law_pair_row" 1 t.a_z_pair_row t.f_z_pair_row ["_law_sign", "_law_word"] spPr:=by
  refine ⟨T.g_z_pair_row,T.F_z_pair_row.kp,T.b_z_pair_row,T.F_z_pair_row.okQ sc_z_pair_row (fun vs H Q E h=>by obtain ⟨n,h,rfl,_⟩:=h; rfl) fun cdv A outer s H vs Q E hr h=>?_⟩
  obtain ⟨n,h,rfl,k⟩:=h
  have hu:=hr.units
  refine ⟨_,(q_pss_cons (q_ps_set (i:=2) sc_z_pair_row.nd rfl (by first | exact Or.inl rfl | exact Or.inr rfl) (q_me_lst (q_pa_c (q_vv 0) q_pa_nil)))
      (q_pss_cons (q_ps_if (q_mt_cmp g_gt (q_vv 0) q_pe_int (nomark _)) (q_pss_one (q_ps_set (i:=2) sc_z_pair_row.nd rfl (by first | exact Or.inl rfl | exact Or.inr rfl) (q_me_lst (q_pa_c (q_pe_op (g_addK (K:=K) rfl) q_pe_int (q_me_fd (q_pe_op g_sub (q_vv 0) q_pe_int))) (q_pa_c (q_pe_op (g_addK (K:=K) rfl) q_pe_int (q_me_md (q_vv 0))) q_pa_nil))))) q_pss_nil)
      (q_pss_cons (q_ps_set (i:=3) sc_z_pair_row.nd rfl (by first | exact Or.inl rfl | exact Or.inr rfl) (q_me_lst q_pa_nil))
      (q_pss_cons (q_ps_for PassesOwn.never rfl (q_pi_listK (K:=K) rfl (q_vv 2)) (q_pg_name (i:=4) sc_z_pair_row.nd rfl (by first | exact Or.inl rfl | exact Or.inr rfl)) (q_pss_one (q_ps_if (q_mt_cmp (g_eqK (K:=K) rfl hu) (q_vv 1) q_pe_str (nomark _)) (q_pss_one (q_ps_set (i:=3) sc_z_pair_row.nd rfl (by first | exact Or.inl rfl | exact Or.inr rfl) (q_pe_op (g_addK (K:=K) rfl) (q_vv 3) (q_me_lst (q_pa_c (q_me_fd (q_vv 4)) (q_pa_c (q_me_md (q_vv 4)) q_pa_nil)))))) (q_pss_one (q_ps_set (i:=3) sc_z_pair_row.nd rfl (by first | exact Or.inl rfl | exact Or.inr rfl) (q_pe_op (g_addK (K:=K) rfl) (q_vv 3) (q_me_lst (q_pa_c (q_me_md (q_vv 4)) (q_pa_c (q_me_fd (q_vv 4)) q_pa_nil)))))))))
      (q_pss_one (q_ps_ret (q_vv 3))))))),?_⟩
  refine ⟨sz rfl,fun p1 H1 g1=>?_⟩
  dsimp only [gName]
  refine seq_nx (fun σ' H'=>Same H H'/\∃ pu,H' pu=some (.lst ((unitsOf n).map V.int))/\σ'=[some (.int n),some (.str (ordOf h)),some (.ref pu),none,none]) (fun nx hn=>?_) ?_
  · refine ite2 (fun c=>?_) (fun c=>?_)
    · have c:n > 65535:=of_decide_eq_true c
      refine ⟨sz rfl,fun p2 H2 g2=>?_⟩
      refine hn _ _ ⟨g1.sm.trans g2.sm,p2,?_,rfl⟩
      have e:unitsOf n=[55296+(n - 65536) / 1024,56320+n%1024]:=by
        unfold unitsOf
        rw [if_neg (by omega)]
        congr 2
        omega
      rw [e]
      exact g2.at_
    · have c : ¬ n > 65535:=fun z=>c (decide_eq_true z)
      refine hn _ _ ⟨g1.sm,p1,?_,rfl⟩
      have e:unitsOf n=[n]:=by unfold unitsOf; rw [if_pos (by omega)]
      rw [e]
      exact g1.at_
  rintro σ' H2 ⟨s2,pu,hu2,rfl⟩
  have lu:=units_len n
  refine ⟨sz rfl,fun p3 H3 g3=>?_⟩
  refine ⟨pu,rfl,⟨_,.of (g3.sm _ _ hu2)⟩,for_list (K:=K) (a:=pu) (xs:=(unitsOf n).map V.int) (fun i σ H'=>Same H3 H'/\∃ (pr:Addr) (v4:Option V),H pr=none/\H' pr=some (.lst ((((unitsOf n).take i).flatMap (ub h)).map V.int))/\σ=[some (.int n),some (.str (ordOf h)),some (.ref pu),some (.ref pr),v4]) ⟨Same.refl _,p3,_,s2.free g3.nw,g3.at_,rfl⟩ (fun i σ H' _ z=>z.1.seq (.of (g3.sm _ _ hu2))) ?_ ?_⟩
  · rintro i x σ H4 hx ⟨s4,pr,v4,_,h4,rfl⟩
    obtain ⟨m,hm,rfl⟩:=ints_at hx
    have s04:=s2.trans (g3.sm.trans s4)
    have hi:i < (unitsOf n).length:=(List.getElem?_eq_some_iff.mp hm).1
    have fl:=flat_len h ((unitsOf n).take i)
    have lt:((unitsOf n).take i).length<=2:=by rw [List.length_take]; omega
    have e:((unitsOf n).take (i+1)).flatMap (ub h)=((unitsOf n).take i).flatMap (ub h)++ub h m:=by rw [take_snoc hm,List.flatMap_append]; simp
    cases h with
    | true =>
      refine ⟨_,_,DataV.str _,DataV.str _,str_shaped ok_high,str_shaped ok_high,?_⟩
      refine ite2 (fun _=>?_) (fun z=>absurd (show PyData.eqv (.str "high") (.str "high")=true by decide +kernel) z)
      refine ⟨sz rfl,fun p5 H5 g5=>?_⟩
      refine ⟨_,_,.of (g5.sm _ _ h4),g5.lst,szl (by rw [List.length_map]; show _+2<=_; omega),fun p6 H6 g6=>?_⟩
      refine ⟨s4.trans (g5.sm.trans g6.sm),p6,_,(s04.trans g5.sm).free g6.nw,?_,rfl⟩
      rw [e,List.map_append]
      exact g6.at_
    | false =>
      refine ⟨_,_,DataV.str _,DataV.str _,str_shaped ok_low,str_shaped ok_high,?_⟩
      refine ite2 (fun z=>absurd (show PyData.eqv (.str "low") (.str "high")=true from z) (by decide +kernel)) (fun _=>?_)
      refine ⟨sz rfl,fun p5 H5 g5=>?_⟩
      refine ⟨_,_,.of (g5.sm _ _ h4),g5.lst,szl (by rw [List.length_map]; show _+2<=_; omega),fun p6 H6 g6=>?_⟩
      refine ⟨s4.trans (g5.sm.trans g6.sm),p6,_,(s04.trans g5.sm).free g6.nw,?_,rfl⟩
      rw [e,List.map_append]
      exact g6.at_
  · rintro σ H4 ⟨s4,pr,v4,n4,h4,rfl⟩
    rw [List.length_map,List.take_length] at h4
    exact k pr H4 (s2.trans (g3.sm.trans s4)) n4 h4
theorem inV_ints (n:Int) (ns:List Int):inV (.int n) (ns.map V.int)=decide (n∈ns):=inV_int n ns
theorem flat_ints (ns:List Int):(ns.map V.int).all flatV=true:=by
  rw [List.all_eq_true]
  intro x hx
  obtain ⟨n,_,rfl⟩:=List.mem_map.mp hx
  rfl
def spSp (t:Adr):Sp:=fun vs H Q _=>∃ (p:Addr) (M:Md) (D:Kt) (n g:Int),vs=[.ref p,.int n,.int g]/\Mod H p M/\Mt M D/\InT D n/\PgK D g/\∀ pr q H',Same H H'->H q=none->H' q=some (.lst ((splF D g n).1.map V.int))->H' pr=some (.tup [.ref q,.int (splF D g n).2])->Q (.ref pr) H'
theorem h_z_spell (T:Txt w K mg t):Has P w K mg base "_law_spell" 2 t.a_z_spell t.f_z_spell ["_law_model_here", "_law_sign", "_law_page"] (spSp t):=by
  refine ⟨T.g_z_spell,T.F_z_spell.kp,T.b_z_spell,T.F_z_spell.okQ sc_z_spell (fun vs H Q E h=>by obtain ⟨p,M,D,n,g,rfl,_⟩:=h; rfl) fun cdv A outer s H vs Q E hr h=>?_⟩
  obtain ⟨p,M,D,n,g,rfl,⟨a,b,hp,ct⟩,mt,hin,pg,k⟩:=h
  have hu:=hr.units
  refine ⟨_,(q_pss_cons (q_ps_asg (q_vv 0) (q_pg_tupK (K:=K) rfl rfl (q_pgs_cons (q_pg_name (i:=3) sc_z_spell.nd rfl (by first | exact Or.inl rfl | exact Or.inr rfl)) (q_pgs_cons (q_pg_name (i:=4) sc_z_spell.nd rfl (by first | exact Or.inl rfl | exact Or.inr rfl)) (q_pgs_cons (q_pg_name (i:=5) sc_z_spell.nd rfl (by first | exact Or.inl rfl | exact Or.inr rfl)) q_pgs_nil)))))
      (q_pss_cons (q_ps_if (q_mt_cmp (g_eqK (K:=K) rfl hu) (q_vv 3) q_pe_str (nomark _)) (q_pss_one (q_ps_ret (q_me_tup (q_pa_c (q_cal (h_z_lead_row T) hr (q_pa_c (q_vv 1) q_pa_nil)) (q_pa_c q_pe_int q_pa_nil))))) q_pss_nil)
      (q_pss_cons (q_ps_if (q_PW_pt (q_pw_or (q_mt_cmp (g_eqK (K:=K) rfl hu) (q_vv 3) q_pe_str (nomark _)) (q_pw_or1 (q_mt_cmp (g_eqK (K:=K) rfl hu) (q_vv 3) q_pe_str (nomark _))))) (q_pss_one (q_ps_ret (q_me_tup (q_pa_c (q_cal (h_z_pair_row T) hr (q_pa_c (q_vv 1) (q_pa_c (q_vv 3) q_pa_nil))) (q_pa_c q_pe_int q_pa_nil))))) q_pss_nil)
      (q_pss_cons (q_ps_if (q_PW_pt (q_pw_and (q_mt_cmp (g_eqK (K:=K) rfl hu) (q_vv 3) q_pe_str (nomark _)) (q_pw_and1 (q_mt_cmp (g_inK (K:=K) rfl) (q_vv 1) (q_vv 4) (by with_unfolding_all rfl))))) (q_pss_one (q_ps_ret (q_me_tup (q_pa_c (q_calTy (c_listK (K:=K) rfl) T.n_list PyProof.Rows.boot_list (q_pa_c (q_pe_ix (g_ixK (K:=K) rfl) (q_vv 5) (q_pe_bmK (K:=K) rfl PySem.F.plainAttrs_list PySem.F.slot_list_index PySem.F.type_list_index (mg_lstIxK (K:=K) rfl) (q_vv 4) (q_pa_c (q_vv 1) q_pa_nil)) (fun _ _=>rfl)) q_pa_nil)) (q_pa_c q_pe_int q_pa_nil))))) q_pss_nil)
      (q_pss_cons (q_ps_if (q_PW_pt (q_pw_and (q_mt_cmp (g_eqK (K:=K) rfl hu) (q_vv 3) q_pe_str (nomark _)) (q_pw_and1 (q_mt_cmp (g_inK (K:=K) rfl) (q_vv 1) (q_pe_ix (g_ixK (K:=K) rfl) (q_vv 0) (q_pe_op (g_addK (K:=K) rfl) q_pe_int (q_vv 2)) (fun _ _=>rfl)) (by with_unfolding_all rfl))))) (q_pss_one (q_ps_ret (q_me_tup (q_pa_c (q_me_lst (q_pa_c (q_pe_bmK (K:=K) rfl PySem.F.plainAttrs_list PySem.F.slot_list_index PySem.F.type_list_index (mg_lstIxK (K:=K) rfl) (q_pe_ix (g_ixK (K:=K) rfl) (q_vv 0) (q_pe_op (g_addK (K:=K) rfl) q_pe_int (q_vv 2)) (fun _ _=>rfl)) (q_pa_c (q_vv 1) q_pa_nil)) q_pa_nil)) (q_pa_c (q_vv 2) q_pa_nil))))) q_pss_nil)
      (q_pss_cons (q_ps_if (q_PW_pt (q_pw_and (q_mt_cmp (g_eqK (K:=K) rfl hu) (q_vv 3) q_pe_str (nomark _)) (q_pw_and1 (q_mt_cmp (g_inK (K:=K) rfl) (q_vv 1) (q_pe_ix (g_ixK (K:=K) rfl) (q_vv 0) (q_pe_op g_sub q_pe_int (q_vv 2)) (fun _ _=>rfl)) (by with_unfolding_all rfl))))) (q_pss_one (q_ps_ret (q_me_tup (q_pa_c (q_me_lst (q_pa_c (q_pe_op g_sub q_pe_int (q_vv 2)) (q_pa_c (q_pe_bmK (K:=K) rfl PySem.F.plainAttrs_list PySem.F.slot_list_index PySem.F.type_list_index (mg_lstIxK (K:=K) rfl) (q_pe_ix (g_ixK (K:=K) rfl) (q_vv 0) (q_pe_op g_sub q_pe_int (q_vv 2)) (fun _ _=>rfl)) (q_pa_c (q_vv 1) q_pa_nil)) q_pa_nil))) (q_pa_c (q_pe_op g_sub q_pe_int (q_vv 2)) q_pa_nil))))) q_pss_nil)
      (q_pss_one (q_ps_ret q_pe_non)))))))),?_⟩
  refine ⟨p,_,rfl,.of hp,rfl,_,_,rfl,_,_,rfl,_,_,rfl,rfl,?_⟩
  cases M with
  | ld =>
    obtain rfl:D=.ld:=mt
    obtain rfl:g=0:=pg
    refine ⟨_,_,DataV.str _,DataV.str _,str_shaped ok_lead,str_shaped ok_lead,?_⟩
    refine ite2 (fun _=>?_) (fun z=>absurd (show PyData.eqv (.str "lead") (.str "lead")=true by decide +kernel) z)
    refine ⟨n,rfl,fun q H1 g1=>?_⟩
    exact ⟨sz rfl,fun p2 H2 g2=>k p2 q H2 (g1.sm.trans g2.sm) g1.nw (g2.sm _ _ g1.at_) g2.at_⟩
  | pr h =>
    obtain rfl:D=.pr h:=mt
    obtain rfl:g=0:=pg
    cases h with
    | true =>
      refine ⟨_,_,DataV.str _,DataV.str _,str_shaped ok_high,str_shaped ok_lead,?_⟩
      refine ite2 (fun z=>absurd (show PyData.eqv (.str "high") (.str "lead")=true from z) (by decide +kernel)) (fun _=>?_)
      refine ⟨_,_,DataV.str _,DataV.str _,str_shaped ok_high,str_shaped ok_high,?_⟩
      refine ite2 (fun _=>?_) (fun z=>absurd (show PyData.eqv (.str "high") (.str "high")=true by decide +kernel) z)
      refine iteT ?_
      refine ⟨n,true,rfl,fun q H1 s1 nq hq=>?_⟩
      exact ⟨sz rfl,fun p2 H2 g2=>k p2 q H2 (s1.trans g2.sm) nq (g2.sm _ _ hq) g2.at_⟩
    | false =>
      refine ⟨_,_,DataV.str _,DataV.str _,str_shaped ok_low,str_shaped ok_lead,?_⟩
      refine ite2 (fun z=>absurd (show PyData.eqv (.str "low") (.str "lead")=true from z) (by decide +kernel)) (fun _=>?_)
      refine ⟨_,_,DataV.str _,DataV.str _,str_shaped ok_low,str_shaped ok_high,?_⟩
      refine ite2 (fun z=>absurd (show PyData.eqv (.str "low") (.str "high")=true from z) (by decide +kernel)) (fun _=>?_)
      refine ⟨_,_,DataV.str _,DataV.str _,str_shaped ok_low,str_shaped ok_low,?_⟩
      refine ite2 (fun _=>?_) (fun z=>absurd (show PyData.eqv (.str "low") (.str "low")=true by decide +kernel) z)
      refine ⟨n,false,rfl,fun q H1 s1 nq hq=>?_⟩
      exact ⟨sz rfl,fun p2 H2 g2=>k p2 q H2 (s1.trans g2.sm) nq (g2.sm _ _ hq) g2.at_⟩
  | br =>
    obtain rfl:D=.br:=mt
    exact hin.elim
  | tb es =>
    obtain ⟨f,rfl⟩:=mt
    obtain rfl:g=0:=pg
    obtain ⟨ha,⟨qs,hb,rw1⟩,ok⟩:=ct
    refine ⟨_,_,DataV.str _,DataV.str _,str_shaped ok_table,str_shaped ok_lead,?_⟩
    refine ite2 (fun z=>absurd (show PyData.eqv (.str "table") (.str "lead")=true from z) (by decide +kernel)) (fun _=>?_)
    refine ⟨_,_,DataV.str _,DataV.str _,str_shaped ok_table,str_shaped ok_high,?_⟩
    refine ite2 (fun z=>absurd (show PyData.eqv (.str "table") (.str "high")=true from z) (by decide +kernel)) (fun _=>?_)
    refine ⟨_,_,DataV.str _,DataV.str _,str_shaped ok_table,str_shaped ok_low,?_⟩
    refine ite2 (fun z=>absurd (show PyData.eqv (.str "table") (.str "low")=true from z) (by decide +kernel)) (fun _=>?_)
    refine ⟨_,_,DataV.str _,DataV.str _,str_shaped ok_table,str_shaped ok_table,?_⟩
    refine ite2 (fun _=>?_) (fun z=>absurd (show PyData.eqv (.str "table") (.str "table")=true by decide +kernel) z)
    obtain ⟨e0,he0,en0,ef0⟩:=find_in hin
    have hm:n∈es.map fun e=>e.1:=List.mem_map.mpr ⟨e0,he0,en0⟩
    refine ⟨_,.inl (.of ha),rfl,flat_ints _,?_⟩
    refine ite2 (fun _=>?_) (fun z=>?_)
    · obtain ⟨j,hj,_⟩:=idx_some hm
      obtain ⟨e1,e2⟩:=idx_get hj
      rw [List.getElem?_map] at e1
      obtain ⟨ej,hej,enj⟩:=Option.map_eq_some_iff.mp e1
      obtain ⟨q,hq,hrow⟩:=rw1.left hej
      have ee:ej=e0:=by
        rcases ok.two (List.mem_of_getElem? hej) he0 with z | z
        · exact z
        · unfold colB at z
          rw [decide_eq_true (enj.trans en0.symm)] at z
          cases z
      refine ⟨.inl ⟨rfl,_,.of ha⟩,?_⟩
      refine ⟨_,_,_,j,rfl,rfl,ha,rfl,flat_ints _,⟨.int n,by rw [List.getElem?_map,List.getElem?_map,hej,<- enj]; rfl,by simp [eqV]⟩,fun j' z hj' hz=>?_,?_⟩
      · obtain ⟨m,hm,rfl⟩:=ints_at hz
        have : ¬ m=n:=fun y=>e2 j' hj' (by rw [<- y]; exact hm)
        simp [eqV,this]
      refine ⟨_,.ref q,.inl (.of hb),atI_nat (by rw [List.getElem?_map,hq]; rfl),?_⟩
      refine ⟨_,.inl (.of hrow),fun q2 H1 g1=>?_⟩
      have es':splF (.tb f es) 0 n=(e0.2,0):=by
        show (Option.map _ _).getD _=_
        rw [ef0]; rfl
      rw [ee] at g1
      exact ⟨sz rfl,fun p2 H2 g2=>k p2 q2 H2 (g1.sm.trans g2.sm) g1.nw (by rw [es']; exact g2.sm _ _ g1.at_) (by rw [es']; exact g2.at_)⟩
    · have z : ¬ inV (.int n) ((es.map fun e=>e.1).map V.int)=true:=z
      rw [inV_ints] at z
      exact absurd (decide_eq_true hm) z
  | sh ns ms =>
    obtain ⟨f,rfl⟩:=mt
    obtain ⟨ha,hb,okn,okm⟩:=ct
    have two:Two g:=pg
    refine ⟨_,_,DataV.str _,DataV.str _,str_shaped ok_shift,str_shaped ok_lead,?_⟩
    refine ite2 (fun z=>absurd (show PyData.eqv (.str "shift") (.str "lead")=true from z) (by decide +kernel)) (fun _=>?_)
    refine ⟨_,_,DataV.str _,DataV.str _,str_shaped ok_shift,str_shaped ok_high,?_⟩
    refine ite2 (fun z=>absurd (show PyData.eqv (.str "shift") (.str "high")=true from z) (by decide +kernel)) (fun _=>?_)
    refine ⟨_,_,DataV.str _,DataV.str _,str_shaped ok_shift,str_shaped ok_low,?_⟩
    refine ite2 (fun z=>absurd (show PyData.eqv (.str "shift") (.str "low")=true from z) (by decide +kernel)) (fun _=>?_)
    refine ⟨_,_,DataV.str _,DataV.str _,str_shaped ok_shift,str_shaped ok_table,?_⟩
    refine ite2 (fun z=>absurd (show PyData.eqv (.str "shift") (.str "table")=true from z) (by decide +kernel)) (fun _=>?_)
    refine ⟨_,_,DataV.str _,DataV.str _,str_shaped ok_shift,str_shaped ok_shift,?_⟩
    refine ite2 (fun _=>?_) (fun z=>absurd (show PyData.eqv (.str "shift") (.str "shift")=true by decide +kernel) z)
    have hP:H (sel g a b)=some (.lst ((sel g ns ms).map V.int)):=by
      rcases two with rfl | rfl
      · exact ha
      · exact hb
    have hO:H (sel g b a)=some (.lst ((sel g ms ns).map V.int)):=by
      rcases two with rfl | rfl
      · exact hb
      · exact ha
    have eP:atI [V.str (wrd (.sh ns ms)),.ref a,.ref b] (1+g)=some (.ref (sel g a b)):=by rcases two with rfl | rfl <;> rfl
    have eO:atI [V.str (wrd (.sh ns ms)),.ref a,.ref b] (2 - g)=some (.ref (sel g b a)):=by rcases two with rfl | rfl <;> rfl
    have mem:n∈sel g ns ms\/n∈sel g ms ns:=by
      rcases two with rfl | rfl
      · exact hin
      · exact hin.symm
    refine ⟨_,_,.inr (.of hp),eP,?_⟩
    refine ⟨_,.inl (.of hP),rfl,flat_ints _,?_⟩
    refine ite2 (fun z=>?_) (fun z=>?_)
    · have z:inV (.int n) ((sel g ns ms).map V.int)=true:=z
      rw [inV_ints] at z
      obtain ⟨j,hj,_⟩:=idx_some (of_decide_eq_true z)
      obtain ⟨e1,e2⟩:=idx_get hj
      refine ⟨_,_,.inr (.of hp),eP,?_⟩
      refine ⟨.inl ⟨rfl,_,.of hP⟩,?_⟩
      refine ⟨_,_,_,j,rfl,rfl,hP,rfl,flat_ints _,⟨.int n,by rw [List.getElem?_map,e1]; rfl,by simp [eqV]⟩,fun j' z hj' hz=>?_,?_⟩
      · obtain ⟨m,hm,rfl⟩:=ints_at hz
        have : ¬ m=n:=fun y=>e2 j' hj' (by rw [<- y]; exact hm)
        simp [eqV,this]
      have es':splF (.sh f ns ms) g n=([(j:Int)],g):=by
        show (spelF (sel g ns ms) (sel g ms ns) g (.int n)).getD _=_
        unfold spelF; dsimp only; rw [hj]; rfl
      refine ⟨sz rfl,fun q H1 g1=>?_⟩
      exact ⟨sz rfl,fun p2 H2 g2=>k p2 q H2 (g1.sm.trans g2.sm) g1.nw (by rw [es']; exact g2.sm _ _ g1.at_) (by rw [es']; exact g2.at_)⟩
    · have z : ¬ inV (.int n) ((sel g ns ms).map V.int)=true:=z
      rw [inV_ints] at z
      have z:n∉sel g ns ms:=fun y=>z (decide_eq_true y)
      have hmO:=mem.resolve_left z
      refine ⟨_,_,DataV.str _,DataV.str _,str_shaped ok_shift,str_shaped ok_shift,?_⟩
      refine ite2 (fun _=>?_) (fun z=>absurd (show PyData.eqv (.str "shift") (.str "shift")=true by decide +kernel) z)
      refine ⟨_,_,.inr (.of hp),eO,?_⟩
      refine ⟨_,.inl (.of hO),rfl,flat_ints _,?_⟩
      refine ite2 (fun _=>?_) (fun y=>?_)
      · obtain ⟨j,hj,_⟩:=idx_some hmO
        obtain ⟨e1,e2⟩:=idx_get hj
        refine ⟨_,_,.inr (.of hp),eO,?_⟩
        refine ⟨.inl ⟨rfl,_,.of hO⟩,?_⟩
        refine ⟨_,_,_,j,rfl,rfl,hO,rfl,flat_ints _,⟨.int n,by rw [List.getElem?_map,e1]; rfl,by simp [eqV]⟩,fun j' z hj' hz=>?_,?_⟩
        · obtain ⟨m,hm,rfl⟩:=ints_at hz
          have : ¬ m=n:=fun y=>e2 j' hj' (by rw [<- y]; exact hm)
          simp [eqV,this]
        have es':splF (.sh f ns ms) g n=([254+(1 - g),(j:Int)],1 - g):=by
          show (spelF (sel g ns ms) (sel g ms ns) g (.int n)).getD _=_
          unfold spelF; dsimp only; rw [idx_none.mpr z]; dsimp only; rw [hj]; rfl
        have e255:(255:Int) - g=254+(1 - g):=by omega
        refine ⟨sz rfl,fun q H1 g1=>?_⟩
        dsimp only at g1
        rw [e255] at g1
        exact ⟨sz rfl,fun p2 H2 g2=>k p2 q H2 (g1.sm.trans g2.sm) g1.nw (by rw [es']; exact g2.sm _ _ g1.at_) (by rw [es']; exact g2.at_)⟩
      · have y : ¬ inV (.int n) ((sel g ms ns).map V.int)=true:=y
        rw [inV_ints] at y
        exact absurd (decide_eq_true hmO) y
theorem ok_wrd (M:Md):PyData.strOk (wrd M)=true:=by
  cases M with
  | ld=>exact ok_lead
  | pr h=>cases h with
    | true=>exact ok_high
    | false=>exact ok_low
  | sh ns ms=>exact ok_shift
  | tb es=>exact ok_table
  | br=>exact ok_bare
theorem not_shift {M:Md} (h : ∀ ns ms,M ≠ .sh ns ms):PyData.eqv (.str (wrd M)) (.str "shift")=false:=by
  cases M with
  | ld=>exact show PyData.eqv (.str "lead") (.str "shift")=false by decide +kernel
  | pr b=>cases b with
    | true=>exact show PyData.eqv (.str "high") (.str "shift")=false by decide +kernel
    | false=>exact show PyData.eqv (.str "low") (.str "shift")=false by decide +kernel
  | sh ns ms=>exact absurd rfl (h ns ms)
  | tb es=>exact show PyData.eqv (.str "table") (.str "shift")=false by decide +kernel
  | br=>exact show PyData.eqv (.str "bare") (.str "shift")=false by decide +kernel
def Ld3:Md->Bool
  | .ld=>true
  | .pr _=>true
  | _=>false
theorem in_three (M:Md):inV (.str (wrd M)) [.str "lead",.str "high",.str "low"]=Ld3 M:=by
  cases M with
  | ld=>exact show inV (.str "lead") [.str "lead",.str "high",.str "low"]=true by decide +kernel
  | pr h=>cases h with
    | true=>exact show inV (.str "high") [.str "lead",.str "high",.str "low"]=true by decide +kernel
    | false=>exact show inV (.str "low") [.str "lead",.str "high",.str "low"]=true by decide +kernel
  | sh ns ms=>exact show inV (.str "shift") [.str "lead",.str "high",.str "low"]=false by decide +kernel
  | tb es=>exact show inV (.str "table") [.str "lead",.str "high",.str "low"]=false by decide +kernel
  | br=>exact show inV (.str "bare") [.str "lead",.str "high",.str "low"]=false by decide +kernel
theorem ld3_in {M:Md} (h:Ld3 M=true) {D:Kt} (m:Mt M D) {n:Int} (s:Sg n):InT D n:=by
  cases M with
  | ld=>obtain rfl:D=.ld:=m; exact s
  | pr b=>obtain rfl:D=.pr b:=m; exact s
  | _=>cases h
def LkT:Md->Int->Prop
  | .sh ns ms,n=>n∉ns/\n∉ms
  | .tb es,n=>∀ e∈es,e.1≠n
  | _,_=>True
theorem inV_refs (n:Int) (qs:List Addr):inV (.int n) (qs.map V.ref)=false:=by
  unfold inV
  rw [List.any_eq_false]
  intro x hx
  obtain ⟨q,_,rfl⟩:=List.mem_map.mp hx
  simp [eqV]
theorem Mod.two {H:Hp} {p:Addr} {M:Md} (h:Mod H p M) : ∃ a b xs ys zs,H p=some (.tup [.str (wrd M),.ref a,.ref b])/\H a=some (.lst (xs.map V.int))/\H b=some (.lst ys)/\(∀ y∈ys,FlL H y)/\(∀ n:Int,inV (.int n) ys=decide (n∈zs))/\xs.length<=250/\zs.length<=250/\(∀ n:Int,n∉xs->n∉zs->LkT M n)/\(Ld3 M=false->∀ D,Mt M D->∀ n∈xs,InT D n)/\(∀ ns ms,M=.sh ns ms->xs=ns/\zs=ms/\ys=ms.map V.int):=by
  obtain ⟨a,b,hp,ct⟩:=h
  cases M with
  | ld=>exact ⟨a,b,[],[],[],hp,ct.1,ct.2,(fun _ h=>nomatch h),fun _=>rfl,by decide,by decide,fun _ _ _=>trivial,(fun h=>nomatch h),(fun _ _ h=>nomatch h)⟩
  | pr h=>exact ⟨a,b,[],[],[],hp,ct.1,ct.2,(fun _ h=>nomatch h),fun _=>rfl,by decide,by decide,fun _ _ _=>trivial,(fun h=>nomatch h),(fun _ _ h=>nomatch h)⟩
  | br=>exact ⟨a,b,[],[],[],hp,ct.1,ct.2,(fun _ h=>nomatch h),fun _=>rfl,by decide,by decide,fun _ _ _=>trivial,(fun _ _ _ _ h=>nomatch h),(fun _ _ h=>nomatch h)⟩
  | sh ns ms =>
    obtain ⟨ha,hb,okn,okm⟩:=ct
    refine ⟨a,b,ns,_,ms,hp,ha,hb,fun y hy=>?_,fun n=>inV_ints n ms,okn.2.2,okm.2.2,fun n h1 h2=>⟨h1,h2⟩,fun _ D mt n hn=>?_,fun ns' ms' e=>?_⟩
    · obtain ⟨m,_,rfl⟩:=List.mem_map.mp hy; exact .inl rfl
    · obtain ⟨f,rfl⟩:=mt; exact .inl hn
    · cases e; exact ⟨rfl,rfl,rfl⟩
  | tb es =>
    obtain ⟨ha,⟨qs,hb,rw1⟩,ok⟩:=ct
    refine ⟨a,b,es.map fun e=>e.1,_,[],hp,ha,hb,fun y hy=>?_,fun n=>inV_refs n qs,by rw [List.length_map]; have:=ok.l; omega,by decide,fun n h1 _ e he z=>h1 (List.mem_map.mpr ⟨e,he,z⟩),fun _ D mt n hn=>?_,(fun _ _ h=>nomatch h)⟩
    · obtain ⟨q,hq,rfl⟩:=List.mem_map.mp hy
      obtain ⟨j,hj⟩:=List.mem_iff_getElem?.mp hq
      obtain ⟨e,_,he⟩:=rw1.right hj
      exact .inr ⟨q,_,rfl,he⟩
    · obtain ⟨f,rfl⟩:=mt
      obtain ⟨e,he,en⟩:=List.mem_map.mp hn
      exact ⟨e,he,en⟩
def spTx (K:PySem.W.Frag):Sp:=fun vs H Q _=>∃ (p c:Addr) (M:Md) (cs:List Int),vs=[.ref p,.ref c]/\Mod H p M/\SqL K H c (cs.map V.int)/\cs.length<=100/\∀ q (ts:List Int) H',Same H H'->H' q=some (.lst (ts.map V.int))->ts.length<=100->(∀ D,Mt M D->∀ n∈ts,InT D n)->Q (.ref q) H'
theorem h_z_text (T:Txt w K mg t):Has P w K mg base "_law_text" 3 t.a_z_text t.f_z_text ["_law_model_here", "_law_cells"] (spTx K):=by
  refine ⟨T.g_z_text,T.F_z_text.kp,T.b_z_text,T.F_z_text.okQ sc_z_text (fun vs H Q E h=>by obtain ⟨p,c,M,cs,rfl,_⟩:=h; rfl) fun cdv A outer s H vs Q E hr h=>?_⟩
  obtain ⟨p,c,M,cs,rfl,mod,hc,lc,k⟩:=h
  have hu:=hr.units
  obtain ⟨a,b,xs,ys,zs,hp,ha,hb,fl,iy,lx,lz,lk,ld,sh⟩:=mod.two
  refine ⟨_,(q_pss_cons (q_ps_asg (q_vv 0) (q_pg_tupK (K:=K) rfl rfl (q_pgs_cons (q_pg_name (i:=2) sc_z_text.nd rfl (by first | exact Or.inl rfl | exact Or.inr rfl)) (q_pgs_cons (q_pg_name (i:=3) sc_z_text.nd rfl (by first | exact Or.inl rfl | exact Or.inr rfl)) (q_pgs_cons (q_pg_name (i:=4) sc_z_text.nd rfl (by first | exact Or.inl rfl | exact Or.inr rfl)) q_pgs_nil)))))
      (q_pss_cons (q_ps_if (q_mt_cmp (g_inK (K:=K) rfl) (q_vv 2) (q_me_tup (q_pa_const rfl)) (by with_unfolding_all rfl)) (q_pss_one (q_ps_ret (q_pe_comp rfl (CompScope.of (fns:=(defScope s_z_text).names) (N:=["_law_model_here", "_law_cells", "_law_word", "_law_first", "_law_second", "_law_some"]) (Nc:=["_law_cell"]) (nv:=1) (caps:=[]) rfl rfl (by decide +kernel)) (q_pi_listK (K:=K) rfl (q_vv 1)) (fun _ _ _ _=>(q_pg_name (i:=0) (show List.Nodup (["_law_cell"]:List Str) by decide +kernel) rfl (Or.inl rfl) (Or.inr rfl))) (fun _ _ _ _=>q_pts_nil) (fun _ _ _ _=>(q_cal (h_z_as_sign T) hr (q_pa_c (q_vv 0) q_pa_nil)))))) q_pss_nil)
      (q_pss_cons (q_ps_set (i:=5) sc_z_text.nd rfl (by first | exact Or.inl rfl | exact Or.inr rfl) (q_calTy (c_listK (K:=K) rfl) T.n_list PyProof.Rows.boot_list (q_pa_c (q_vv 3) q_pa_nil)))
      (q_pss_cons (q_ps_if (q_mt_cmp (g_eqK (K:=K) rfl hu) (q_vv 2) q_pe_str (nomark _)) (q_pss_one (q_ps_set (i:=5) sc_z_text.nd rfl (by first | exact Or.inl rfl | exact Or.inr rfl) (q_pe_op (g_addK (K:=K) rfl) (q_vv 3) (q_pe_comp rfl (CompScope.of (fns:=(defScope s_z_text).names) (N:=["_law_model_here", "_law_cells", "_law_word", "_law_first", "_law_second", "_law_some"]) (Nc:=["_law_sign", "_law_first"]) (nv:=1) (caps:=[3]) rfl rfl (by decide +kernel)) (q_pi_listK (K:=K) rfl (q_vv 4)) (fun _ _ _ _=>(q_pg_name (i:=0) (show List.Nodup (["_law_sign", "_law_first"]:List Str) by decide +kernel) rfl (Or.inl rfl) (Or.inr rfl))) (fun _ _ _ _=>(q_pts_one (q_mt_cmp (g_notinK (K:=K) rfl) (q_vv 0) (q_vv 1) (by with_unfolding_all rfl)))) (fun _ _ _ _=>(q_vv 0)))))) q_pss_nil)
      (q_pss_cons (q_ps_if (q_mt_cmp (g_eqK (K:=K) rfl hu) (q_vv 5) (q_me_lst q_pa_nil) (nomark _)) (q_pss_one (q_ps_ret (q_me_lst q_pa_nil))) q_pss_nil)
      (q_pss_one (q_ps_ret (q_pe_comp rfl (CompScope.of (fns:=(defScope s_z_text).names) (N:=["_law_model_here", "_law_cells", "_law_word", "_law_first", "_law_second", "_law_some"]) (Nc:=["_law_cell", "_law_some"]) (nv:=1) (caps:=[5]) rfl rfl (by decide +kernel)) (q_pi_listK (K:=K) rfl (q_vv 1)) (fun _ _ _ _=>(q_pg_name (i:=0) (show List.Nodup (["_law_cell", "_law_some"]:List Str) by decide +kernel) rfl (Or.inl rfl) (Or.inr rfl))) (fun _ _ _ _=>q_pts_nil) (fun _ _ _ _=>(q_pe_ix (g_ixK (K:=K) rfl) (q_vv 1) (q_pe_op g_mod (q_vv 0) (q_calB (c_lenK (K:=K) rfl) T.n_len PySem.boot_len (q_pa_c (q_vv 1) q_pa_nil))) (fun _ _=>rfl))))))))))),?_⟩
  refine ⟨p,_,rfl,.of hp,rfl,_,_,rfl,_,_,rfl,_,_,rfl,rfl,?_⟩
  refine ⟨sz rfl,fun p1 H1 g1=>?_⟩
  refine ⟨_,.inr g1.tup,rfl,rfl,?_⟩
  have hc1:=g1.sm.seq hc
  refine ite2 (fun z=>?_) (fun z=>?_)
  · have z:inV (.str (wrd M)) [.str "lead",.str "high",.str "low"]=true:=z
    rw [in_three] at z
    refine ⟨c,rfl,⟨_,hc1⟩,comp_list (K:=K) (a:=c) (xs:=cs.map V.int) (fun i ys H'=>Same H1 H'/\∃ ts:List Int,ys=ts.map V.int/\ts.length=i/\∀ n∈ts,Sg n) ⟨Same.refl _,[],rfl,rfl,(fun n h=>nomatch h)⟩ (fun i ys H' _ z=>⟨z.1.seq hc1,by obtain ⟨_,ts,rfl,l,_⟩:=z; rw [List.length_map]; omega⟩) (szl (by rw [List.length_map]; omega)) (fun i x ys H' N hx y hN=>?_) fun ys H' q H'' y g=>?_⟩
    · obtain ⟨s',ts,rfl,l,hs⟩:=y
      obtain ⟨m,hm,rfl⟩:=ints_at hx
      simp only [tTrue,if_true]
      refine ⟨m,rfl,fun n H2 s2 hn=>hN _ _ ⟨s'.trans s2,ts++[n],by rw [List.map_append]; rfl,by rw [List.length_append,l]; rfl,fun n' hn'=>?_⟩⟩
      rcases List.mem_append.mp hn' with y | y
      · exact hs n' y
      · rw [List.mem_singleton.mp y]; exact hn
    · obtain ⟨s',ts,rfl,l,hs⟩:=y
      rw [List.length_map] at l
      exact k q ts H'' (g1.sm.trans (s'.trans g.sm)) g.at_ (by omega) fun D m n hn=>ld3_in z m (hs n hn)
  have z : ¬ inV (.str (wrd M)) [.str "lead",.str "high",.str "low"]=true:=z
  rw [in_three,Bool.not_eq_true] at z
  refine ⟨_,.inl (.of (g1.sm _ _ ha)),fun p2 H2 g2=>?_⟩
  have s2:=g1.sm.trans g2.sm
  dsimp only [gName]
  refine seq_nx (fun σ' H'=>Same H H'/\∃ (ps:Addr) (ss:List Int),H' ps=some (.lst (ss.map V.int))/\ss.length<=500/\(∀ D,Mt M D->∀ n∈ss,InT D n)/\σ'=[some (.ref p),some (.ref c),some (.str (wrd M)),some (.ref a),some (.ref b),some (.ref ps)]) (fun nx hn=>?_) ?_
  · refine ⟨_,_,DataV.str _,DataV.str _,str_shaped (ok_wrd M),str_shaped ok_shift,?_⟩
    refine ite2 (fun y=>?_) (fun y=>?_)
    · have y:PyData.eqv (.str (wrd M)) (.str "shift")=true:=y
      obtain ⟨ns,ms,eM⟩ : ∃ ns ms,M=.sh ns ms:=by
        cases M with
        | sh ns ms=>exact ⟨ns,ms,rfl⟩
        | _=>rw [not_shift (fun _ _ h=>by cases h)] at y; cases y
      obtain ⟨rfl,rfl,rfl⟩:=sh ns ms eM
      have hb2:SqL K H2 b (zs.map V.int):=.of (s2 _ _ hb)
      refine ⟨b,rfl,⟨_,hb2⟩,comp_list (K:=K) (a:=b) (xs:=zs.map V.int) (fun i ys H'=>Same H2 H'/\∃ ts:List Int,ys=ts.map V.int/\ts.length<=i/\∀ n∈ts,n∈zs) ⟨Same.refl _,[],rfl,Nat.le_refl _,(fun n h=>nomatch h)⟩ (fun i ys H' _ z=>⟨z.1.seq hb2,by obtain ⟨_,ts,rfl,l,_⟩:=z; rw [List.length_map]; omega⟩) (szl (by rw [List.length_map]; omega)) (fun i x ys H' N hx y hN=>?_) fun ys H' q H'' y g=>?_⟩
      · obtain ⟨s',ts,rfl,l,hs⟩:=y
        obtain ⟨m,hm,rfl⟩:=ints_at hx
        refine ⟨_,.inl (.of (s' _ _ (s2 _ _ ha))),rfl,flat_ints _,?_⟩
        refine ite2 (fun _=>?_) (fun _=>?_)
        · refine hN _ _ ⟨s',ts++[m],by rw [List.map_append]; rfl,by rw [List.length_append]; show _+1<=_; omega,fun n' hn'=>?_⟩
          rcases List.mem_append.mp hn' with y | y
          · exact hs n' y
          · rw [List.mem_singleton.mp y]; exact List.mem_of_getElem? hm
        · exact hN _ _ ⟨s',ts,rfl,by omega,hs⟩
      · obtain ⟨s',ts,rfl,l,hs⟩:=y
        rw [List.length_map] at l
        have s3:=s2.trans (s'.trans g.sm)
        refine ⟨_,_,.of (s3 _ _ ha),g.lst,szl (by rw [List.length_map,List.length_map]; omega),fun p4 H4 g4=>?_⟩
        refine hn _ _ ⟨s3.trans g4.sm,p4,xs++ts,by rw [List.map_append]; exact g4.at_,by rw [List.length_append]; omega,fun D mt n hn=>?_,rfl⟩
        rw [eM] at mt
        obtain ⟨f,rfl⟩:=mt
        rcases List.mem_append.mp hn with y | y
        · exact .inl y
        · exact .inr (hs n y)
    · exact hn _ _ ⟨s2,p2,xs,g2.at_,by omega,ld z,rfl⟩
  · rintro σ' H3 ⟨s3,ps,ss,hps,lss,hss,rfl⟩
    refine ⟨sz rfl,fun p4 H4 g4=>?_⟩
    have hps4:=g4.sm _ _ hps
    refine eq_ints (ns:=ss) (ms:=[]) (.of hps4) g4.lst ?_
    refine ite2 (fun y=>?_) (fun y=>?_)
    · exact ⟨sz rfl,fun p5 H5 g5=>k p5 [] H5 (s3.trans (g4.sm.trans g5.sm)) g5.at_ (by decide) (fun _ _ _ h=>nomatch h)⟩
    · have y : ¬ ss=[]:=fun e=>y (decide_eq_true e)
      have pos:0 < ss.length:=by cases ss with | nil=>exact absurd rfl y | cons _ _=>exact Nat.succ_pos _
      have hc4:=(s3.trans g4.sm).seq hc
      refine ⟨c,rfl,⟨_,hc4⟩,comp_list (K:=K) (a:=c) (xs:=cs.map V.int) (fun i ys H'=>Same H4 H'/\∃ ts:List Int,ys=ts.map V.int/\ts.length=i/\∀ n∈ts,n∈ss) ⟨Same.refl _,[],rfl,rfl,(fun n h=>nomatch h)⟩ (fun i ys H' _ z=>⟨z.1.seq hc4,by obtain ⟨_,ts,rfl,l,_⟩:=z; rw [List.length_map]; omega⟩) (szl (by rw [List.length_map]; omega)) (fun i x ys H' N hx y hN=>?_) fun ys H' q H'' y g=>?_⟩
      · obtain ⟨s',ts,rfl,l,hs⟩:=y
        obtain ⟨m,hm,rfl⟩:=ints_at hx
        simp only [tTrue,if_true]
        refine ⟨_,.inl (.of (s' _ _ hps4)),?_⟩
        rw [List.length_map]
        refine ⟨by omega,?_⟩
        obtain ⟨v,hv,e1,_⟩:=atI_in (xs:=ss.map V.int) (i:=m%(ss.length:Int)) (Int.emod_nonneg _ (by omega)) (by rw [List.length_map]; exact Int.emod_lt_of_pos _ (by omega))
        obtain ⟨n,hn,rfl⟩:=List.mem_map.mp hv
        refine ⟨_,_,.inl (.of (s' _ _ hps4)),e1,?_⟩
        refine hN _ _ ⟨s',ts++[n],by rw [List.map_append]; rfl,by rw [List.length_append,l]; rfl,fun n' hn'=>?_⟩
        rcases List.mem_append.mp hn' with y | y
        · exact hs n' y
        · rw [List.mem_singleton.mp y]; exact hn
      · obtain ⟨s',ts,rfl,l,hs⟩:=y
        rw [List.length_map] at l
        exact k q ts H'' (s3.trans (g4.sm.trans (s'.trans g.sm))) g.at_ (by omega) fun D m n hn=>hss D m n (hs n hn)
def PcA (H:Hp) (p:Addr) (L:List (Addr × List Int)):Prop:=H p=some (.lst (L.map fun x=>V.ref x.1))/\∀ x∈L,x.1≠p/\H x.1=some (.lst (x.2.map V.int))
def flt (L:List (Addr × List Int)):List Int:=(L.map fun x=>x.2).flatten
theorem flt_snoc (L:List (Addr × List Int)) (q:Addr) (xs:List Int):flt (L++[(q,xs)])=flt L++xs:=by
  unfold flt
  rw [List.map_append,List.flatten_append]
  simp
theorem PcA.mono {H H':Hp} {p:Addr} {L:List (Addr × List Int)} (h:PcA H p L) (s:Same H H'):PcA H' p L:=⟨s _ _ h.1,fun x hx=>⟨(h.2 x hx).1,s _ _ (h.2 x hx).2⟩⟩
theorem PcA.more {H H1:Hp} {p q:Addr} {xs:List Int} {L:List (Addr × List Int)} (h:PcA H p L) (g:Gro H q (.lst (xs.map V.int)) H1):PcA (upd H1 p (.lst ((L.map fun x=>V.ref x.1)++[.ref q]))) p (L++[(q,xs)]):=by
  have nq:q≠p:=(ne_of_none h.1 g.nw).symm
  refine ⟨by rw [upd_same,List.map_append]; rfl,fun x hx'=>?_⟩
  rcases List.mem_append.mp hx' with z | z
  · obtain ⟨n,e⟩:=h.2 x z
    exact ⟨n,by rw [upd_ne n]; exact g.sm _ _ e⟩
  · rw [List.mem_singleton.mp z]
    exact ⟨nq,by rw [upd_ne nq]; exact g.at_⟩
theorem fr_snoc {H:Hp} {L:List (Addr × List Int)} {q:Addr} {xs:List Int} (h : ∀ x∈L,H x.1=none) (n:H q=none) : ∀ x∈L++[(q,xs)],H x.1=none:=fun x hx=>by
  rcases List.mem_append.mp hx with z | z
  · exact h x z
  · rw [List.mem_singleton.mp z]; exact n
def spPc (K:PySem.W.Frag):Sp:=fun vs H Q _=>∃ (a:Addr) (c:Int) (ts:List Int),vs=[.ref a,.int c]/\SqL K H a (ts.map V.int)/\ts.length<=1000/\∀ p (L:List (Addr × List Int)) H',Same H H'->H p=none->PcA H' p L->(∀ x∈L,H x.1=none)->flt L=ts->L.length<=2000->Q (.ref p) H'
theorem h_z_pieces (T:Txt w K mg t):Has P w K mg base "_law_pieces" 2 t.a_z_pieces t.f_z_pieces ["_law_row", "_law_cell"] (spPc K):=by
  refine ⟨T.g_z_pieces,T.F_z_pieces.kp,T.b_z_pieces,T.F_z_pieces.okQ sc_z_pieces (fun vs H Q E h=>by obtain ⟨a,c,ts,rfl,_⟩:=h; rfl) fun cdv A outer s H vs Q E hr h=>?_⟩
  obtain ⟨a,c,ts,rfl,ha,lt,k⟩:=h
  have hu:=hr.units
  refine ⟨_,(q_pss_cons (q_ps_set (i:=2) sc_z_pieces.nd rfl (by first | exact Or.inl rfl | exact Or.inr rfl) (q_me_lst q_pa_nil))
      (q_pss_cons (q_ps_set (i:=3) sc_z_pieces.nd rfl (by first | exact Or.inl rfl | exact Or.inr rfl) q_pe_int)
      (q_pss_cons (q_ps_set (i:=4) sc_z_pieces.nd rfl (by first | exact Or.inl rfl | exact Or.inr rfl) (q_vv 1))
      (q_pss_cons (q_ps_while PassesOwn.never (q_mt_cmp g_lt (q_vv 3) (q_calB (c_lenK (K:=K) rfl) T.n_len PySem.boot_len (q_pa_c (q_vv 0) q_pa_nil)) (nomark _)) (q_pss_cons (q_ps_set (i:=4) sc_z_pieces.nd rfl (by first | exact Or.inl rfl | exact Or.inr rfl) (q_cal (h_z_mixed T) hr (q_pa_c (q_vv 4) (q_pa_c (q_vv 3) q_pa_nil))))
      (q_pss_cons (q_ps_set (i:=5) sc_z_pieces.nd rfl (by first | exact Or.inl rfl | exact Or.inr rfl) (q_pe_ix (g_ixK (K:=K) rfl) (q_me_lst (q_pa_c (q_calB (c_lenK (K:=K) rfl) T.n_len PySem.boot_len (q_pa_c (q_vv 0) q_pa_nil)) (q_pa_c q_pe_int (q_pa_c (q_pe_op (g_addK (K:=K) rfl) q_pe_int (q_me_md (q_me_fd (q_vv 4)))) (q_pa_c (q_pe_op (g_addK (K:=K) rfl) q_pe_int (q_me_md (q_me_fd (q_vv 4)))) q_pa_nil))))) (q_me_md (q_vv 1)) (fun _ _=>rfl)))
      (q_pss_cons (q_ps_if (q_mt_cmp (g_eqK (K:=K) rfl hu) (q_me_md (q_vv 4)) q_pe_int (nomark _)) (q_pss_one (q_ps_expr (q_pe_bmK (K:=K) rfl PySem.F.plainAttrs_list PySem.F.slot_list_append PySem.F.type_list_append mg_append (q_vv 2) (q_pa_c (q_me_lst q_pa_nil) q_pa_nil)))) q_pss_nil)
      (q_pss_cons (q_ps_expr (q_pe_bmK (K:=K) rfl PySem.F.plainAttrs_list PySem.F.slot_list_append PySem.F.type_list_append mg_append (q_vv 2) (q_pa_c (q_pe_slice (g_slK (K:=K) rfl) (q_vv 0) (q_po_some (q_vv 3)) (q_po_some (q_pe_op (g_addK (K:=K) rfl) (q_vv 3) (q_vv 5)))) q_pa_nil)))
      (q_pss_one (q_ps_set (i:=3) sc_z_pieces.nd rfl (by first | exact Or.inl rfl | exact Or.inr rfl) (q_pe_op (g_addK (K:=K) rfl) (q_vv 3) (q_vv 5)))))))))
      (q_pss_one (q_ps_ret (q_vv 2))))))),?_⟩
  refine ⟨sz rfl,fun p H1 g1=>?_⟩
  refine ⟨fun m σ H'=>Same H H'/\∃ (n at_:Nat) (num:Int) (L:List (Addr × List Int)) (v5:Option V),PcA H' p L/\(∀ x∈L,H x.1=none)/\flt L=ts.take at_/\L.length<=2*n/\n<=at_/\n<=ts.length/\m=ts.length - at_/\σ=[some (.ref a),some (.int c),some (.ref p),some (.int (at_:Int)),some (.int num),v5],⟨_,g1.sm,0,0,c,[],_,⟨g1.at_,(fun _ h=>nomatch h)⟩,(fun _ h=>nomatch h),rfl,Nat.le_refl _,Nat.le_refl _,Nat.zero_le _,rfl,rfl⟩,?_⟩
  rintro m σ H2 ⟨s2,n,at_,num,L,v5,hP,fr,fl,l1,l2,l3,rfl,rfl⟩
  have ha2:=s2.seq ha
  refine ⟨_,.inl ha2,?_⟩
  refine ite2 (fun z=>?_) (fun z=>?_)
  · have z:(at_:Int) < ((ts.map V.int).length:Int):=of_decide_eq_true z
    rw [List.length_map] at z
    refine ⟨fun σ' H'=>Same H H'/\∃ (n at':Nat) (num:Int) (L:List (Addr × List Int)) (v5:Option V),at_ < at'/\PcA H' p L/\(∀ x∈L,H x.1=none)/\flt L=ts.take at'/\L.length<=2*n/\n<=at'/\n<=ts.length/\σ'=[some (.ref a),some (.int c),some (.ref p),some (.int (at':Int)),some (.int num),v5],?_,?_⟩
    · rintro σ' H' ⟨s',n',at',num',L',v5',lt',hP',fr',fl',a1,a2,a3,rfl⟩
      exact ⟨ts.length - at',by omega,s',n',at',num',L',v5',hP',fr',fl',a1,a2,a3,rfl,rfl⟩
    refine ⟨_,_,rfl,by omega,by omega,fun num' n0 n1=>?_⟩
    refine ⟨_,.inl ha2,?_⟩
    refine ⟨sz rfl,fun p3 H3 g3=>?_⟩
    obtain ⟨k',e,k1,k2⟩ : ∃ k':Nat,atI [V.int ((ts.map V.int).length:Int),.int 1,.int (1+num' / 7%3),.int (1+num' / 7%9)] (c%4)=some (.int (k':Int))/\1<=k'/\k'<=1000:=by
      rcases (show c%4=0\/c%4=1\/c%4=2\/c%4=3 by omega) with e | e | e | e <;> rw [e]
      · exact ⟨ts.length,by rw [List.length_map]; rfl,by omega,by omega⟩
      · exact ⟨1,rfl,by omega,by omega⟩
      · refine ⟨(1+num' / 7%3).toNat,?_,by omega,by omega⟩
        rw [Int.toNat_of_nonneg (by omega)]; rfl
      · refine ⟨(1+num' / 7%9).toNat,?_,by omega,by omega⟩
        rw [Int.toNat_of_nonneg (by omega)]; rfl
    refine ⟨_,_,.inl g3.lst,e,?_⟩
    have hP3:=hP.mono g3.sm
    have s3:=s2.trans g3.sm
    dsimp only [gName]
    refine seq_nx (fun σ' H'=>Same H H'/\∃ L':List (Addr × List Int),PcA H' p L'/\(∀ x∈L',H x.1=none)/\flt L'=ts.take at_/\L'.length<=L.length+1/\σ'=[some (.ref a),some (.int c),some (.ref p),some (.int (at_:Int)),some (.int num'),some (.int (k':Int))]) (fun nx hn=>?_) ?_
    · refine ite2 (fun _=>?_) (fun _=>?_)
      · refine ⟨.inl ⟨rfl,_,.of hP3.1⟩,?_⟩
        refine ⟨sz rfl,fun p4 H4 g4=>?_⟩
        refine ⟨_,g4.sm _ _ hP3.1,szlt (by rw [List.length_map]; omega),?_⟩
        exact hn _ _ ⟨(s3.trans g4.sm).put g1.nw,L++[(p4,[])],hP3.more (xs:=[]) g4,fr_snoc fr (s3.free g4.nw),by rw [flt_snoc,List.append_nil]; exact fl,by rw [List.length_append]; exact Nat.le_refl _,rfl⟩
      · exact hn _ _ ⟨s3,L,hP3,fr,fl,by omega,rfl⟩
    · rintro σ' H5 ⟨s5,L',hP5,fr5,fl5,l5,rfl⟩
      refine ⟨.inl ⟨rfl,_,.of hP5.1⟩,?_⟩
      refine ⟨_,rfl,_,rfl,_,s5.seq ha,fun q H6 g6=>?_⟩
      have e6:cutV (ts.map V.int) (some (at_:Int)) (some ((at_:Int)+(k':Int)))=((ts.drop at_).take k').map V.int:=by
        rw [cutV_ints]
        exact congrArg _ (cutL_mid ts at_ k')
      rw [e6] at g6
      refine ⟨_,g6.sm _ _ hP5.1,szlt (by rw [List.length_map]; omega),?_⟩
      refine ⟨(s5.trans g6.sm).put g1.nw,n+1,at_+k',num',L'++[(q,(ts.drop at_).take k')],some (.int (k':Int)),by omega,hP5.more g6,fr_snoc fr5 (s5.free g6.nw),by rw [flt_snoc,fl5,List.take_add],by rw [List.length_append]; show _+1<=_; omega,by omega,by omega,?_⟩
      rw [Int.natCast_add]
      rfl
  · have z : ¬ (at_:Int) < ((ts.map V.int).length:Int):=fun y=>z (decide_eq_true y)
    rw [List.length_map] at z
    exact k p L H2 s2 g1.nw hP fr (by rw [fl,List.take_of_length_le (by omega)]) (by omega)
def spSt (t:Adr):Sp:=fun vs H Q _=>∃ (x dx o b mt:Addr) (pl g c:Int) (e:Bool) (xs:List V),vs=[.ref x]/\H x=some (RdO t dx o b mt pl g c e)/\H b=some (.lst xs)/\H mt=some (.lst [])/\∀ p pf H',Same H H'->H' pf=some (.lst [])->H' p=some (.lst [.int g,.int (xs.length:Int),.int c,.ref pf,.bl e])->Q (.ref p) H'
theorem h_z_state (T:Txt w K mg t):Has P w K mg base "_law_state" 2 t.a_z_state t.f_z_state ["_law_reader"] (spSt t):=by
  refine ⟨T.g_z_state,T.F_z_state.kp,T.b_z_state,T.F_z_state.okQ sc_z_state (fun vs H Q E h=>by obtain ⟨x,dx,o,b,mt,pl,g,c,e,xs,rfl,_⟩:=h; rfl) fun cdv A outer s H vs Q E hr h=>?_⟩
  obtain ⟨x,dx,o,b,mt,pl,g,c,e,xs,rfl,hx,hb,hm,k⟩:=h
  have hu:=hr.units
  refine ⟨_,(q_pss_cons (q_ps_set (i:=1) sc_z_state.nd rfl (by first | exact Or.inl rfl | exact Or.inr rfl) (q_me_lst (q_pa_c (q_meth0 (h_Reader_page T) hr (q_vv 0)) (q_pa_c (q_meth0 (h_Reader_held T) hr (q_vv 0)) (q_pa_c (q_meth0 (h_Reader_taken T) hr (q_vv 0)) q_pa_nil)))))
      (q_pss_cons (q_ps_if (q_pt_not (q_mt_val (q_calB (c_allK (K:=K) rfl rfl) T.n_all PyProof.Rows.boot_all (q_pa_c (q_pe_comp rfl (CompScope.of (fns:=(defScope s_z_state).names) (N:=["_law_reader", "_law_found"]) (Nc:=["_law_number"]) (nv:=1) (caps:=[]) rfl rfl (by decide +kernel)) (q_pi_listK (K:=K) rfl (q_vv 1)) (fun _ _ _ _=>(q_pg_name (i:=0) (show List.Nodup (["_law_number"]:List Str) by decide +kernel) rfl (Or.inl rfl) (Or.inr rfl))) (fun _ _ _ _=>q_pts_nil) (fun _ _ _ _=>(q_cal (h_z_is_number T) hr (q_pa_c (q_vv 0) q_pa_nil)))) q_pa_nil)))) (q_pss_one (q_ps_ret q_pe_non)) q_pss_nil)
      (q_pss_cons (q_ps_if (q_PW_pt (q_pw_or (q_pt_not (q_mt_val (q_calB (c_instK (K:=K) rfl) T.n_isinstance PyProof.Rows.boot_isinstance (q_pa_c (q_meth0 (h_Reader_faults T) hr (q_vv 0)) (q_pa_c (q_bty rfl T.n_list PyProof.Rows.boot_list) q_pa_nil))))) (q_pw_or1 (q_pt_not (q_mt_val (q_calB (c_instK (K:=K) rfl) T.n_isinstance PyProof.Rows.boot_isinstance (q_pa_c (q_meth0 (h_Reader_over T) hr (q_vv 0)) (q_pa_c (q_bty rfl T.n_bool PyProof.Rows.boot_bool) q_pa_nil)))))))) (q_pss_one (q_ps_ret q_pe_non)) q_pss_nil)
      (q_pss_one (q_ps_ret (q_pe_op (g_addK (K:=K) rfl) (q_vv 1) (q_me_lst (q_pa_c (q_meth0 (h_Reader_faults T) hr (q_vv 0)) (q_pa_c (q_meth0 (h_Reader_over T) hr (q_vv 0)) q_pa_nil))))))))),?_⟩
  refine ⟨x,dx,_,rfl,hx,rfl,x,dx,o,b,mt,pl,g,c,e,rfl,hx,?_⟩
  refine ⟨x,dx,_,rfl,hx,rfl,x,dx,o,b,mt,pl,g,c,e,xs,rfl,hx,hb,?_⟩
  refine ⟨x,dx,_,rfl,hx,rfl,x,dx,o,b,mt,pl,g,c,e,rfl,hx,?_⟩
  refine ⟨sz rfl,fun p1 H1 g1=>?_⟩
  have h1:SqL K H1 p1 (([g,(xs.length:Int),c]:List Int).map V.int):=g1.lst
  refine ⟨p1,rfl,⟨_,h1⟩,comp_to ((([g,(xs.length:Int),c]:List Int).map fun _=>true).map V.bl) (by simp) h1 (szl (by show 3<=_; omega)) (fun i x y H4 N hx hy s4 hN=>?_) fun p3 H3 g3=>?_⟩
  · obtain ⟨o,ho,rfl⟩:=ints_at hx
    rw [List.getElem?_map,List.getElem?_map,ho] at hy
    cases hy
    exact ⟨_,rfl,hN _ (Same.refl _)⟩
  refine ⟨_,g3.lst,?_⟩
  refine ite2 (fun z=>absurd z (by simp)) (fun _=>?_)
  have s3:=g1.sm.trans g3.sm
  refine ⟨x,dx,_,rfl,s3 _ _ hx,rfl,x,dx,o,b,mt,pl,g,c,e,rfl,s3 _ _ hx,s3 _ _ hm,fun p4 H4 g4=>?_⟩
  refine ⟨_,_,.lst g4.at_,by with_unfolding_all rfl,?_⟩
  refine iteF ?_
  have s4:=s3.trans g4.sm
  refine ⟨x,dx,_,rfl,s4 _ _ hx,rfl,x,dx,o,b,mt,pl,g,c,e,rfl,s4 _ _ hx,?_⟩
  refine ⟨_,_,.bl _,by with_unfolding_all rfl,?_⟩
  refine ite2 (fun z=>absurd z (by simp)) (fun _=>?_)
  refine ⟨x,dx,_,rfl,s4 _ _ hx,rfl,x,dx,o,b,mt,pl,g,c,e,rfl,s4 _ _ hx,s4 _ _ hm,fun p5 H5 g5=>?_⟩
  have s5:=s4.trans g5.sm
  refine ⟨x,dx,_,rfl,s5 _ _ hx,rfl,x,dx,o,b,mt,pl,g,c,e,rfl,s5 _ _ hx,?_⟩
  refine ⟨sz rfl,fun p6 H6 g6=>?_⟩
  refine ⟨_,_,.of (g6.sm _ _ (g5.sm _ _ (g4.sm _ _ (g3.sm _ _ g1.at_)))),g6.lst,sz rfl,fun p7 H7 g7=>?_⟩
  exact k p7 p5 H7 (s5.trans (g6.sm.trans g7.sm)) (g7.sm _ _ (g6.sm _ _ g5.at_)) g7.at_
def BhE (H:Hp) (ps:List Addr) (D:Kt) (ts:List Int):Prop:=∀ N q,ps[N]? = some q->∃ k m:Nat,Stt D ts N k m/\H q=some (.tup [.int (k:Int),.int (wrF D 0 (ts.take k)).2,.int (m:Int)])
theorem BhE.snoc {H H1:Hp} {ps:List Addr} {D:Kt} {ts:List Int} {pf q:Addr} {k m:Nat} {xs:List V} (h:BhE H ps D ts) (hpf:H pf=some (.lst xs)) (g:Gro H q (.tup [.int (k:Int),.int (wrF D 0 (ts.take k)).2,.int (m:Int)]) H1) (st:Stt D ts ps.length k m) {ys:List V}:BhE (upd H1 pf (.lst ys)) (ps++[q]) D ts:=by
  have nq:q≠pf:=(ne_of_none hpf g.nw).symm
  intro N a ha
  by_cases c:N < ps.length
  · rw [List.getElem?_append_left c] at ha
    obtain ⟨k',m',st',e⟩:=h N a ha
    refine ⟨k',m',st',?_⟩
    rw [upd_ne (ne_kind e hpf (by intro z; cases z))]
    exact g.sm _ _ e
  · have e:N=ps.length:=by
      have:=(List.getElem?_eq_some_iff.mp ha).1
      rw [List.length_append] at this
      simp at this
      omega
    rw [e,List.getElem?_append_right (Nat.le_refl _),Nat.sub_self] at ha
    cases ha
    exact ⟨k,m,by rw [e]; exact st,by rw [upd_ne nq]; exact g.at_⟩
theorem BhE.mono {H H':Hp} {ps:List Addr} {D:Kt} {ts:List Int} (h:BhE H ps D ts) (s:Same H H'):BhE H' ps D ts:=fun N q hq=>by
  obtain ⟨k,m,st,e⟩:=h N q hq
  exact ⟨k,m,st,s _ _ e⟩
theorem stt_in {D:Kt} {ts:List Int} {i m:Nat} (hi:i < ts.length) (hm:m < (rk D ts i).length):Stt D ts ((wrF D 0 (ts.take i)).1.length+m) i m:=by
  obtain ⟨rest,e⟩:=wr_split (D:=D) (List.getElem?_eq_getElem hi)
  refine ⟨by omega,?_,?_,by omega,fun _=>hm⟩
  · rw [e,List.append_assoc,List.take_length_add_append,List.take_append_of_le_length (by omega)]
  · rw [e,List.length_append,List.length_append]; omega
theorem stt_at {D:Kt} {ts:List Int} (pos : ∀ j,j < ts.length->0 < (rk D ts j).length) {i:Nat} (hi:i<=ts.length):Stt D ts (wrF D 0 (ts.take i)).1.length i 0:=by
  rcases Nat.lt_or_ge i ts.length with z | z
  · exact stt_in z (pos i z)
  · obtain rfl:i=ts.length:=by omega
    rw [List.take_length]
    exact ⟨Nat.le_refl _,by rw [List.take_length,List.take_length,List.take_zero,List.append_nil],Nat.le_refl _,(fun _=>rfl),fun h=>absurd h (Nat.lt_irrefl _)⟩
def spBh (t:Adr):Sp:=fun vs H Q _=>∃ (p a:Addr) (M:Md) (D:Kt) (ts:List Int),vs=[.ref p,.ref a]/\Mod H p M/\Mt M D/\Kok D/\H a=some (.lst (ts.map V.int))/\ts.length<=100/\(∀ n∈ts,InT D n) /\
  ∀ (pb:Addr) (ps:List Addr) H',Same H H'->H' pb=some (.lst (ps.map V.ref))->BhE H' ps D ts->ps.length=(wrF D 0 ts).1.length+1->Q (.ref pb) H'
theorem h_z_behind (T:Txt w K mg t):Has P w K mg base "_law_behind" 3 t.a_z_behind t.f_z_behind ["_law_model_here", "_law_text_here"] (spBh t):=by
  refine ⟨T.g_z_behind,T.F_z_behind.kp,T.b_z_behind,T.F_z_behind.okQ sc_z_behind (fun vs H Q E h=>by obtain ⟨p,a,M,D,ts,rfl,_⟩:=h; rfl) fun cdv A outer s H vs Q E hr h=>?_⟩
  obtain ⟨p,a,M,D,ts,rfl,mod,mt,ok,ha,lt,hin,k⟩:=h
  have hu:=hr.units
  have pos : ∀ j,j < ts.length->0 < (rk D ts j).length:=fun j hj=>rk_pos ok hin hj
  refine ⟨_,(q_pss_cons (q_ps_set (i:=2) sc_z_behind.nd rfl (by first | exact Or.inl rfl | exact Or.inr rfl) (q_me_lst (q_pa_c (q_me_tup (q_pa_const rfl)) q_pa_nil)))
      (q_pss_cons (q_ps_for PassesOwn.never rfl (q_pi_listK (K:=K) rfl (q_vv 1)) (q_pg_name (i:=3) sc_z_behind.nd rfl (by first | exact Or.inl rfl | exact Or.inr rfl)) (q_pss_cons (q_ps_asg (q_pe_ix (g_ixK (K:=K) rfl) (q_vv 2) (q_pe_un un_negM q_pe_int) (fun _ _=>rfl)) (q_pg_tupK (K:=K) rfl rfl (q_pgs_cons (q_pg_name (i:=4) sc_z_behind.nd rfl (by first | exact Or.inl rfl | exact Or.inr rfl)) (q_pgs_cons (q_pg_name (i:=5) sc_z_behind.nd rfl (by first | exact Or.inl rfl | exact Or.inr rfl)) (q_pgs_cons (q_pg_name (i:=6) sc_z_behind.nd rfl (by first | exact Or.inl rfl | exact Or.inr rfl)) q_pgs_nil)))))
      (q_pss_cons (q_ps_asg (q_cal (h_z_spell T) hr (q_pa_c (q_vv 0) (q_pa_c (q_vv 3) (q_pa_c (q_vv 5) q_pa_nil)))) (q_pg_tupK (K:=K) rfl rfl (q_pgs_cons (q_pg_name (i:=7) sc_z_behind.nd rfl (by first | exact Or.inl rfl | exact Or.inr rfl)) (q_pgs_cons (q_pg_name (i:=8) sc_z_behind.nd rfl (by first | exact Or.inl rfl | exact Or.inr rfl)) q_pgs_nil))))
      (q_pss_cons (q_ps_for PassesOwn.never rfl (q_pi_range2 rfl T.n_range (q_pa_c q_pe_int (q_pa_c (q_calB (c_lenK (K:=K) rfl) T.n_len PySem.boot_len (q_pa_c (q_vv 7) q_pa_nil)) q_pa_nil))) (q_pg_name (i:=9) sc_z_behind.nd rfl (by first | exact Or.inl rfl | exact Or.inr rfl)) (q_pss_one (q_ps_expr (q_pe_bmK (K:=K) rfl PySem.F.plainAttrs_list PySem.F.slot_list_append PySem.F.type_list_append mg_append (q_vv 2) (q_pa_c (q_me_tup (q_pa_c (q_vv 4) (q_pa_c (q_vv 5) (q_pa_c (q_vv 9) q_pa_nil)))) q_pa_nil)))))
      (q_pss_one (q_ps_expr (q_pe_bmK (K:=K) rfl PySem.F.plainAttrs_list PySem.F.slot_list_append PySem.F.type_list_append mg_append (q_vv 2) (q_pa_c (q_me_tup (q_pa_c (q_pe_op (g_addK (K:=K) rfl) (q_vv 4) q_pe_int) (q_pa_c (q_vv 8) (q_pa_c q_pe_int q_pa_nil)))) q_pa_nil))))))))
      (q_pss_one (q_ps_ret (q_vv 2))))),?_⟩
  refine ⟨sz rfl,fun p0 H0 g0=>?_⟩
  refine ⟨sz rfl,fun pf H1 g1=>?_⟩
  have s1:=g0.sm.trans g1.sm
  have npf:H pf=none:=g0.sm.free g1.nw
  refine ⟨a,rfl,⟨_,.of (s1 _ _ ha)⟩,for_list (K:=K) (a:=a) (xs:=ts.map V.int) (fun i σ H'=>Same H H'/\∃ (ps:List Addr) (v3 v4 v5 v6 v7 v8 v9:Option V),ps.length=(wrF D 0 (ts.take i)).1.length+1/\H' pf=some (.lst (ps.map V.ref))/\BhE H' ps D ts/\σ=[some (.ref p),some (.ref a),some (.ref pf),v3,v4,v5,v6,v7,v8,v9])
    ⟨s1,[p0],_,_,_,_,_,_,_,rfl,g1.at_,(fun N q hq=>?_),rfl⟩ (fun i σ H' _ z=>z.1.seq (.of ha)) ?_ ?_⟩
  · cases N with
    | zero =>
      cases hq
      exact ⟨0,0,.zero pos,g1.sm _ _ g0.at_⟩
    | succ N=>cases hq
  · rintro i x σ H3 hx ⟨s3,ps,v3,v4,v5,v6,v7,v8,v9,lp,hpf,bh,rfl⟩
    obtain ⟨n,hn,rfl⟩:=ints_at hx
    have hi:i < ts.length:=(List.getElem?_eq_some_iff.mp hn).1
    obtain ⟨pgi,li⟩:=wr_ok ok (pgk0 D) i ts (all_at hin i)
    obtain ⟨r,g',_,ef,_,l6⟩:=spl_in ok pgi (hin n (List.mem_of_getElem? hn))
    have erk:=rk_eq (D:=D) hn
    have nxt:=wr_next (D:=D) hn
    have wls:=wl_succ (D:=D) hi
    obtain ⟨ql,hql⟩ : ∃ q,ps[(wrF D 0 (ts.take i)).1.length]? = some q:=⟨_,List.getElem?_eq_getElem (by omega)⟩
    obtain ⟨k',m',st',eq⟩:=bh _ _ hql
    obtain ⟨rfl,rfl⟩:=st'.uniq (stt_at pos (Nat.le_of_lt hi))
    obtain ⟨ys,ey⟩ : ∃ ys,ps=ys++[ql]:=by
      refine ⟨ps.take (wrF D 0 (ts.take k')).1.length,?_⟩
      rw [<- take_snoc hql,List.take_of_length_le (by omega)]
    have el:atI (ps.map V.ref) (-1)=some (.ref ql):=by rw [ey,List.map_append]; exact atI_last _ _
    refine ⟨_,_,.inl (.of hpf),el,?_⟩
    refine ⟨ql,_,rfl,.of eq,rfl,_,_,rfl,_,_,rfl,_,_,rfl,rfl,?_⟩
    refine ⟨p,M,D,n,_,rfl,mod.mono s3,mt,hin n (List.mem_of_getElem? hn),pgi,fun pt q H4 s4 fq hq hp=>?_⟩
    refine ⟨pt,_,rfl,.of hp,rfl,_,_,rfl,_,_,rfl,rfl,?_⟩
    rw [<- erk] at hq
    have rl:(rk D ts k').length<=6:=by rw [erk,ef]; exact l6
    have rp:=pos k' hi
    refine ⟨_,.inl (.of hq),?_⟩
    refine ⟨1,_,rfl,⟨by omega,by omega,by rw [List.length_map]; omega,by rw [List.length_map]; omega⟩,?_⟩
    have hN:((((rk D ts k').map V.int).length:Int) - 1).toNat=(rk D ts k').length - 1:=by rw [List.length_map]; omega
    rw [hN]
    refine for_range (lo:=1) (n:=(rk D ts k').length - 1) (fun j σ H'=>Same H H'/\∃ (ps:List Addr) (v9:Option V),ps.length=(wrF D 0 (ts.take k')).1.length+1+j/\H' pf=some (.lst (ps.map V.ref))/\BhE H' ps D ts/\σ=[some (.ref p),some (.ref a),some (.ref pf),some (.int n),some (.int (k':Int)),some (.int (wrF D 0 (ts.take k')).2),some (.int ((0:Nat):Int)),some (.ref q),some (.int (splF D (wrF D 0 (ts.take k')).2 n).2),v9])
      ⟨s3.trans s4,ps,_,lp,s4 _ _ hpf,bh.mono s4,rfl⟩ ?_ ?_
    · rintro j σ H5 hj ⟨s5,ps,v9,lp,hpf,bh,rfl⟩
      refine ⟨.inl ⟨rfl,_,.of hpf⟩,?_⟩
      refine ⟨sz rfl,fun p6 H6 g6=>?_⟩
      refine ⟨_,g6.sm _ _ hpf,szlt (by rw [List.length_map]; omega),?_⟩
      have ec:(1:Int)+(j:Int)=((1+j:Nat):Int):=by rw [Int.natCast_add]; rfl
      rw [ec] at g6
      refine ⟨(s5.trans g6.sm).put npf,ps++[p6],_,by rw [List.length_append,lp]; rfl,by rw [upd_same,List.map_append]; rfl,bh.snoc hpf g6 ?_,rfl⟩
      rw [lp,Nat.add_assoc]
      exact stt_in hi (by omega)
    · rintro σ H5 ⟨s5,ps,v9,lp,hpf,bh,rfl⟩
      refine ⟨.inl ⟨rfl,_,.of hpf⟩,?_⟩
      refine ⟨sz rfl,fun p6 H6 g6=>?_⟩
      refine ⟨_,g6.sm _ _ hpf,szlt (by rw [List.length_map]; omega),?_⟩
      have ec:(k':Int)+1=((k'+1:Nat):Int):=rfl
      have ex:(splF D (wrF D 0 (ts.take k')).2 n).2=(wrF D 0 (ts.take (k'+1))).2:=by rw [nxt]
      have e0:(0:Int)=((0:Nat):Int):=rfl
      rw [ec,ex,e0] at g6
      have lp':ps.length=(wrF D 0 (ts.take (k'+1))).1.length:=by rw [lp,wls]; omega
      refine ⟨(s5.trans g6.sm).put npf,ps++[p6],_,_,_,_,_,_,_,by rw [List.length_append,lp']; rfl,by rw [upd_same,List.map_append]; rfl,bh.snoc hpf g6 ?_,rfl⟩
      rw [lp']
      exact stt_at pos hi
  · rintro σ H3 ⟨s3,ps,v3,v4,v5,v6,v7,v8,v9,lp,hpf,bh,rfl⟩
    rw [List.length_map,List.take_length] at lp
    exact k pf ps H3 s3 hpf bh lp
def wo (H:Hp) (X:List Addr):Hp:=fun a=>if a∈X then none else H a
theorem wo_in {H:Hp} {X:List Addr} {a:Addr} (h:a∈X):wo H X a=none:=if_pos h
theorem wo_out {H:Hp} {X:List Addr} {a:Addr} {u:HO} (h:a∉X) (e:H a=some u):wo H X a=some u:=(if_neg h).trans e
theorem wo_same {H:Hp} {X:List Addr}:Same (wo H X) H:=fun a u e=>by
  unfold wo at e
  split at e
  · cases e
  · exact e
theorem Same.wo {Hb H:Hp} {X:List Addr} (s:Same Hb H) (h : ∀ a∈X,Hb a=none):Same Hb (wo H X):=fun a u e=>wo_out (fun z=>by rw [h a z] at e; cases e) (s a u e)
def spFd (K:PySem.W.Frag) (t:Adr):Sp:=fun vs H Q _=>∃ (Hb:Hp) (x dx o b mt a pt pb tl:Addr) (D:Kt) (ts ws:List Int) (ps L:List Addr) (pl:Int) (N k m:Nat),vs=[.ref x,.ref a,.ref pt,.ref pb,.int (N:Int),.ref tl]/\TN t Hb o D/\Same Hb H/\(∀ c∈[x,b,mt,tl],Hb c=none)/\b≠mt/\b≠tl/\mt≠tl/\(∀ n∈ts,InT D n)/\ts.length<=100/\Hb a=some (.lst (ws.map V.int))/\ws.length<=1000/\Hb pt=some (.lst (ts.map V.int))/\Hb pb=some (.lst (ps.map V.ref))/\BhE Hb ps D ts/\ps.length=(wrF D 0 ts).1.length+1/\N+ws.length<=(wrF D 0 ts).1.length/\(∀ i,i < ws.length->ws[i]? = (wrF D 0 ts).1[N+i]?)/\Rd t H x dx o b mt pl D ts N k m/\Stt D ts N k m/\H tl=some (.lst (L.map V.ref))/\L.length<=10000 /\
  ∀ (q a' c' b':Addr) (ns:List Int) (k' m':Nat) H',Same Hb H'->Hb b'=none->b'≠mt->b'≠tl->Rd t H' x dx o b' mt pl D ts (N+ws.length) k' m'->Stt D ts (N+ws.length) k' m'->H' tl=some (.lst ((L++[q]).map V.ref))->H' q=some (.tup [.ref a',.ref c'])->H' a'=some (.lst (ns.map V.int))->H' c'=some (.lst (ns.map V.int))->Hb a'=none->Hb c'=none->a'∉[b',mt,tl]->c'∉[b',mt,tl]->Q (.bl true) H'
theorem h_z_fed (T:Txt w K mg t):Has P w K mg base "_law_fed" 11 t.a_z_fed t.f_z_fed ["_law_reader", "_law_piece", "_law_text_here", "_law_behind_here", "_law_taken", "_law_told"] (spFd K t):=by
  refine ⟨T.g_z_fed,T.F_z_fed.kp,T.b_z_fed,T.F_z_fed.okQ sc_z_fed (fun vs H Q E h=>by obtain ⟨Hb,x,dx,o,b,mt,a,pt,pb,tl,D,ts,ws,ps,L,pl,N,k,m,rfl,_⟩:=h; rfl) fun cdv A outer s H vs Q E hr h=>?_⟩
  obtain ⟨Hb,x,dx,o,b,mt,a,pt,pb,tl,D,ts,ws,ps,L,pl,N,k0,m0,rfl,tn,sb,fr,nbm,nbt,nmt,hin,lt,ha,lw,hpt,hpb,bh,lps,hNw,hws,⟨hx,hb,hm⟩,st0,htl,lL,k⟩:=h
  have hu:=hr.units
  have fx:Hb x=none:=fr x (by simp)
  have fb:Hb b=none:=fr b (by simp)
  have fm:Hb mt=none:=fr mt (by simp)
  have ft:Hb tl=none:=fr tl (by simp)
  refine ⟨_,(q_pss_cons (q_ps_set (i:=6) sc_z_fed.nd rfl (by first | exact Or.inl rfl | exact Or.inr rfl) (q_calTy (c_listK (K:=K) rfl) T.n_list PyProof.Rows.boot_list (q_pa_c (q_vv 1) q_pa_nil)))
      (q_pss_cons (q_ps_set (i:=7) sc_z_fed.nd rfl (by first | exact Or.inl rfl | exact Or.inr rfl) (q_meth (h_Reader_feed T) hr (q_vv 0) (q_pa_c (q_vv 6) q_pa_nil)))
      (q_pss_cons (q_ps_expr (q_pe_bmK (K:=K) rfl PySem.F.plainAttrs_list PySem.F.slot_list_append PySem.F.type_list_append mg_append (q_vv 6) (q_pa_c q_pe_int q_pa_nil)))
      (q_pss_cons (q_ps_asg (q_pe_ix (g_ixK (K:=K) rfl) (q_vv 3) (q_pe_op (g_addK (K:=K) rfl) (q_vv 4) (q_calB (c_lenK (K:=K) rfl) T.n_len PySem.boot_len (q_pa_c (q_vv 1) q_pa_nil))) (fun _ _=>rfl)) (q_pg_tupK (K:=K) rfl rfl (q_pgs_cons (q_pg_name (i:=8) sc_z_fed.nd rfl (by first | exact Or.inl rfl | exact Or.inr rfl)) (q_pgs_cons (q_pg_name (i:=9) sc_z_fed.nd rfl (by first | exact Or.inl rfl | exact Or.inr rfl)) (q_pgs_cons (q_pg_name (i:=10) sc_z_fed.nd rfl (by first | exact Or.inl rfl | exact Or.inr rfl)) q_pgs_nil)))))
      (q_pss_cons (q_ps_if (q_PW_pt (q_pw_or (q_pt_not (q_mt_val (q_calB (c_instK (K:=K) rfl) T.n_isinstance PyProof.Rows.boot_isinstance (q_pa_c (q_vv 7) (q_pa_c (q_bty rfl T.n_list PyProof.Rows.boot_list) q_pa_nil))))) (q_pw_or1 (q_mt_cmp (g_neK (K:=K) rfl hu) (q_vv 7) (q_pe_slice (g_slK (K:=K) rfl) (q_vv 2) (q_po_some (q_pe_ix (g_ixK (K:=K) rfl) (q_pe_ix (g_ixK (K:=K) rfl) (q_vv 3) (q_vv 4) (fun _ _=>rfl)) q_pe_int (fun _ _=>rfl))) (q_po_some (q_vv 8))) (nomark _))))) (q_pss_one (q_ps_ret q_pe_bl)) q_pss_nil)
      (q_pss_cons (q_ps_expr (q_pe_bmK (K:=K) rfl PySem.F.plainAttrs_list PySem.F.slot_list_append PySem.F.type_list_append mg_append (q_vv 7) (q_pa_c q_pe_int q_pa_nil)))
      (q_pss_cons (q_ps_expr (q_pe_bmK (K:=K) rfl PySem.F.plainAttrs_list PySem.F.slot_list_append PySem.F.type_list_append mg_append (q_vv 5) (q_pa_c (q_me_tup (q_pa_c (q_vv 7) (q_pa_c (q_calTy (c_listK (K:=K) rfl) T.n_list PyProof.Rows.boot_list (q_pa_c (q_vv 7) q_pa_nil)) q_pa_nil))) q_pa_nil)))
      (q_pss_one (q_ps_ret (q_pe_cmpR (g_eqK (K:=K) rfl hu) (q_cal (h_z_state T) hr (q_pa_c (q_vv 0) q_pa_nil)) (q_me_lst (q_pa_c (q_vv 9) (q_pa_c (q_vv 10) (q_pa_c (q_pe_op (g_addK (K:=K) rfl) (q_vv 4) (q_calB (c_lenK (K:=K) rfl) T.n_len PySem.boot_len (q_pa_c (q_vv 1) q_pa_nil))) (q_pa_c (q_me_lst q_pa_nil) (q_pa_c q_pe_bl q_pa_nil)))))) (nomark _))))))))))),?_⟩
  refine ⟨_,.inl (.of (sb _ _ ha)),fun p1 H1 g1=>?_⟩
  have fp1:Hb p1=none:=sb.free g1.nw
  have hx1:=g1.sm _ _ hx
  have n1x:p1≠x:=(ne_of_none hx g1.nw).symm
  have n1b:p1≠b:=(ne_of_none hb g1.nw).symm
  have n1m:p1≠mt:=(ne_of_none hm g1.nw).symm
  have n1t:p1≠tl:=(ne_of_none htl g1.nw).symm
  have nxt:tl≠x:=ne_kind htl hx (by intro z; cases z)
  have sw:Same Hb (wo H1 [x,b,mt]):=Same.wo (sb.trans g1.sm) fun c hc=>by
    simp only [List.mem_cons,List.not_mem_nil,or_false] at hc
    rcases hc with rfl | rfl | rfl <;> assumption
  have w1:wo H1 [x,b,mt] p1=some (.lst (ws.map V.int)):=wo_out (by simp [n1x,n1b,n1m]) g1.at_
  have wt:wo H1 [x,b,mt] tl=some (.lst (L.map V.ref)):=wo_out (by simp [nxt,nbt.symm,nmt.symm]) (g1.sm _ _ htl)
  refine ⟨x,dx,_,rfl,hx1,rfl,.inl ⟨wo H1 [x,b,mt],x,dx,o,b,mt,p1,D,ts,ws,pl,N,k0,m0,rfl,tn.mono sw,wo_same,wo_in (by simp),wo_in (by simp),wo_in (by simp),nbm,hin,by omega,.of w1,hws,⟨hx1,g1.sm _ _ hb,g1.sm _ _ hm⟩,st0,fun q b' k' m' H2 s2 nq fb' nbm' nqb rd2 hq2 hkk st2=>?_⟩⟩
  obtain ⟨hx2,hb2,hm2⟩:=rd2
  have sH2:=sw.trans s2
  have h12:=s2 _ _ w1
  have ht2:=s2 _ _ wt
  have fq:Hb q=none:=(sb.trans g1.sm).free nq
  have fbH:Hb b'=none:=sw.free fb'
  have nq1:q≠p1:=(ne_of_none g1.at_ nq).symm
  have nqt:q≠tl:=(ne_of_none (g1.sm _ _ htl) nq).symm
  have nqm:q≠mt:=(ne_of_none (g1.sm _ _ hm) nq).symm
  have nqx:q≠x:=(ne_of_none hx1 nq).symm
  have nb1:b'≠p1:=(ne_of_none w1 fb').symm
  have nbt':b'≠tl:=(ne_of_none wt fb').symm
  refine ⟨.inl ⟨rfl,_,.of h12⟩,?_⟩
  refine ⟨_,h12,szlt (by rw [List.length_map]; omega),?_⟩
  obtain ⟨H3,e3⟩ : ∃ H3,H3=upd H2 p1 (.lst (ws.map V.int++[.int 300])):=⟨_,rfl⟩
  rw [<- e3]
  have st3 : ∀ c u,c≠p1->H2 c=some u->H3 c=some u:=fun c u n e=>by rw [e3,upd_ne n]; exact e
  have sb3:Same Hb H3:=by rw [e3]; exact sH2.put fp1
  have rd3:Rd t H3 x dx o b' mt pl D ts (N+ws.length) k' m':=⟨st3 _ _ n1x.symm hx2,st3 _ _ nb1 hb2,st3 _ _ n1m.symm hm2⟩
  have ht3:=st3 _ _ n1t.symm ht2
  have hq3:=st3 _ _ nq1 hq2
  obtain ⟨qb,hqb⟩ : ∃ q,ps[N+ws.length]? = some q:=⟨_,List.getElem?_eq_getElem (by omega)⟩
  obtain ⟨qa,hqa⟩ : ∃ q,ps[N]? = some q:=⟨_,List.getElem?_eq_getElem (by omega)⟩
  obtain ⟨kb,mb,stb,eb⟩:=bh _ _ hqb
  obtain ⟨ka,ma,sta,ea⟩:=bh _ _ hqa
  obtain ⟨rfl,rfl⟩:=stb.uniq st2
  obtain ⟨rfl,rfl⟩:=sta.uniq st0
  have ib:atI (ps.map V.ref) ((N:Int)+((ws.map V.int).length:Int))=some (.ref qb):=by
    rw [List.length_map,<- Int.natCast_add]
    exact atI_nat (by rw [List.getElem?_map,hqb]; rfl)
  have ia:atI (ps.map V.ref) (N:Int)=some (.ref qa):=atI_nat (by rw [List.getElem?_map,hqa]; rfl)
  refine ⟨_,.inl (.of (sb3 _ _ ha)),?_⟩
  refine ⟨_,_,.inl (.of (sb3 _ _ hpb)),ib,?_⟩
  refine ⟨qb,_,rfl,.of (sb3 _ _ eb),rfl,_,_,rfl,_,_,rfl,_,_,rfl,rfl,?_⟩
  refine ⟨_,_,.lst hq3,by with_unfolding_all rfl,?_⟩
  refine iteF ?_
  refine ⟨_,_,.inl (.of (sb3 _ _ hpb)),ia,?_⟩
  refine ⟨_,_,.inr (.of (sb3 _ _ ea)),atI_nat (j:=0) rfl,?_⟩
  refine ⟨_,rfl,_,rfl,_,.of (sb3 _ _ hpt),fun p4 H4 g4=>?_⟩
  have e4:cutV (ts.map V.int) (some (ka:Int)) (some (kb:Int))=((ts.take kb).drop ka).map V.int:=by
    obtain ⟨d,rfl⟩ : ∃ d,kb=ka+d:=⟨kb - ka,by omega⟩
    rw [cutV_ints,Int.natCast_add]
    refine congrArg _ ((cutL_mid ts ka d).trans ?_)
    rw [List.drop_take,Nat.add_sub_cancel_left]
  rw [e4] at g4
  obtain ⟨r,er⟩ : ∃ r,r=(ts.take kb).drop ka:=⟨_,rfl⟩
  have lr:r.length<=100:=by rw [er,List.length_drop,List.length_take]; omega
  rw [<- er] at g4 hq3
  have hq4:=g4.sm _ _ hq3
  refine ⟨_,_,DataV.lst (.of hq4) (DataVs.ints r),DataV.lst g4.lst (DataVs.ints r),PySem.W.ke_shaped_ints r,PySem.W.ke_shaped_ints r,?_⟩
  refine ite2 (fun z=>absurd (show (!PyData.eqv (.list (r.map PyData.int)) (.list (r.map PyData.int)))=true from z) (by rw [eqv_ints]; simp)) (fun _=>?_)
  refine ⟨.inl ⟨rfl,_,.of hq4⟩,?_⟩
  refine ⟨_,hq4,szlt (by rw [List.length_map]; omega),?_⟩
  obtain ⟨H5,e5⟩ : ∃ H5,H5=upd H4 q (.lst (r.map V.int++[.int 300])):=⟨_,rfl⟩
  rw [<- e5]
  have st5 : ∀ c u,c≠q->H3 c=some u->H5 c=some u:=fun c u n e=>by rw [e5,upd_ne n]; exact g4.sm _ _ e
  have hq5:H5 q=some (.lst ((r++[300]).map V.int)):=by rw [e5,upd_same,List.map_append]; rfl
  have sb5:Same Hb H5:=by rw [e5]; exact (sb3.trans g4.sm).put fq
  obtain ⟨hx3,hb3,hm3⟩:=rd3
  have hx5:=st5 _ _ nqx.symm hx3
  have hb5:=st5 _ _ nqb.symm hb3
  have hm5:=st5 _ _ nqm.symm hm3
  have ht5:=st5 _ _ nqt.symm ht3
  refine ⟨.inl ⟨rfl,_,.of ht5⟩,?_⟩
  refine ⟨_,.inl (.of hq5),fun p6 H6 g6=>?_⟩
  refine ⟨sz rfl,fun p7 H7 g7=>?_⟩
  have s57:=g6.sm.trans g7.sm
  refine ⟨_,s57 _ _ ht5,szlt (by rw [List.length_map]; omega),?_⟩
  obtain ⟨H8,e8⟩ : ∃ H8,H8=upd H7 tl (.lst (L.map V.ref++[.ref p7])):=⟨_,rfl⟩
  rw [<- e8]
  have st8 : ∀ c u,c≠tl->H7 c=some u->H8 c=some u:=fun c u n e=>by rw [e8,upd_ne n]; exact e
  have ht8:H8 tl=some (.lst ((L++[p7]).map V.ref)):=by rw [e8,upd_same,List.map_append]; rfl
  have sb8:Same Hb H8:=by rw [e8]; exact (sb5.trans s57).put ft
  have n6t:p6≠tl:=(ne_of_none ht5 g6.nw).symm
  have n6m:p6≠mt:=(ne_of_none hm5 g6.nw).symm
  have n6b:p6≠b':=(ne_of_none hb5 g6.nw).symm
  have n7t:p7≠tl:=(ne_of_none (g6.sm _ _ ht5) g7.nw).symm
  have hx8:=st8 _ _ nxt.symm (s57 _ _ hx5)
  have hb8:=st8 _ _ nbt' (s57 _ _ hb5)
  have hm8:=st8 _ _ nmt (s57 _ _ hm5)
  refine ⟨x,dx,o,b',mt,pl,_,_,false,_,rfl,hx8,hb8,hm8,fun p9 pf H9 s9 hpf9 hp9=>?_⟩
  refine ⟨_,.inl (.of (s9 _ _ (sb8 _ _ ha))),?_⟩
  refine ⟨sz rfl,fun p10 H10 g10=>?_⟩
  refine ⟨sz rfl,fun p11 H11 g11=>?_⟩
  have s911:=g10.sm.trans g11.sm
  have s811:=s9.trans s911
  have lm:(((rk D ts kb).take mb).map V.int).length=mb:=by
    rw [List.length_map,List.length_take]
    rcases Nat.lt_or_ge kb ts.length with z | z
    · have:=st2.2.2.2.2 z
      omega
    · have:=st2.2.2.2.1 (by have:=st2.1; omega)
      omega
  rw [lm] at hp9
  have ec:(N:Int)+((ws.map V.int).length:Int)=((N+ws.length:Nat):Int):=by rw [List.length_map,Int.natCast_add]
  have h11:=g11.at_
  rw [ec] at h11
  refine ⟨.list [.int (wrF D 0 (ts.take kb)).2,.int (mb:Int),.int ((N+ws.length:Nat):Int),.list [],.bool false],.list [.int (wrF D 0 (ts.take kb)).2,.int (mb:Int),.int ((N+ws.length:Nat):Int),.list [],.bool false],DataV.lst (.of (s911 _ _ hp9)) (.cons (.int _) (.cons (.int _) (.cons (.int _) (.cons (.lst (.of (s911 _ _ hpf9)) .nil) (.cons (.bl _) .nil))))),DataV.lst (.of h11) (.cons (.int _) (.cons (.int _) (.cons (.int _) (.cons (.lst (.of (g11.sm _ _ g10.at_)) .nil) (.cons (.bl _) .nil))))),by rfl,by rfl,?_⟩
  refine fitB (k p7 q p6 b' (r++[300]) kb mb H11 (sb8.trans s811) fbH nbm' nbt' ⟨s811 _ _ hx8,s811 _ _ hb8,s811 _ _ hm8⟩ st2 (s811 _ _ ht8) (s811 _ _ (st8 _ _ n7t g7.at_)) (s811 _ _ (st8 _ _ nqt (s57 _ _ hq5))) (s811 _ _ (st8 _ _ n6t (g7.sm _ _ g6.at_))) fq (sb5.free g6.nw) (by simp [nqb,nqm,nqt]) (by simp [n6b,n6m,n6t])) ?_
  simp [PyData.eqv,PyData.eqvAll]
def spOr (t:Adr):Sp:=fun vs H Q _=>∃ (x dx o b mt:Addr) (pl g c:Int),vs=[.ref x,.int c]/\H x=some (RdO t dx o b mt pl g c false)/\H b=some (.lst [])/\H mt=some (.lst [])/\∀ H',Kp x H H'->H' x=some (RdO t dx o b mt pl g c true)->Q (.bl true) H'
theorem h_z_over (T:Txt w K mg t):Has P w K mg base "_law_over" 11 t.a_z_over t.f_z_over ["_law_reader", "_law_taken"] (spOr t):=by
  refine ⟨T.g_z_over,T.F_z_over.kp,T.b_z_over,T.F_z_over.okQ sc_z_over (fun vs H Q E h=>by obtain ⟨x,dx,o,b,mt,pl,g,c,rfl,_⟩:=h; rfl) fun cdv A outer s H vs Q E hr h=>?_⟩
  obtain ⟨x,dx,o,b,mt,pl,g,c,rfl,hx,hb,hm,k⟩:=h
  have hu:=hr.units
  refine ⟨_,(q_pss_cons (q_ps_set (i:=2) sc_z_over.nd rfl (by first | exact Or.inl rfl | exact Or.inr rfl) (q_meth0 (h_Reader_end T) hr (q_vv 0)))
      (q_pss_cons (q_ps_if (q_PW_pt (q_pw_or (q_mt_cmp (g_neK (K:=K) rfl hu) (q_vv 2) (q_me_lst q_pa_nil) (nomark _)) (q_pw_or (q_mt_cmp g_isnot (q_meth0 (h_Reader_over T) hr (q_vv 0)) q_pe_bl (nomark _)) (q_pw_or1 (q_mt_cmp (g_neK (K:=K) rfl hu) (q_meth (h_Reader_feed T) hr (q_vv 0) (q_pa_c (q_me_lst (q_pa_c q_pe_int (q_pa_c q_pe_int q_pa_nil))) q_pa_nil)) (q_me_lst q_pa_nil) (nomark _)))))) (q_pss_one (q_ps_ret q_pe_bl)) q_pss_nil)
      (q_pss_cons (q_ps_expr (q_pe_bmK (K:=K) rfl PySem.F.plainAttrs_list PySem.F.slot_list_append PySem.F.type_list_append mg_append (q_vv 2) (q_pa_c q_pe_int q_pa_nil)))
      (q_pss_cons (q_ps_if (q_mt_cmp (g_neK (K:=K) rfl hu) (q_meth0 (h_Reader_end T) hr (q_vv 0)) (q_me_lst q_pa_nil) (nomark _)) (q_pss_one (q_ps_ret q_pe_bl)) q_pss_nil)
      (q_pss_one (q_ps_ret (q_me_and (q_pe_cmpR (g_eqK (K:=K) rfl hu) (q_meth0 (h_Reader_taken T) hr (q_vv 0)) (q_vv 1) (nomark _)) (q_me_and (q_pe_cmpR (g_eqK (K:=K) rfl hu) (q_meth0 (h_Reader_held T) hr (q_vv 0)) q_pe_int (nomark _)) (q_pe_one (q_pe_cmpR (g_eqK (K:=K) rfl hu) (q_meth0 (h_Reader_faults T) hr (q_vv 0)) (q_me_lst q_pa_nil) (nomark _))))))))))),?_⟩
  have nbx:b≠x:=ne_kind hb hx (by intro z; cases z)
  have nmx:mt≠x:=ne_kind hm hx (by intro z; cases z)
  refine ⟨x,dx,_,rfl,hx,rfl,x,dx,o,b,mt,pl,g,c,false,rfl,hx,hb,fun p1 H1 n1 k1 hx1 hp1=>?_⟩
  have n1x:p1≠x:=(ne_of_none hx n1).symm
  refine ⟨sz rfl,fun p2 H2 g2=>?_⟩
  refine ⟨_,_,DataV.lst (.of (g2.sm _ _ hp1)) (DataVs.ints []),DataV.lst g2.lst (DataVs.ints []),PySem.W.ke_shaped_ints [],PySem.W.ke_shaped_ints [],?_⟩
  refine ite2 (fun z=>absurd (show (!PyData.eqv (.list (([]:List Int).map PyData.int)) (.list (([]:List Int).map PyData.int)))=true from z) (by rw [eqv_ints]; simp)) (fun _=>?_)
  have hx2:=g2.sm _ _ hx1
  refine ⟨x,dx,_,rfl,hx2,rfl,x,dx,o,b,mt,pl,g,c,true,rfl,hx2,?_⟩
  refine ⟨(fun f z=>nomatch z),?_⟩
  refine iteF ?_
  refine ⟨x,dx,_,rfl,hx2,rfl,?_⟩
  refine ⟨sz rfl,fun p3 H3 g3=>?_⟩
  refine .inr ⟨x,dx,o,b,mt,p3,pl,g,c,rfl,g3.sm _ _ hx2,fun p4 H4 g4=>?_⟩
  refine ⟨sz rfl,fun p5 H5 g5=>?_⟩
  refine ⟨_,_,DataV.lst (.of (g5.sm _ _ g4.at_)) (DataVs.ints []),DataV.lst g5.lst (DataVs.ints []),PySem.W.ke_shaped_ints [],PySem.W.ke_shaped_ints [],?_⟩
  refine ite2 (fun z=>absurd (show (!PyData.eqv (.list (([]:List Int).map PyData.int)) (.list (([]:List Int).map PyData.int)))=true from z) (by rw [eqv_ints]; simp)) (fun _=>?_)
  have s15:=g2.sm.trans (g3.sm.trans (g4.sm.trans g5.sm))
  have h15:=s15 _ _ hp1
  have hx5:=s15 _ _ hx1
  refine ⟨.inl ⟨rfl,_,.of h15⟩,?_⟩
  refine ⟨_,h15,szlt (by decide),?_⟩
  obtain ⟨H6,e6⟩ : ∃ H6,H6=upd H5 p1 (.lst ([]++[.int 300])):=⟨_,rfl⟩
  rw [<- e6]
  have k6:Kp x H H6:=fun c u n e=>by rw [e6,upd_ne (ne_of_none e n1)]; exact s15 _ _ (k1 _ _ n e)
  have hx6:H6 x=some (RdO t dx o b mt pl g c true):=by rw [e6,upd_ne n1x.symm]; exact hx5
  refine ⟨x,dx,_,rfl,hx6,rfl,x,dx,o,b,mt,pl,g,c,true,rfl,hx6,k6 _ _ nbx hb,fun p7 H7 n7 k7 hx7 hp7=>?_⟩
  refine ⟨sz rfl,fun p8 H8 g8=>?_⟩
  refine ⟨_,_,DataV.lst (.of (g8.sm _ _ hp7)) (DataVs.ints []),DataV.lst g8.lst (DataVs.ints []),PySem.W.ke_shaped_ints [],PySem.W.ke_shaped_ints [],?_⟩
  refine ite2 (fun z=>absurd (show (!PyData.eqv (.list (([]:List Int).map PyData.int)) (.list (([]:List Int).map PyData.int)))=true from z) (by rw [eqv_ints]; simp)) (fun _=>?_)
  have hx8:=g8.sm _ _ hx7
  have k8:Kp x H H8:=(k6.trans k7).trans (Kp.of g8.sm)
  refine ⟨x,dx,_,rfl,hx8,rfl,x,dx,o,b,mt,pl,g,c,true,rfl,hx8,?_⟩
  refine ite2 (fun _=>?_) (fun z=>absurd (show decide (c=c)=true by simp) z)
  refine ⟨x,dx,_,rfl,hx8,rfl,x,dx,o,b,mt,pl,g,c,true,_,rfl,hx8,k8 _ _ nbx hb,?_⟩
  refine ⟨x,dx,_,rfl,hx8,rfl,x,dx,o,b,mt,pl,g,c,true,rfl,hx8,k8 _ _ nmx hm,fun p9 H9 g9=>?_⟩
  refine ⟨sz rfl,fun p10 H10 g10=>?_⟩
  refine ⟨_,_,DataV.lst (.of (g10.sm _ _ g9.at_)) (DataVs.ints []),DataV.lst g10.lst (DataVs.ints []),PySem.W.ke_shaped_ints [],PySem.W.ke_shaped_ints [],?_⟩
  have s10:=g9.sm.trans g10.sm
  exact fitB (k H10 (k8.trans (Kp.of s10)) (s10 _ _ hx8)) (by rw [eqv_ints]; rfl)
theorem comp_pairs {K:PySem.W.Frag} {a:Addr} {xs:List V} {cs:St} {tt:TT} {te:TE} {H:Hp} {Q:VK} (Pv:Nat->List V->Hp->Prop) (h0:Pv 0 [] H) (hl : ∀ i ys H,i<=xs.length->Pv i ys H->SqL K H a xs/\ys.length<=i) (hz:xs.length<=sizeLine)
    (hs : ∀ i x ys H,xs[i]? = some x->Pv i ys H->∃ pp v u,x=.ref pp/\SqT K H pp [v,u]/\∀ (N:List V->Hp->Prop),(∀ ys' H',Pv (i+1) ys' H'->N ys' H')->tt (some v :: some u :: cs) H fun b H4=>if b=true then te (some v :: some u :: cs) H4 fun y H5=>N (ys++[y]) H5 else N ys H4)
    (hd : ∀ ys H p H',Pv xs.length ys H->Gro H p (.lst ys) H'->Q (.ref p) H') :
    CompW (Itl K a) H (List.replicate 2 none++cs) (gTup K 2 (gCons (gName 0) (gCons (gName 1) gNil))) tt te Q:=by
  refine ⟨fun i m ys σ H=>m=xs.length - i/\i<=xs.length/\Pv i ys H/\∃ v0 v1,σ=v0 :: v1 :: cs,⟨xs.length,by simp,Nat.zero_le _,h0,none,none,rfl⟩,?_⟩
  rintro i m ys σ H2 ⟨rfl,hi,p,v0,v1,rfl⟩
  obtain ⟨q,ql⟩:=hl i ys H2 hi p
  by_cases hlt:i < xs.length
  · refine .inr ⟨⟨xs,xs[i],q,by simp [hlt]⟩,by omega,fun ys' σ' H'=>Pv (i+1) ys' H'/\∃ v0 v1,σ'=v0 :: v1 :: cs,fun ys' σ' H' ⟨p',e⟩=>⟨xs.length - (i+1),by omega,rfl,hlt,p',e⟩,fun x H' y=>?_⟩
    obtain ⟨rfl,y⟩:=y
    obtain ⟨pp,v,u,rfl,sq,hh⟩:=hs i x ys _ (y xs q) p
    refine ⟨pp,_,rfl,sq,rfl,_,_,rfl,_,_,rfl,rfl,?_⟩
    exact hh (fun ys' H'=>Pv (i+1) ys' H'/\∃ v0 v1,some v :: some u :: cs=v0 :: v1 :: cs) fun _ _ z=>⟨z,_,_,rfl⟩
  · have e:i=xs.length:=by omega
    subst e
    exact .inl ⟨⟨xs,q,Nat.le_refl _⟩,by omega,fun p' H' g=>hd ys H2 p' H' p g⟩
theorem ex_kt (M:Md) : ∃ D,Mt M D:=by
  cases M with
  | ld=>exact ⟨_,rfl⟩
  | pr h=>exact ⟨_,rfl⟩
  | sh ns ms=>exact ⟨_,⟨0,0,0,0,0,0,0,0,0,0⟩,rfl⟩
  | tb es=>exact ⟨_,⟨0,0,0,0⟩,rfl⟩
  | br=>exact ⟨_,rfl⟩
theorem mod_kok {H:Hp} {p:Addr} {M:Md} {D:Kt} (h:Mod H p M) (m:Mt M D):Kok D:=by
  obtain ⟨a,b,_,ct⟩:=h
  cases M with
  | ld=>obtain rfl:D=.ld:=m; exact trivial
  | pr h=>obtain rfl:D=.pr h:=m; exact trivial
  | sh ns ms=>obtain ⟨f,rfl⟩:=m; exact trivial
  | tb es=>obtain ⟨f,rfl⟩:=m; exact ct.2.2
  | br=>obtain rfl:D=.br:=m; exact trivial
theorem mt_eq {M:Md} {D D':Kt} (m:Mt M D) (m':Mt M D'):wrF D=wrF D'/\rk D=rk D':=by
  cases M with
  | ld=>obtain rfl:D=.ld:=m; obtain rfl:D'=.ld:=m'; exact ⟨rfl,rfl⟩
  | pr h=>obtain rfl:D=.pr h:=m; obtain rfl:D'=.pr h:=m'; exact ⟨rfl,rfl⟩
  | sh ns ms=>obtain ⟨f,rfl⟩:=m; obtain ⟨f',rfl⟩:=m'; exact ⟨rfl,rfl⟩
  | tb es=>obtain ⟨f,rfl⟩:=m; obtain ⟨f',rfl⟩:=m'; exact ⟨rfl,rfl⟩
  | br=>obtain rfl:D=.br:=m; obtain rfl:D'=.br:=m'; exact ⟨rfl,rfl⟩
theorem BhE.to {H:Hp} {ps:List Addr} {M:Md} {D D':Kt} {ts:List Int} (m:Mt M D) (m':Mt M D') (h:BhE H ps D ts):BhE H ps D' ts:=by
  obtain ⟨e1,e2⟩:=mt_eq m m'
  intro N q hq
  obtain ⟨k,n,st,e⟩:=h N q hq
  refine ⟨k,n,?_,by rw [<- e1]; exact e⟩
  unfold Stt at st ⊢
  rw [<- e1,<- e2]
  exact st
structure Rr where
  x:Addr
  dx:Addr
  b:Addr
  mt:Addr
  pl:Int
  N:Nat
  k:Nat
  m:Nat
def RdR (t:Adr) (H:Hp) (o:Addr) (D:Kt) (ts:List Int) (r:Rr):Prop:=Rd t H r.x r.dx o r.b r.mt r.pl D ts r.N r.k r.m/\Stt D ts r.N r.k r.m
structure Lw (t:Adr) (Hb H:Hp) (o:Addr) (D:Kt) (ts:List Int) (r s:Rr) (tk tl:Addr) (L:List Addr):Prop where
  sb:Same Hb H
  r1:RdR t H o D ts r
  r2:RdR t H o D ts s
  ht:H tl=some (.lst (L.map V.ref))
  td : ∀ q∈L,∃ (a b:Addr) (ns:List Int),H q=some (.tup [.ref a,.ref b])/\H a=some (.lst (ns.map V.int))/\H b=some (.lst (ns.map V.int))/\a∉[r.b,r.mt,s.b,s.mt,tk,tl]/\b∉[r.b,r.mt,s.b,s.mt,tk,tl]
  nd:[r.b,r.mt,s.b,s.mt,tk,tl].Nodup
  nx:r.x≠s.x
  fr : ∀ c∈[r.x,s.x,r.b,r.mt,s.b,s.mt,tk,tl],Hb c=none
  hk : ∃ xs,H tk=some (.lst xs)
theorem Lw.swap {Hb H:Hp} {o:Addr} {D:Kt} {ts:List Int} {r s:Rr} {tk tl:Addr} {L:List Addr} (h:Lw t Hb H o D ts r s tk tl L):Lw t Hb H o D ts s r tk tl L:=by
  refine ⟨h.sb,h.r2,h.r1,h.ht,fun q hq=>?_,?_,h.nx.symm,fun c hc=>h.fr c ?_,h.hk⟩
  · obtain ⟨a,b,ns,e1,e2,e3,n1,n2⟩:=h.td q hq
    refine ⟨a,b,ns,e1,e2,e3,?_,?_⟩
    · simp only [List.mem_cons,List.not_mem_nil,or_false,not_or] at n1 ⊢; grind
    · simp only [List.mem_cons,List.not_mem_nil,or_false,not_or] at n2 ⊢; grind
  · have:=h.nd
    simp only [List.nodup_cons,List.mem_cons,List.not_mem_nil,or_false,not_or,not_false_eq_true,List.nodup_nil,and_true] at this ⊢
    grind
  · simp only [List.mem_cons,List.not_mem_nil,or_false] at hc ⊢
    grind
theorem Lw.mono {Hb H H':Hp} {o:Addr} {D:Kt} {ts:List Int} {r s:Rr} {tk tl:Addr} {L:List Addr} (h:Lw t Hb H o D ts r s tk tl L) (e:Same H H'):Lw t Hb H' o D ts r s tk tl L:=by
  refine ⟨h.sb.trans e,⟨⟨e _ _ h.r1.1.1,e _ _ h.r1.1.2.1,e _ _ h.r1.1.2.2⟩,h.r1.2⟩,⟨⟨e _ _ h.r2.1.1,e _ _ h.r2.1.2.1,e _ _ h.r2.1.2.2⟩,h.r2.2⟩,e _ _ h.ht,fun q hq=>?_,h.nd,h.nx,h.fr,?_⟩
  · obtain ⟨a,b,ns,e1,e2,e3,n⟩:=h.td q hq
    exact ⟨a,b,ns,e _ _ e1,e _ _ e2,e _ _ e3,n⟩
  · obtain ⟨xs,hk⟩:=h.hk
    exact ⟨xs,e _ _ hk⟩
theorem Lw.up {Hb H:Hp} {o:Addr} {D:Kt} {ts:List Int} {r s:Rr} {tk tl:Addr} {L:List Addr} (h:Lw t Hb H o D ts r s tk tl L) : ∃ Hb',Same Hb Hb'/\Lw t Hb' H o D ts r s tk tl L/\∀ c u,H c=some u->c∉[r.x,s.x,r.b,r.mt,s.b,s.mt,tk,tl]->Hb' c=some u :=
  ⟨wo H [r.x,s.x,r.b,r.mt,s.b,s.mt,tk,tl],Same.wo h.sb h.fr,⟨wo_same,h.r1,h.r2,h.ht,h.td,h.nd,h.nx,fun c hc=>wo_in hc,h.hk⟩,fun c u e n=>wo_out n e⟩
theorem Lw.down {Hb Hb' H:Hp} {o:Addr} {D:Kt} {ts:List Int} {r s:Rr} {tk tl:Addr} {L:List Addr} (h:Lw t Hb' H o D ts r s tk tl L) (e:Same Hb Hb'):Lw t Hb H o D ts r s tk tl L:=⟨e.trans h.sb,h.r1,h.r2,h.ht,h.td,h.nd,h.nx,fun c hc=>e.free (h.fr c hc),h.hk⟩
theorem Lw.away {Hb H:Hp} {o:Addr} {D:Kt} {ts:List Int} {r s:Rr} {tk tl:Addr} {L:List Addr} (h:Lw t Hb H o D ts r s tk tl L) {p:Addr} (n:H p=none):p∉[r.x,s.x,r.b,r.mt,s.b,s.mt,tk,tl]:=by
  obtain ⟨xs,hk⟩:=h.hk
  have a1:=ne_of_none h.r1.1.1 n
  have a2:=ne_of_none h.r2.1.1 n
  have a3:=ne_of_none h.r1.1.2.1 n
  have a4:=ne_of_none h.r1.1.2.2 n
  have a5:=ne_of_none h.r2.1.2.1 n
  have a6:=ne_of_none h.r2.1.2.2 n
  have a7:=ne_of_none hk n
  have a8:=ne_of_none h.ht n
  simp only [List.mem_cons,List.not_mem_nil,or_false,not_or]
  exact ⟨a1.symm,a2.symm,a3.symm,a4.symm,a5.symm,a6.symm,a7.symm,a8.symm⟩
theorem Lw.put {Hb H:Hp} {o:Addr} {D:Kt} {ts:List Int} {r s:Rr} {tk tl:Addr} {L:List Addr} {xs:List V} (h:Lw t Hb H o D ts r s tk tl L):Lw t Hb (upd H tk (.lst xs)) o D ts r s tk tl L:=by
  obtain ⟨ys,hk⟩:=h.hk
  have nd:=h.nd
  simp only [List.nodup_cons,List.mem_cons,List.not_mem_nil,or_false,not_or,not_false_eq_true,List.nodup_nil,and_true] at nd
  have st : ∀ c u,c≠tk->H c=some u->upd H tk (.lst xs) c=some u:=fun c u n e=>by rw [upd_ne n]; exact e
  refine ⟨h.sb.put (h.fr tk (by simp)),⟨⟨st _ _ (ne_kind h.r1.1.1 hk (by intro z; cases z)) h.r1.1.1,st _ _ (by grind) h.r1.1.2.1,st _ _ (by grind) h.r1.1.2.2⟩,h.r1.2⟩,⟨⟨st _ _ (ne_kind h.r2.1.1 hk (by intro z; cases z)) h.r2.1.1,st _ _ (by grind) h.r2.1.2.1,st _ _ (by grind) h.r2.1.2.2⟩,h.r2.2⟩,st _ _ (by grind) h.ht,fun q hq=>?_,h.nd,h.nx,h.fr,⟨xs,upd_same⟩⟩
  obtain ⟨a,b,ns,e1,e2,e3,n1,n2⟩:=h.td q hq
  refine ⟨a,b,ns,st _ _ (ne_kind e1 hk (by intro z; cases z)) e1,st _ _ ?_ e2,st _ _ ?_ e3,n1,n2⟩
  · simp only [List.mem_cons,List.not_mem_nil,or_false,not_or] at n1; grind
  · simp only [List.mem_cons,List.not_mem_nil,or_false,not_or] at n2; grind
theorem Lw.step {Hb H H':Hp} {o:Addr} {D:Kt} {ts:List Int} {r s:Rr} {tk tl:Addr} {L:List Addr} (h:Lw t Hb H o D ts r s tk tl L) {q a' c' b':Addr} {ns:List Int} {N' k' m':Nat}
    (sm:Same (wo H [r.x,r.b,r.mt,tl]) H') (fb:wo H [r.x,r.b,r.mt,tl] b'=none) (nbm:b'≠r.mt) (nbt:b'≠tl) (rd:Rd t H' r.x r.dx o b' r.mt r.pl D ts N' k' m') (st:Stt D ts N' k' m') (ht:H' tl=some (.lst ((L++[q]).map V.ref))) (hq:H' q=some (.tup [.ref a',.ref c'])) (ha:H' a'=some (.lst (ns.map V.int))) (hc:H' c'=some (.lst (ns.map V.int))) (fa:wo H [r.x,r.b,r.mt,tl] a'=none) (fc:wo H [r.x,r.b,r.mt,tl] c'=none) (na:a'∉[b',r.mt,tl]) (nc:c'∉[b',r.mt,tl]) :
    Lw t Hb H' o D ts { r with b:=b',N:=N',k:=k',m:=m' } s tk tl (L++[q])/\∀ xs,H tk=some (.lst xs)->H' tk=some (.lst xs):=by
  have nd:=h.nd
  simp only [List.nodup_cons,List.mem_cons,List.not_mem_nil,or_false,not_or,not_false_eq_true,List.nodup_nil,and_true] at nd na nc
  obtain ⟨hx,hb,hm⟩:=h.r1.1
  obtain ⟨hx2,hb2,hm2⟩:=h.r2.1
  obtain ⟨ys,hk⟩:=h.hk
  have wk : ∀ c u,c≠r.x->c≠r.b->c≠r.mt->c≠tl->H c=some u->wo H [r.x,r.b,r.mt,tl] c=some u:=fun c u n1 n2 n3 n4 e=>wo_out (by simp only [List.mem_cons,List.not_mem_nil,or_false,not_or]; exact ⟨n1,n2,n3,n4⟩) e
  have bx:s.b≠r.x:=ne_kind hb2 hx (by intro z; cases z)
  have mx:s.mt≠r.x:=ne_kind hm2 hx (by intro z; cases z)
  have kx:tk≠r.x:=ne_kind hk hx (by intro z; cases z)
  have wb2:=wk _ _ bx (by grind) (by grind) (by grind) hb2
  have wm2:=wk _ _ mx (by grind) (by grind) (by grind) hm2
  have wx2:=wk _ _ h.nx.symm (ne_kind hx2 hb (by intro z; cases z)) (ne_kind hx2 hm (by intro z; cases z)) (ne_kind hx2 h.ht (by intro z; cases z)) hx2
  have wtk : ∀ xs,H tk=some (.lst xs)->wo H [r.x,r.b,r.mt,tl] tk=some (.lst xs):=fun xs e=>wk _ _ kx (by grind) (by grind) (by grind) e
  have bb:b'≠s.b:=(ne_of_none wb2 fb).symm
  have bm:b'≠s.mt:=(ne_of_none wm2 fb).symm
  have bk:b'≠tk:=(ne_of_none (wtk _ hk) fb).symm
  have ab:a'≠s.b:=(ne_of_none wb2 fa).symm
  have am:a'≠s.mt:=(ne_of_none wm2 fa).symm
  have ak:a'≠tk:=(ne_of_none (wtk _ hk) fa).symm
  have cb:c'≠s.b:=(ne_of_none wb2 fc).symm
  have cm:c'≠s.mt:=(ne_of_none wm2 fc).symm
  have ck:c'≠tk:=(ne_of_none (wtk _ hk) fc).symm
  have sw:Same Hb (wo H [r.x,r.b,r.mt,tl]):=Same.wo h.sb fun c hc=>h.fr c (by
    simp only [List.mem_cons,List.not_mem_nil,or_false] at hc ⊢
    grind)
  refine ⟨⟨sw.trans sm,⟨rd,st⟩,⟨⟨sm _ _ wx2,sm _ _ wb2,sm _ _ wm2⟩,h.r2.2⟩,ht,fun p hp=>?_,?_,h.nx,fun c hc'=>?_,⟨ys,sm _ _ (wtk _ hk)⟩⟩,fun xs e=>sm _ _ (wtk _ e)⟩
  · rcases List.mem_append.mp hp with z | z
    · obtain ⟨a,b,ms,e1,e2,e3,n1,n2⟩:=h.td p z
      simp only [List.mem_cons,List.not_mem_nil,or_false,not_or] at n1 n2
      have wa:=wk _ _ (ne_kind e2 hx (by intro z; cases z)) n1.1 n1.2.1 n1.2.2.2.2.2 e2
      have wb:=wk _ _ (ne_kind e3 hx (by intro z; cases z)) n2.1 n2.2.1 n2.2.2.2.2.2 e3
      have ba:b'≠a:=(ne_of_none wa fb).symm
      have bc:b'≠b:=(ne_of_none wb fb).symm
      refine ⟨a,b,ms,sm _ _ (wk _ _ (ne_kind e1 hx (by intro z; cases z)) (ne_kind e1 hb (by intro z; cases z)) (ne_kind e1 hm (by intro z; cases z)) (ne_kind e1 h.ht (by intro z; cases z)) e1),sm _ _ wa,sm _ _ wb,?_,?_⟩
      · simp only [List.mem_cons,List.not_mem_nil,or_false,not_or]; grind
      · simp only [List.mem_cons,List.not_mem_nil,or_false,not_or]; grind
    · rw [List.mem_singleton.mp z]
      refine ⟨a',c',ns,hq,ha,hc,?_,?_⟩
      · simp only [List.mem_cons,List.not_mem_nil,or_false,not_or]; grind
      · simp only [List.mem_cons,List.not_mem_nil,or_false,not_or]; grind
  · simp only [List.nodup_cons,List.mem_cons,List.not_mem_nil,or_false,not_or,not_false_eq_true,List.nodup_nil,and_true]
    grind
  · simp only [List.mem_cons,List.not_mem_nil,or_false] at hc'
    by_cases e:c=b'
    · rw [e]; exact sw.free fb
    · refine h.fr c ?_
      simp only [List.mem_cons,List.not_mem_nil,or_false]
      grind
theorem flt_take {L:List (Addr × List Int)} {k:Nat} {y:Addr × List Int} (h:L[k]? = some y):flt (L.take (k+1))=flt (L.take k)++y.2:=by
  rw [take_snoc h]
  exact flt_snoc _ y.1 y.2
theorem flt_at {L:List (Addr × List Int)} {k:Nat} {y:Addr × List Int} (h:L[k]? = some y):(∀ i,i < y.2.length->y.2[i]? = (flt L)[(flt (L.take k)).length+i]?)/\(flt (L.take k)).length+y.2.length<=(flt L).length:=by
  have e:flt L=flt (L.take k)++(y.2++flt (L.drop (k+1))):=by
    have:L=L.take (k+1)++L.drop (k+1):=(List.take_append_drop _ _).symm
    have e2:flt L=flt (L.take (k+1))++flt (L.drop (k+1)):=by
      unfold flt
      rw [<- List.flatten_append,<- List.map_append,<- this]
    rw [e2,flt_take h,List.append_assoc]
  rw [e]
  refine ⟨fun i hi=>?_,by rw [List.length_append,List.length_append]; omega⟩
  rw [List.getElem?_append_right (by omega),Nat.add_sub_cancel_left,List.getElem?_append_left hi]
set_option maxHeartbeats 8000000
def Tn (t:Adr) (Hb:Hp) (o:Addr) (D:Kt) (ts:List Int) (x1 dx1 mt1 x2 dx2 mt2 tk tl:Addr) (pl:Int) (L1 L2:List (Addr × List Int)) (n1 n2:Nat) (H':Hp):Prop :=
  ∃ (b1 b2:Addr) (k1 m1 k2 m2:Nat) (L:List Addr),Lw t Hb H' o D ts ⟨x1,dx1,b1,mt1,0,(flt (L1.take n1)).length,k1,m1⟩ ⟨x2,dx2,b2,mt2,pl,(flt (L2.take n2)).length,k2,m2⟩ tk tl L/\L.length<=n1+n2/\H' tk=some (.lst [.int ((flt (L1.take n1)).length:Int),.int ((flt (L2.take n2)).length:Int)])
def sp_law (K:PySem.W.Frag):Sp:=fun vs H Q _=>∃ a,vs=[.ref a]/\∃ ns:List Int,SqL K H a (ns.map V.int)/\ns.length<=63/\∀ H',Q (.bl true) H'
theorem h_law (T:Txt w K mg t):Has P w K mg base "law" 12 t.a_law t.f_law ["_law_script"] (sp_law K):=by
  refine ⟨T.g_law,T.F_law.kp,T.b_law,T.F_law.okQ sc_law (fun vs H Q E h=>by obtain ⟨a,rfl,_⟩:=h; rfl) fun cdv A outer s H vs Q E hr h=>?_⟩
  obtain ⟨a,rfl,sc,h1,hc,kq⟩:=h
  have hu:=hr.units
  refine ⟨_,(q_pss_cons (q_ps_set (i:=1) sc_law.nd rfl (by first | exact Or.inl rfl | exact Or.inr rfl) (q_cal (h_z_model T) hr (q_pa_c (q_cal (h_z_drawn T) hr (q_pa_c (q_vv 0) (q_pa_c q_pe_int q_pa_nil))) q_pa_nil)))
      (q_pss_cons (q_ps_set (i:=2) sc_law.nd rfl (by first | exact Or.inl rfl | exact Or.inr rfl) (q_cal (h_z_text T) hr (q_pa_c (q_vv 1) (q_pa_c (q_pe_slice (g_slK (K:=K) rfl) (q_vv 0) (q_po_some q_pe_int) (q_po_some q_pe_int)) q_pa_nil))))
      (q_pss_cons (q_ps_set (i:=3) sc_law.nd rfl (by first | exact Or.inl rfl | exact Or.inr rfl) (q_cal (h_z_behind T) hr (q_pa_c (q_vv 1) (q_pa_c (q_vv 2) q_pa_nil))))
      (q_pss_cons (q_ps_set (i:=4) sc_law.nd rfl (by first | exact Or.inl rfl | exact Or.inr rfl) (q_me_lst q_pa_nil))
      (q_pss_cons (q_ps_set (i:=5) sc_law.nd rfl (by first | exact Or.inl rfl | exact Or.inr rfl) q_pe_int)
      (q_pss_cons (q_ps_for PassesOwn.never rfl (q_pi_listK (K:=K) rfl (q_vv 2)) (q_pg_name (i:=6) sc_law.nd rfl (by first | exact Or.inl rfl | exact Or.inr rfl)) (q_pss_cons (q_ps_asg (q_cal (h_z_spell T) hr (q_pa_c (q_vv 1) (q_pa_c (q_vv 6) (q_pa_c (q_vv 5) q_pa_nil)))) (q_pg_tupK (K:=K) rfl rfl (q_pgs_cons (q_pg_name (i:=7) sc_law.nd rfl (by first | exact Or.inl rfl | exact Or.inr rfl)) (q_pgs_cons (q_pg_name (i:=5) sc_law.nd rfl (by first | exact Or.inl rfl | exact Or.inr rfl)) q_pgs_nil))))
      (q_pss_one (q_ps_set (i:=4) sc_law.nd rfl (by first | exact Or.inl rfl | exact Or.inr rfl) (q_pe_op (g_addK (K:=K) rfl) (q_vv 4) (q_vv 7))))))
      (q_pss_cons (q_ps_set (i:=8) sc_law.nd rfl (by first | exact Or.inl rfl | exact Or.inr rfl) (q_cal (h_z_tongue T) hr (q_pa_c (q_vv 1) q_pa_nil)))
      (q_pss_cons (q_ps_set (i:=9) sc_law.nd rfl (by first | exact Or.inl rfl | exact Or.inr rfl) (q_cal (h_z_drawn T) hr (q_pa_c (q_vv 0) (q_pa_c q_pe_int q_pa_nil))))
      (q_pss_cons (q_ps_set (i:=10) sc_law.nd rfl (by first | exact Or.inl rfl | exact Or.inr rfl) (q_makeD (hk_Reader_1 T) hr (q_pa_c (q_vv 8) q_pa_nil)))
      (q_pss_cons (q_ps_set (i:=11) sc_law.nd rfl (by first | exact Or.inl rfl | exact Or.inr rfl) (q_makeD (hk_Reader_0 T) hr (q_pa_c (q_vv 8) (q_pa_c (q_pe_op g_mod (q_cal (h_z_drawn T) hr (q_pa_c (q_vv 0) (q_pa_c q_pe_int q_pa_nil))) (q_pe_op g_pow q_pe_int q_pe_int)) q_pa_nil))))
      (q_pss_cons (q_ps_set (i:=12) sc_law.nd rfl (by first | exact Or.inl rfl | exact Or.inr rfl) (q_cal (h_z_pieces T) hr (q_pa_c (q_vv 4) (q_pa_c (q_vv 9) q_pa_nil))))
      (q_pss_cons (q_ps_set (i:=13) sc_law.nd rfl (by first | exact Or.inl rfl | exact Or.inr rfl) (q_cal (h_z_pieces T) hr (q_pa_c (q_vv 4) (q_pa_c (q_me_fd (q_vv 9)) q_pa_nil))))
      (q_pss_cons (q_ps_set (i:=14) sc_law.nd rfl (by first | exact Or.inl rfl | exact Or.inr rfl) (q_me_lst (q_pa_c q_pe_int (q_pa_c q_pe_int q_pa_nil))))
      (q_pss_cons (q_ps_set (i:=15) sc_law.nd rfl (by first | exact Or.inl rfl | exact Or.inr rfl) (q_me_lst q_pa_nil))
      (q_pss_cons (q_ps_for PassesOwn.never rfl (q_pi_range1 rfl T.n_range (q_pa_c (q_calB (c_max rfl) T.n_max PyProof.Rows.boot_max (q_pa_c (q_calB (c_lenK (K:=K) rfl) T.n_len PySem.boot_len (q_pa_c (q_vv 12) q_pa_nil)) (q_pa_c (q_calB (c_lenK (K:=K) rfl) T.n_len PySem.boot_len (q_pa_c (q_vv 13) q_pa_nil)) q_pa_nil))) q_pa_nil)) (q_pg_name (i:=16) sc_law.nd rfl (by first | exact Or.inl rfl | exact Or.inr rfl)) (q_pss_one (q_ps_for PassesOwn.never rfl (q_pi_enumK (K:=K) rfl rfl T.n_enumerate (q_pa_c (q_me_lst (q_pa_c (q_vv 12) (q_pa_c (q_vv 13) q_pa_nil))) q_pa_nil)) (q_pg_tupK (K:=K) rfl rfl (q_pgs_cons (q_pg_name (i:=17) sc_law.nd rfl (by first | exact Or.inl rfl | exact Or.inr rfl)) (q_pgs_cons (q_pg_name (i:=18) sc_law.nd rfl (by first | exact Or.inl rfl | exact Or.inr rfl)) q_pgs_nil))) (q_pss_one (q_ps_if (q_mt_cmp g_lt (q_vv 16) (q_calB (c_lenK (K:=K) rfl) T.n_len PySem.boot_len (q_pa_c (q_vv 18) q_pa_nil)) (nomark _)) (q_pss_cons (q_ps_if (q_pt_not (q_mt_val (q_cal (h_z_fed T) hr (q_pa_c (q_pe_ix (g_ixK (K:=K) rfl) (q_me_lst (q_pa_c (q_vv 10) (q_pa_c (q_vv 11) q_pa_nil))) (q_vv 17) (fun _ _=>rfl)) (q_pa_c (q_pe_ix (g_ixK (K:=K) rfl) (q_vv 18) (q_vv 16) (fun _ _=>rfl)) (q_pa_c (q_vv 2) (q_pa_c (q_vv 3) (q_pa_c (q_pe_ix (g_ixK (K:=K) rfl) (q_vv 14) (q_vv 17) (fun _ _=>rfl)) (q_pa_c (q_vv 15) q_pa_nil))))))))) (q_pss_one (q_ps_ret q_pe_bl)) q_pss_nil)
      (q_pss_one (q_ps_asg (q_pe_op (g_addK (K:=K) rfl) (q_pe_ix (g_ixK (K:=K) rfl) (q_vv 14) (q_vv 17) (fun _ _=>rfl)) (q_calB (c_lenK (K:=K) rfl) T.n_len PySem.boot_len (q_pa_c (q_pe_ix (g_ixK (K:=K) rfl) (q_vv 18) (q_vv 16) (fun _ _=>rfl)) q_pa_nil))) (q_pg_sub (q_vv 14) (q_vv 17) set_list)))) q_pss_nil)))))
      (q_pss_cons (q_ps_if (q_PW_pt (q_pw_or (q_mt_cmp (g_neK (K:=K) rfl hu) (q_vv 14) (q_me_lst (q_pa_c (q_calB (c_lenK (K:=K) rfl) T.n_len PySem.boot_len (q_pa_c (q_vv 4) q_pa_nil)) (q_pa_c (q_calB (c_lenK (K:=K) rfl) T.n_len PySem.boot_len (q_pa_c (q_vv 4) q_pa_nil)) q_pa_nil))) (nomark _)) (q_pw_or (q_mt_cmp (g_neK (K:=K) rfl hu) (q_meth (h_Reader_feed T) hr (q_vv 10) (q_pa_c (q_me_lst q_pa_nil) q_pa_nil)) (q_me_lst q_pa_nil) (nomark _)) (q_pw_or1 (q_mt_val (q_calB (c_anyK (K:=K) rfl rfl) T.n_any PyProof.Rows.boot_any (q_pa_c (q_pe_comp rfl (CompScope.of (fns:=(defScope s_law).names) (N:=["_law_script", "_law_model_here", "_law_text_here", "_law_behind_here", "_law_row", "_law_page", "_law_sign", "_law_part", "_law_tongue_here", "_law_way", "_law_first", "_law_second", "_law_ones", "_law_others", "_law_taken", "_law_told", "_law_k", "_law_at", "_law_some"]) (Nc:=["_law_found", "_law_kept"]) (nv:=2) (caps:=[]) rfl rfl (by decide +kernel)) (q_pi_listK (K:=K) rfl (q_vv 15)) (fun _ _ _ _=>(q_pg_tupK (K:=K) rfl (n:=2) rfl (q_pgs_cons (q_pg_name (i:=0) (show List.Nodup (["_law_found", "_law_kept"]:List Str) by decide +kernel) rfl (Or.inl rfl) (Or.inr rfl)) (q_pgs_cons (q_pg_name (i:=1) (show List.Nodup (["_law_found", "_law_kept"]:List Str) by decide +kernel) rfl (Or.inl rfl) (Or.inr rfl)) q_pgs_nil)))) (fun _ _ _ _=>q_pts_nil) (fun _ _ _ _=>(q_pe_cmpR (g_neK (K:=K) rfl hu) (q_vv 0) (q_vv 1) (nomark _)))) q_pa_nil))))))) (q_pss_one (q_ps_ret q_pe_bl)) q_pss_nil)
      (q_pss_one (q_ps_ret (q_me_and (q_cal (h_z_over T) hr (q_pa_c (q_vv 11) (q_pa_c (q_calB (c_lenK (K:=K) rfl) T.n_len PySem.boot_len (q_pa_c (q_vv 4) q_pa_nil)) q_pa_nil))) (q_me_and (q_cal (h_z_over T) hr (q_pa_c (q_vv 10) (q_pa_c (q_calB (c_lenK (K:=K) rfl) T.n_len PySem.boot_len (q_pa_c (q_vv 4) q_pa_nil)) q_pa_nil))) (q_pe_one (q_pe_cmpR (g_eqK (K:=K) rfl hu) (q_meth0 (h_Reader_page T) hr (q_vv 11)) (q_pe_ix (g_ixK (K:=K) rfl) (q_pe_ix (g_ixK (K:=K) rfl) (q_vv 3) (q_pe_un un_negM q_pe_int) (fun _ _=>rfl)) q_pe_int (fun _ _=>rfl)) (nomark _))))))))))))))))))))))),?_⟩
  refine ⟨a,sc,0,rfl,h1,fun c0 H1 s1=>?_⟩
  refine ⟨c0,rfl,fun p M H2 s2 mod2=>?_⟩
  have s02:=s1.trans s2
  refine ⟨_,rfl,_,rfl,_,s02.seq h1,fun pc H3 g3=>?_⟩
  rw [show cutV (sc.map V.int) (some 3) (some 63)=((sc.drop 3).take 60).map V.int by rw [cutV_ints]; exact congrArg _ (cutL_mid sc 3 60)] at g3
  refine ⟨p,pc,M,_,rfl,mod2.mono g3.sm,g3.lst,by rw [List.length_take]; omega,fun pt ts H4 s4 ht lt hin=>?_⟩
  have mod4:=(mod2.mono g3.sm).mono s4
  obtain ⟨D0,mt0⟩:=ex_kt M
  have ok0:=mod_kok mod4 mt0
  have hin0:=hin D0 mt0
  refine ⟨p,pt,M,D0,ts,rfl,mod4,mt0,ok0,ht,lt,hin0,fun pb ps H5 s5 hpb bh lps=>?_⟩
  refine ⟨sz rfl,fun p6 H6 g6=>?_⟩
  have s46:=s5.trans g6.sm
  have ht6:=s46 _ _ ht
  have mod6:=mod4.mono s46
  unfold tNext
  dsimp only
  refine ⟨pt,rfl,⟨_,.of ht6⟩,for_list (K:=K) (a:=pt) (xs:=ts.map V.int) (fun i σ H'=>Same H6 H'/\∃ (pr:Addr) (v6 v7:Option V),H' pr=some (.lst ((wrF D0 0 (ts.take i)).1.map V.int))/\σ=[some (.ref a),some (.ref p),some (.ref pt),some (.ref pb),some (.ref pr),some (.int (wrF D0 0 (ts.take i)).2),v6,v7,none,none,none,none,none,none,none,none,none,none,none]) ⟨Same.refl _,p6,_,_,g6.at_,rfl⟩ (fun i σ H' _ z=>z.1.seq (.of ht6)) ?_ ?_⟩
  · rintro i v σ H7 hv ⟨s7,pr,v6,v7,h7,rfl⟩
    obtain ⟨n,hn,rfl⟩:=ints_at hv
    have hsn:=hin0 n (List.mem_of_getElem? hn)
    have hi:i < ts.length:=(List.getElem?_eq_some_iff.mp hn).1
    obtain ⟨pgi,li⟩:=wr_ok ok0 (pgk0 D0) i ts (all_at hin0 i)
    obtain ⟨r,g',eO,ef,_,sl⟩:=spl_in ok0 pgi hsn
    have e:wrF D0 0 (ts.take (i+1))=((wrF D0 0 (ts.take i)).1++r,g'):=by rw [take_snoc hn,wr_snoc,ef]
    refine ⟨p,M,D0,n,_,rfl,mod6.mono s7,mt0,hsn,pgi,fun pz q H8 s8 _ hq hp=>?_⟩
    rw [ef] at hq hp
    refine ⟨pz,_,rfl,.of hp,rfl,_,_,rfl,_,_,rfl,rfl,?_⟩
    refine ⟨_,_,.of (s8 _ _ h7),.of hq,szl (by rw [List.length_map,List.length_map]; dsimp only; omega),fun p9 H9 g9=>?_⟩
    refine ⟨s7.trans (s8.trans g9.sm),p9,_,_,?_,by rw [e]; rfl⟩
    rw [e,List.map_append]
    exact g9.at_
  rintro σ H7 ⟨s7,pr,v6,v7,h7,rfl⟩
  rw [List.length_map,List.take_length] at h7
  rw [List.length_map,List.take_length]
  have mod7:=mod6.mono s7
  refine ⟨p,M,rfl,mod7,fun o D H8 s8 mt tn=>?_⟩
  have hin:=hin D mt
  obtain ⟨ew,_⟩:=mt_eq mt0 mt
  rw [ew] at h7 lps
  have s48:=s46.trans (s7.trans s8)
  have s58:=g6.sm.trans (s7.trans s8)
  have bh8:=(bh.to mt0 mt).mono s58
  have hpb8:=s58 _ _ hpb
  have ht8:=s48 _ _ ht
  have h8:=s8 _ _ h7
  obtain ⟨W,eW⟩ : ∃ W,W=(wrF D 0 ts).1:=⟨_,rfl⟩
  have lW:W.length<=600:=by
    have:=(wr_ok tn.ok (pgk0 D) ts.length ts (all_at hin _)).2
    rw [List.take_length,<- eW] at this
    omega
  rw [<- eW] at h8 lps
  have h18:=((s02.trans g3.sm).trans (s4.trans s48)).seq h1
  refine ⟨a,sc,1,rfl,h18,fun c1 H9 s9=>?_⟩
  refine fun x1 dx1 hx1 hdx1 hne1=>?_
  have sm1:=same_make (C:=t.c_Reader) hx1 hdx1
  refine ⟨x1,dx1,o,0,rfl,upd_same,fun b1 mt1 H10 nb1 nm1 nbm1 k10 hX1 hB1 hM1=>⟨rfl,?_⟩⟩
  have s10:Same H9 H10:=fun c u e=>k10 c u (ne_of_none e hx1) (sm1 c u e)
  refine ⟨a,sc,2,rfl,(s9.trans s10).seq h18,fun c2 H11 s11=>?_⟩
  refine ⟨⟨by decide,by decide,by decide⟩,(show (0:Int) < 10 ^ 60 by decide),?_⟩
  refine fun x2 dx2 hx2 hdx2 hne2=>?_
  have sm2:=same_make (C:=t.c_Reader) hx2 hdx2
  refine ⟨x2,dx2,o,_,rfl,upd_same,fun b2 mt2 H12 nb2 nm2 nbm2 k12 hX2 hB2 hM2=>⟨rfl,?_⟩⟩
  obtain ⟨pl,epl⟩ : ∃ pl:Int,pl=c2%10 ^ 60:=⟨_,rfl⟩
  have hX2:H12 x2=some (RdO t dx2 o b2 mt2 pl 0 0 false):=by rw [epl]; exact hX2
  have s12:Same H11 H12:=fun c u e=>k12 c u (ne_of_none e hx2) (sm2 c u e)
  have s912:=s10.trans (s11.trans s12)
  have h912:=s9.trans s912
  refine ⟨pr,c1,W,rfl,.of (h912 _ _ h8),by omega,fun p1 L1 H13 s13 np1 pc1 fr1 fl1 ll1=>?_⟩
  refine ⟨pr,c1 / 4,W,rfl,.of (s13 _ _ (h912 _ _ h8)),by omega,fun p2 L2 H14 s14 np2 pc2 fr2 fl2 ll2=>?_⟩
  refine ⟨sz rfl,fun tk H15 g15=>?_⟩
  refine ⟨sz rfl,fun tl H16 g16=>?_⟩
  have s1216:Same H12 H16:=s13.trans (s14.trans (g15.sm.trans g16.sm))
  have s1316:Same H13 H16:=s14.trans (g15.sm.trans g16.sm)
  have s1416:Same H14 H16:=g15.sm.trans g16.sm
  have hX1':=s1216 _ _ (s12 _ _ (s11 _ _ hX1))
  have hB1':=s1216 _ _ (s12 _ _ (s11 _ _ hB1))
  have hM1':=s1216 _ _ (s12 _ _ (s11 _ _ hM1))
  have hX2':=s1216 _ _ hX2
  have hB2':=s1216 _ _ hB2
  have hM2':=s1216 _ _ hM2
  have hB1i:=s11 _ _ hB1
  have hM1i:=s11 _ _ hM1
  have nx12:x1≠x2:=ne_of_none (s11 _ _ hX1) hx2
  have nb2i:H11 b2=none:=sm2.free nb2
  have nm2i:H11 mt2=none:=sm2.free nm2
  have nb1i:H9 b1=none:=sm1.free nb1
  have nm1i:H9 mt1=none:=sm1.free nm1
  have ntk : ∀ {c:Addr} {u:HO},H12 c=some u->c≠tk:=fun e=>ne_of_none (s14 _ _ (s13 _ _ e)) g15.nw
  have ntl : ∀ {c:Addr} {u:HO},H12 c=some u->c≠tl:=fun e=>ne_of_none (g15.sm _ _ (s14 _ _ (s13 _ _ e))) g16.nw
  have nd:[b1,mt1,b2,mt2,tk,tl].Nodup:=by
    have e1:b1≠b2:=ne_of_none hB1i nb2i
    have e2:b1≠mt2:=ne_of_none hB1i nm2i
    have e3:mt1≠b2:=ne_of_none hM1i nb2i
    have e4:mt1≠mt2:=ne_of_none hM1i nm2i
    have e5:=ntk (s12 _ _ hB1i)
    have e6:=ntk (s12 _ _ hM1i)
    have e7:=ntk hB2
    have e8:=ntk hM2
    have f5:=ntl (s12 _ _ hB1i)
    have f6:=ntl (s12 _ _ hM1i)
    have f7:=ntl hB2
    have f8:=ntl hM2
    have f9:tk≠tl:=ne_of_none g15.at_ g16.nw
    grind
  obtain ⟨X,eX⟩ : ∃ X,X=[x1,x2,b1,mt1,b2,mt2,tk,tl]:=⟨_,rfl⟩
  obtain ⟨Hb,eHb⟩ : ∃ Hb,Hb=wo H16 X:=⟨_,rfl⟩
  have sb16:Same Hb H16:=by rw [eHb]; exact wo_same
  have fr : ∀ c∈[x1,x2,b1,mt1,b2,mt2,tk,tl],Hb c=none:=fun c hc=>by rw [eHb]; exact wo_in (by rw [eX]; exact hc)
  have n912 : ∀ c∈X,H9 c=none:=fun c hc=>by
    rw [eX] at hc
    simp only [List.mem_cons,List.not_mem_nil,or_false] at hc
    have a1:=(s10.trans s11).free hx2
    have a2:=(s10.trans s11).free nb2i
    have a3:=(s10.trans s11).free nm2i
    have a4:=(s912.trans (s13.trans s14)).free g15.nw
    have a5:=(s912.trans (s13.trans (s14.trans g15.sm))).free g16.nw
    rcases hc with rfl | rfl | rfl | rfl | rfl | rfl | rfl | rfl <;> assumption
  have s9b:Same H9 Hb:=by rw [eHb]; exact Same.wo (s912.trans s1216) n912
  have s8b:=s9.trans s9b
  have tnb:=tn.mono s8b
  have htb:=s8b _ _ ht8
  have hpbb:=s8b _ _ hpb8
  have bhb:=bh8.mono s8b
  have hrb:=s8b _ _ h8
  have inb : ∀ {c:Addr} {u:HO},H12 c=none\/H13 c=none->H16 c=some u->c≠tk->c≠tl->Hb c=some u:=fun {c u} n e nk nl=>by
    rw [eHb]
    refine wo_out (fun hc=>?_) e
    rw [eX] at hc
    simp only [List.mem_cons,List.not_mem_nil,or_false] at hc
    have y1:=s12 _ _ (s11 _ _ hX1)
    have y2:=s12 _ _ hB1i
    have y3:=s12 _ _ hM1i
    have z:H12 c=none:=n.elim id fun h=>s13.free h
    rcases hc with rfl | rfl | rfl | rfl | rfl | rfl | rfl | rfl
    · rw [y1] at z; cases z
    · rw [hX2] at z; cases z
    · rw [y2] at z; cases z
    · rw [y3] at z; cases z
    · rw [hB2] at z; cases z
    · rw [hM2] at z; cases z
    · exact nk rfl
    · exact nl rfl
  have npt : ∀ {c:Addr} {u:HO},H14 c=some u->c≠tk/\c≠tl:=fun e=>⟨ne_of_none e g15.nw,ne_of_none (g15.sm _ _ e) g16.nw⟩
  have pos : ∀ j,j < ts.length->0 < (rk D ts j).length:=fun j hj=>rk_pos tn.ok hin hj
  have hp1b:Hb p1=some (.lst (L1.map fun y=>V.ref y.1)):=inb (.inl np1) (s1316 _ _ pc1.1) (npt (s14 _ _ pc1.1)).1 (npt (s14 _ _ pc1.1)).2
  have hp2b:Hb p2=some (.lst (L2.map fun y=>V.ref y.1)):=inb (.inr np2) (s1416 _ _ pc2.1) (npt pc2.1).1 (npt pc2.1).2
  have hy1 : ∀ y∈L1,Hb y.1=some (.lst (y.2.map V.int)):=fun y hy=>inb (.inl (fr1 y hy)) (s1316 _ _ (pc1.2 y hy).2) (npt (s14 _ _ (pc1.2 y hy).2)).1 (npt (s14 _ _ (pc1.2 y hy).2)).2
  have hy2 : ∀ y∈L2,Hb y.1=some (.lst (y.2.map V.int)):=fun y hy=>inb (.inr (fr2 y hy)) (s1416 _ _ (pc2.2 y hy).2) (npt (pc2.2 y hy).2).1 (npt (pc2.2 y hy).2).2
  have t0:Tn t Hb o D ts x1 dx1 mt1 x2 dx2 mt2 tk tl pl L1 L2 0 0 H16:=⟨b1,b2,0,0,0,0,[],⟨sb16,⟨⟨hX1',hB1',hM1'⟩,.zero pos⟩,⟨⟨hX2',hB2',hM2'⟩,.zero pos⟩,g16.at_,(fun q h=>nomatch h),nd,nx12,fr,⟨_,g16.sm _ _ g15.at_⟩⟩,Nat.zero_le _,g16.sm _ _ g15.at_⟩
  refine ⟨_,.inl (.of (sb16 _ _ hp1b)),_,.inl (.of (sb16 _ _ hp2b)),?_⟩
  obtain ⟨Mx,eMx,m1,m2,m3⟩ : ∃ Mx:Nat,(if ((L2.map fun y=>V.ref y.1).length:Int) > ((L1.map fun y=>V.ref y.1).length:Int) then ((L2.map fun y=>V.ref y.1).length:Int) else ((L1.map fun y=>V.ref y.1).length:Int))=(Mx:Int)/\L1.length<=Mx/\L2.length<=Mx/\Mx<=2000:=by
    rw [List.length_map,List.length_map]
    split
    · exact ⟨L2.length,rfl,by omega,by omega,by omega⟩
    · exact ⟨L1.length,rfl,by omega,by omega,by omega⟩
  refine ⟨(Mx:Int),by rw [<- eMx],by omega,by omega,?_⟩
  rw [Int.toNat_natCast]
  refine for_range (lo:=0) (n:=Mx) (fun k σ H'=>Tn t Hb o D ts x1 dx1 mt1 x2 dx2 mt2 tk tl pl L1 L2 k k H'/\∃ v16 v17 v18,σ=[some (.ref a),some (.ref p),some (.ref pt),some (.ref pb),some (.ref pr),some (.int (wrF D0 0 ts).2),v6,v7,some (.ref o),some (.int c1),some (.ref x1),some (.ref x2),some (.ref p1),some (.ref p2),some (.ref tk),some (.ref tl),v16,v17,v18]) ⟨t0,_,_,_,rfl⟩ ?_ ?_
  · rintro k σ H17 hk ⟨⟨c1',c2',k1,m1',k2,m2',L,lw,lL,htk⟩,v16,v17,v18,rfl⟩
    refine ⟨sz rfl,fun pe H18 g18=>?_⟩
    obtain ⟨Hc,sc',lwc,inc⟩:=(lw.mono g18.sm).up
    have hpe:Hc pe=some (.lst [.ref p1,.ref p2]):=inc _ _ g18.at_ (lw.away g18.nw)
    have down : ∀ n1 n2 H',Tn t Hc o D ts x1 dx1 mt1 x2 dx2 mt2 tk tl pl L1 L2 n1 n2 H'->Tn t Hb o D ts x1 dx1 mt1 x2 dx2 mt2 tk tl pl L1 L2 n1 n2 H':=fun n1 n2 H' z=>by
      obtain ⟨b1,b2,k1,m1,k2,m2,L,l,z⟩:=z
      exact ⟨b1,b2,k1,m1,k2,m2,L,l.down sc',z⟩
    refine ⟨pe,_,rfl,.of (lwc.sb _ _ hpe),for_enum (K:=K) (a:=pe) (xs:=[.ref p1,.ref p2]) (fun i σ H'=>Tn t Hc o D ts x1 dx1 mt1 x2 dx2 mt2 tk tl pl L1 L2 (k+min i 1) (k+(i - 1)) H'/\∃ v17 v18,σ=[some (.ref a),some (.ref p),some (.ref pt),some (.ref pb),some (.ref pr),some (.int (wrF D0 0 ts).2),v6,v7,some (.ref o),some (.int c1),some (.ref x1),some (.ref x2),some (.ref p1),some (.ref p2),some (.ref tk),some (.ref tl),some (.int (0+(k:Int))),v17,v18])
      ⟨⟨c1',c2',k1,m1',k2,m2',L,lwc,lL,g18.sm _ _ htk⟩,_,_,rfl⟩ (fun i σ H' _ z=>by obtain ⟨⟨_,_,_,_,_,_,_,l,_⟩,_⟩:=z; exact .of (l.sb _ _ hpe)) ?_ ?_⟩
    · rintro i v p' σ J H19 hv ⟨⟨d1,d2,k1,m1',k2,m2',L,lw,lL,htk⟩,v17,v18,rfl⟩ g19
      refine ⟨p',_,rfl,g19.tup,rfl,_,_,rfl,_,_,rfl,rfl,?_⟩
      have lw:=lw.mono g19.sm
      have htk:=g19.sm _ _ htk
      match i,hv with
      | 0,hv =>
        cases hv
        refine ⟨_,.inl (.of (lw.sb _ _ (sc' _ _ hp1b))),?_⟩
        refine ite2 (fun z=>?_) (fun z=>?_)
        · have z:0+(k:Int) < ((L1.map fun y=>V.ref y.1).length:Int):=of_decide_eq_true z
          rw [List.length_map] at z
          obtain ⟨y,hy⟩ : ∃ y,L1[k]? = some y:=⟨_,List.getElem?_eq_getElem (by omega)⟩
          have hyb:=hy1 y (List.mem_of_getElem? hy)
          have iy:atI (L1.map fun y=>V.ref y.1) (0+(k:Int))=some (.ref y.1):=by rw [Int.zero_add]; exact atI_nat (by rw [List.getElem?_map,hy]; rfl)
          obtain ⟨fa,fl⟩:=flt_at hy
          rw [fl1] at fa fl
          have ft:=flt_take hy
          have ftl:(flt (L1.take (k+1))).length=(flt (L1.take k)).length+y.2.length:=by rw [ft,List.length_append]
          refine ⟨sz rfl,fun pz H20 g20=>?_⟩
          have lw:=lw.mono g20.sm
          have htk:=g20.sm _ _ htk
          refine ⟨_,_,.inl g20.lst,atI_nat (j:=0) rfl,?_⟩
          refine ⟨_,_,.inl (.of (lw.sb _ _ (sc' _ _ hp1b))),iy,?_⟩
          refine ⟨_,_,.inl (.of htk),atI_nat (j:=0) rfl,?_⟩
          have lr:=lw
          have swz:Same Hb (wo H20 [x1,d1,mt1,tl]):=sc'.trans (Same.wo lr.sb fun c hc=>lr.fr c (by
            simp only [List.mem_cons,List.not_mem_nil,or_false] at hc ⊢
            grind))
          have ndr:=lr.nd
          simp only [List.nodup_cons,List.mem_cons,List.not_mem_nil,or_false,not_or,not_false_eq_true,List.nodup_nil,and_true] at ndr
          refine ⟨wo H20 [x1,d1,mt1,tl],x1,dx1,o,d1,mt1,y.1,pt,pb,tl,D,ts,y.2,ps,L,0,_,k1,m1',rfl,tnb.mono swz,wo_same,(fun c hc=>wo_in hc),by grind,by grind,by grind,hin,lt,swz _ _ hyb,by omega,swz _ _ htb,swz _ _ hpbb,bhb.mono swz,by rw [lps,eW],by rw [<- eW]; exact fl,(fun i hi=>by rw [<- eW]; exact fa i hi),lr.r1.1,lr.r1.2,lr.ht,by omega,fun q a' c' b' ns k' m' H21 s21 fb' nbm' nbt' rd21 st21 ht21 hq21 ha21 hc21 fa' fc' na' nc'=>?_⟩
          obtain ⟨lw21,tk21⟩:=lr.step s21 fb' nbm' nbt' rd21 st21 ht21 hq21 ha21 hc21 fa' fc' na' nc'
          have htk21:=tk21 _ htk
          refine ⟨_,_,.inl (.of htk21),atI_nat (j:=0) rfl,?_⟩
          refine ⟨_,_,.inl (.of (lw21.sb _ _ (sc' _ _ hp1b))),iy,?_⟩
          refine ⟨_,.inl (.of (lw21.sb _ _ (sc' _ _ hyb))),?_⟩
          refine ⟨tk,_,_,0,rfl,rfl,htk21,rfl,?_⟩
          rw [List.length_map]
          refine ⟨⟨b',d2,k',m',k2,m2',L++[q],?_,by rw [List.length_append]; show _+1<=_; omega,?_⟩,_,_,rfl⟩
          · show Lw t Hc _ o D ts ⟨x1,dx1,b',mt1,0,(flt (L1.take (k+1))).length,k',m'⟩ ⟨x2,dx2,d2,mt2,pl,(flt (L2.take (k+0))).length,k2,m2'⟩ tk tl (L++[q])
            rw [ftl]
            exact lw21.put
          · rw [upd_same]
            show _=some (HO.lst [.int ((flt (L1.take (k+1))).length:Int),.int ((flt (L2.take (k+0))).length:Int)])
            rw [ftl,Int.natCast_add]
            rfl
        · have z : ¬ 0+(k:Int) < ((L1.map fun y=>V.ref y.1).length:Int):=fun y=>z (decide_eq_true y)
          rw [List.length_map] at z
          have ek:L1.take (k+1)=L1.take k:=by rw [List.take_of_length_le (by omega),List.take_of_length_le (by omega)]
          refine ⟨⟨d1,d2,k1,m1',k2,m2',L,?_,by omega,?_⟩,_,_,rfl⟩
          · show Lw t Hc _ o D ts ⟨x1,dx1,d1,mt1,0,(flt (L1.take (k+1))).length,k1,m1'⟩ ⟨x2,dx2,d2,mt2,pl,(flt (L2.take (k+0))).length,k2,m2'⟩ tk tl L
            rw [ek]
            exact lw
          · show _=some (HO.lst [.int ((flt (L1.take (k+1))).length:Int),.int ((flt (L2.take (k+0))).length:Int)])
            rw [ek]
            exact htk
      | 1,hv =>
        cases hv
        refine ⟨_,.inl (.of (lw.sb _ _ (sc' _ _ hp2b))),?_⟩
        refine ite2 (fun z=>?_) (fun z=>?_)
        · have z:0+(k:Int) < ((L2.map fun y=>V.ref y.1).length:Int):=of_decide_eq_true z
          rw [List.length_map] at z
          obtain ⟨y,hy⟩ : ∃ y,L2[k]? = some y:=⟨_,List.getElem?_eq_getElem (by omega)⟩
          have hyb:=hy2 y (List.mem_of_getElem? hy)
          have iy:atI (L2.map fun y=>V.ref y.1) (0+(k:Int))=some (.ref y.1):=by rw [Int.zero_add]; exact atI_nat (by rw [List.getElem?_map,hy]; rfl)
          obtain ⟨fa,fl⟩:=flt_at hy
          rw [fl2] at fa fl
          have ft:=flt_take hy
          have ftl:(flt (L2.take (k+1))).length=(flt (L2.take k)).length+y.2.length:=by rw [ft,List.length_append]
          refine ⟨sz rfl,fun pz H20 g20=>?_⟩
          have lw:=lw.mono g20.sm
          have htk:=g20.sm _ _ htk
          refine ⟨_,_,.inl g20.lst,atI_nat (j:=1) rfl,?_⟩
          refine ⟨_,_,.inl (.of (lw.sb _ _ (sc' _ _ hp2b))),iy,?_⟩
          refine ⟨_,_,.inl (.of htk),atI_nat (j:=1) rfl,?_⟩
          have lr:=lw.swap
          have swz:Same Hb (wo H20 [x2,d2,mt2,tl]):=sc'.trans (Same.wo lr.sb fun c hc=>lr.fr c (by
            simp only [List.mem_cons,List.not_mem_nil,or_false] at hc ⊢
            grind))
          have ndr:=lr.nd
          simp only [List.nodup_cons,List.mem_cons,List.not_mem_nil,or_false,not_or,not_false_eq_true,List.nodup_nil,and_true] at ndr
          refine ⟨wo H20 [x2,d2,mt2,tl],x2,dx2,o,d2,mt2,y.1,pt,pb,tl,D,ts,y.2,ps,L,pl,_,k2,m2',rfl,tnb.mono swz,wo_same,(fun c hc=>wo_in hc),by grind,by grind,by grind,hin,lt,swz _ _ hyb,by omega,swz _ _ htb,swz _ _ hpbb,bhb.mono swz,by rw [lps,eW],by rw [<- eW]; exact fl,(fun i hi=>by rw [<- eW]; exact fa i hi),lr.r1.1,lr.r1.2,lr.ht,by omega,fun q a' c' b' ns k' m' H21 s21 fb' nbm' nbt' rd21 st21 ht21 hq21 ha21 hc21 fa' fc' na' nc'=>?_⟩
          obtain ⟨lw21,tk21⟩:=lr.step s21 fb' nbm' nbt' rd21 st21 ht21 hq21 ha21 hc21 fa' fc' na' nc'
          have htk21:=tk21 _ htk
          refine ⟨_,_,.inl (.of htk21),atI_nat (j:=1) rfl,?_⟩
          refine ⟨_,_,.inl (.of (lw21.sb _ _ (sc' _ _ hp2b))),iy,?_⟩
          refine ⟨_,.inl (.of (lw21.sb _ _ (sc' _ _ hyb))),?_⟩
          refine ⟨tk,_,_,1,rfl,rfl,htk21,rfl,?_⟩
          rw [List.length_map]
          refine ⟨⟨d1,b',k1,m1',k',m',L++[q],?_,by rw [List.length_append]; show _+1<=_; omega,?_⟩,_,_,rfl⟩
          · show Lw t Hc _ o D ts ⟨x1,dx1,d1,mt1,0,(flt (L1.take (k+1))).length,k1,m1'⟩ ⟨x2,dx2,b',mt2,pl,(flt (L2.take (k+1))).length,k',m'⟩ tk tl (L++[q])
            rw [ftl]
            exact lw21.put.swap
          · rw [upd_same]
            show _=some (HO.lst [.int ((flt (L1.take (k+1))).length:Int),.int ((flt (L2.take (k+1))).length:Int)])
            rw [ftl,Int.natCast_add]
            rfl
        · have z : ¬ 0+(k:Int) < ((L2.map fun y=>V.ref y.1).length:Int):=fun y=>z (decide_eq_true y)
          rw [List.length_map] at z
          have ek:L2.take (k+1)=L2.take k:=by rw [List.take_of_length_le (by omega),List.take_of_length_le (by omega)]
          refine ⟨⟨d1,d2,k1,m1',k2,m2',L,?_,by omega,?_⟩,_,_,rfl⟩
          · show Lw t Hc _ o D ts ⟨x1,dx1,d1,mt1,0,(flt (L1.take (k+1))).length,k1,m1'⟩ ⟨x2,dx2,d2,mt2,pl,(flt (L2.take (k+1))).length,k2,m2'⟩ tk tl L
            rw [ek]
            exact lw
          · show _=some (HO.lst [.int ((flt (L1.take (k+1))).length:Int),.int ((flt (L2.take (k+1))).length:Int)])
            rw [ek]
            exact htk
      | (n+2),hv=>cases hv
    · rintro σ J ⟨z,v17,v18,rfl⟩
      exact ⟨down _ _ _ z,_,_,_,rfl⟩
  · rintro σ H17 ⟨⟨d1,d2,k1,m1',k2,m2',L,lw,lL,htk⟩,v16,v17,v18,rfl⟩
    rw [List.take_of_length_le m1,List.take_of_length_le m2,fl1,fl2] at lw htk
    have hr17:=lw.sb _ _ hrb
    refine ⟨_,.inl (.of hr17),_,.inl (.of hr17),?_⟩
    refine ⟨sz rfl,fun p18 H18 g18=>?_⟩
    refine ⟨_,_,DataV.lst (.of (g18.sm _ _ htk)) (DataVs.ints [(W.length:Int),(W.length:Int)]),DataV.lst g18.lst (DataVs.ints [((W.map V.int).length:Int),((W.map V.int).length:Int)]),PySem.W.ke_shaped_ints _,PySem.W.ke_shaped_ints _,?_⟩
    refine ite2 (fun z=>absurd (show (!PyData.eqv (.list ([(W.length:Int),(W.length:Int)].map PyData.int)) (.list ([((W.map V.int).length:Int),((W.map V.int).length:Int)].map PyData.int)))=true from z) (by rw [eqv_ints,List.length_map]; simp)) (fun _=>?_)
    have ste:Stt D ts W.length ts.length 0:=by
      have:=stt_at pos (Nat.le_refl ts.length)
      rw [List.take_length,<- eW] at this
      exact this
    have lw18:=lw.mono g18.sm
    obtain ⟨u1,u2⟩:=lw18.r1.2.uniq ste
    obtain ⟨u3,u4⟩:=lw18.r2.2.uniq ste
    dsimp only at u1 u2 u3 u4
    rw [u1,u2,u3,u4] at lw18
    refine ⟨x1,dx1,_,rfl,lw18.r1.1.1,rfl,?_⟩
    refine ⟨sz rfl,fun p19 H19 g19=>?_⟩
    have aw:=lw18.away g19.nw
    have lw19:=lw18.mono g19.sm
    have nd9:=lw19.nd
    simp only [List.nodup_cons,List.mem_cons,List.not_mem_nil,or_false,not_or,not_false_eq_true,List.nodup_nil,and_true] at nd9 aw
    have swz:Same Hb (wo H19 [x1,d1,mt1]):=Same.wo lw19.sb fun c hc=>lw19.fr c (by
      simp only [List.mem_cons,List.not_mem_nil,or_false] at hc ⊢
      grind)
    have wk : ∀ c u,c≠x1->c≠d1->c≠mt1->H19 c=some u->wo H19 [x1,d1,mt1] c=some u:=fun c u n1 n2 n3 e=>wo_out (by simp only [List.mem_cons,List.not_mem_nil,or_false,not_or]; exact ⟨n1,n2,n3⟩) e
    have wp:=wk _ _ (by grind) (by grind) (by grind) g19.at_
    obtain ⟨hx1',hb1',hm1'⟩:=lw19.r1.1
    obtain ⟨hx2',hb2',hm2'⟩:=lw19.r2.1
    dsimp only at hx1' hb1' hm1' hx2' hb2' hm2'
    refine .inl ⟨wo H19 [x1,d1,mt1],x1,dx1,o,d1,mt1,p19,D,ts,[],0,W.length,ts.length,0,rfl,tnb.mono swz,wo_same,wo_in (by simp),wo_in (by simp),wo_in (by simp),by grind,hin,by omega,.of wp,(fun i hi=>absurd hi (Nat.not_lt_zero _)),⟨hx1',hb1',hm1'⟩,ste,fun q b' k' m' H20 s20 nq fb' nbm' nqb rd20 hq20 hkk st20=>?_⟩
    obtain ⟨u5,u6⟩:=Stt.uniq st20 ste
    rw [u5,u6] at rd20
    rw [u5,List.take_length,List.drop_length] at hq20
    refine ⟨sz rfl,fun p21 H21 g21=>?_⟩
    refine ⟨_,_,DataV.lst (.of (g21.sm _ _ hq20)) (DataVs.ints []),DataV.lst g21.lst (DataVs.ints []),PySem.W.ke_shaped_ints [],PySem.W.ke_shaped_ints [],?_⟩
    refine ite2 (fun z=>absurd (show (!PyData.eqv (.list (([]:List Int).map PyData.int)) (.list (([]:List Int).map PyData.int)))=true from z) (by rw [eqv_ints]; simp)) (fun _=>?_)
    have s921:=s20.trans g21.sm
    have kx : ∀ {c:Addr} {xs:List V},H19 c=some (.lst xs)->c≠x1:=fun e=>ne_kind e hx1' (by intro z; cases z)
    have htl21:=s921 _ _ (wk _ _ (kx lw19.ht) (by grind) (by grind) lw19.ht)
    have td21 : ∀ q∈L,∃ (a b:Addr) (ns:List Int),H21 q=some (.tup [.ref a,.ref b])/\H21 a=some (.lst (ns.map V.int))/\H21 b=some (.lst (ns.map V.int)):=fun q hq=>by
      obtain ⟨a,b,ns,e1,e2,e3,n1,n2⟩:=lw19.td q hq
      simp only [List.mem_cons,List.not_mem_nil,or_false,not_or] at n1 n2
      exact ⟨a,b,ns,s921 _ _ (wk _ _ (ne_kind e1 hx1' (by intro z; cases z)) (ne_kind e1 hb1' (by intro z; cases z)) (ne_kind e1 hm1' (by intro z; cases z)) e1),s921 _ _ (wk _ _ (kx e2) n1.1 n1.2.1 e2),s921 _ _ (wk _ _ (kx e3) n2.1 n2.2.1 e3)⟩
    have hx221:=s921 _ _ (wk _ _ lw19.nx.symm (ne_kind hx2' hb1' (by intro z; cases z)) (ne_kind hx2' hm1' (by intro z; cases z)) hx2')
    have hb221:=s921 _ _ (wk _ _ (kx hb2') (by grind) (by grind) hb2')
    have hm221:=s921 _ _ (wk _ _ (kx hm2') (by grind) (by grind) hm2')
    have sb21:Same Hb H21:=swz.trans s921
    refine ⟨tl,rfl,⟨_,.of htl21⟩,comp_pairs (K:=K) (a:=tl) (xs:=L.map V.ref) (fun i ys H'=>H'=H21/\ys=(List.replicate i false).map V.bl) ⟨rfl,rfl⟩ (fun i ys H' _ z=>⟨by rw [z.1]; exact .of htl21,by rw [z.2]; simp⟩) (szl (by rw [List.length_map]; omega)) (fun i v ys H' hv z=>?_) fun ys H' p22 H22 z g22=>?_⟩
    · obtain ⟨rfl,rfl⟩:=z
      rw [List.getElem?_map] at hv
      obtain ⟨q',e1,e2⟩:=Option.map_eq_some_iff.mp hv
      obtain ⟨a',b'',ns,e3,e4,e5⟩:=td21 q' (List.mem_of_getElem? e1)
      refine ⟨q',.ref a',.ref b'',e2.symm,.of e3,fun N hN=>?_⟩
      simp only [tTrue,if_true]
      refine ⟨_,_,DataV.lst (.of e4) (DataVs.ints ns),DataV.lst (.of e5) (DataVs.ints ns),PySem.W.ke_shaped_ints ns,PySem.W.ke_shaped_ints ns,?_⟩
      refine hN _ _ ⟨rfl,?_⟩
      rw [List.replicate_succ',List.map_append]
      congr 1
      show [V.bl (!PyData.eqv (.list (ns.map PyData.int)) (.list (ns.map PyData.int)))]=[V.bl false]
      rw [eqv_ints,decide_eq_true rfl]
      rfl
    obtain ⟨rfl,rfl⟩:=z
    refine ⟨_,g22.lst,?_⟩
    refine ite2 (fun z=>absurd z (by simp)) (fun _=>?_)
    have sb22:=sb21.trans g22.sm
    have lWm:((W.map V.int).length:Int)=(W.length:Int):=by rw [List.length_map]
    refine ⟨_,.inl (.of (sb22 _ _ hrb)),?_⟩
    refine ⟨x2,dx2,o,d2,mt2,pl,_,_,rfl,by rw [lWm]; exact g22.sm _ _ hx221,g22.sm _ _ hb221,g22.sm _ _ hm221,fun H23 k23 hx23=>?_⟩
    have fx2:Hb x2=none:=fr x2 (by simp)
    have fx1:Hb x1=none:=fr x1 (by simp)
    have sb23:Same Hb H23:=fun c u e=>k23 _ _ (ne_of_none e fx2) (sb22 _ _ e)
    obtain ⟨hx20,hb20,hm20⟩:=rd20
    have hx123:=k23 _ _ nx12 (g22.sm _ _ (g21.sm _ _ hx20))
    have hb123:=k23 _ _ (ne_kind (g21.sm _ _ hb20) hx221 (by intro z; cases z)) (g22.sm _ _ (g21.sm _ _ hb20))
    have hm123:=k23 _ _ (ne_kind (g21.sm _ _ hm20) hx221 (by intro z; cases z)) (g22.sm _ _ (g21.sm _ _ hm20))
    refine ⟨_,.inl (.of (sb23 _ _ hrb)),?_⟩
    refine ⟨x1,dx1,o,b',mt1,0,_,_,rfl,by rw [lWm]; exact hx123,hb123,hm123,fun H24 k24 hx24=>?_⟩
    have sb24:Same Hb H24:=fun c u e=>k24 _ _ (ne_of_none e fx1) (sb23 _ _ e)
    have hx224:=k24 _ _ nx12.symm hx23
    obtain ⟨ql,hql⟩ : ∃ q,ps[W.length]? = some q:=⟨_,List.getElem?_eq_getElem (by omega)⟩
    obtain ⟨kl,ml,stl,el⟩:=bhb _ _ hql
    obtain ⟨u7,u8⟩:=stl.uniq ste
    rw [u7,u8] at el
    obtain ⟨ys,ey⟩ : ∃ ys,ps=ys++[ql]:=by
      refine ⟨ps.take W.length,?_⟩
      rw [<- take_snoc hql,List.take_of_length_le (by omega)]
    have il:atI (ps.map V.ref) (-1)=some (.ref ql):=by rw [ey,List.map_append]; exact atI_last _ _
    refine ⟨x2,dx2,_,rfl,hx224,rfl,x2,dx2,o,d2,mt2,pl,_,_,true,rfl,hx224,?_⟩
    refine ⟨_,_,.inl (.of (sb24 _ _ hpbb)),il,?_⟩
    refine ⟨_,_,.inr (.of (sb24 _ _ el)),atI_nat (j:=1) rfl,?_⟩
    exact fitB (kq _) (by simp)
end
end My
namespace My
open PySem L2
theorem lm1 {Pm:List Value->Prop} (h : ∀ x0,Pm [x0]) : ∀ us:List Value,us.length=1->Pm us
  | [x0],_=>h x0
theorem lm2 {Pm:List Value->Prop} (h : ∀ x0 x1,Pm [x0,x1]) : ∀ us:List Value,us.length=2->Pm us
  | [x0,x1],_=>h x0 x1
theorem lm3 {Pm:List Value->Prop} (h : ∀ x0 x1 x2,Pm [x0,x1,x2]) : ∀ us:List Value,us.length=3->Pm us
  | [x0,x1,x2],_=>h x0 x1 x2
theorem lm6 {Pm:List Value->Prop} (h : ∀ x0 x1 x2 x3 x4 x5,Pm [x0,x1,x2,x3,x4,x5]) : ∀ us:List Value,us.length=6->Pm us
  | [x0,x1,x2,x3,x4,x5],_=>h x0 x1 x2 x3 x4 x5
theorem txt_mk {w:World} {K:W.Frag} {h:Heap} {mg:Str->Option Value} (X:K.In h) (G:h.Ns mainGlobals mg)
 {a0:Addr} {od0 an0:Option Addr} {sl0:Array (Option Value)} {oc0 kV0 dc0 pm0 cd0 ct0:Value}
 {ccReader:Addr}
 {dV0:Addr} {ddc0:Value} {ddd0:Option Addr} {ddn0:Nat} {dsl0:Array (Option Value)} {ud0_0:Tok}
 {a1:Addr} {od1 an1:Option Addr} {sl1:Array (Option Value)} {oc1 kV1 dc1 pm1 cd1 ct1:Value}
 {a2:Addr} {od2 an2:Option Addr} {sl2:Array (Option Value)} {oc2 kV2 dc2 pm2 cd2 ct2:Value}
 {a3:Addr} {od3 an3:Option Addr} {sl3:Array (Option Value)} {oc3 kV3 dc3 pm3 cd3 ct3:Value}
 {a4:Addr} {od4 an4:Option Addr} {sl4:Array (Option Value)} {oc4 kV4 dc4 pm4 cd4 ct4:Value}
 {a5:Addr} {od5 an5:Option Addr} {sl5:Array (Option Value)} {oc5 kV5 dc5 pm5 cd5 ct5:Value}
 {a6:Addr} {od6 an6:Option Addr} {sl6:Array (Option Value)} {oc6 kV6 dc6 pm6 cd6 ct6:Value}
 {a7:Addr} {od7 an7:Option Addr} {sl7:Array (Option Value)} {oc7 kV7 dc7 pm7 cd7 ct7:Value}
 {a8:Addr} {od8 an8:Option Addr} {sl8:Array (Option Value)} {oc8 kV8 dc8 pm8 cd8 ct8:Value}
 {a9:Addr} {od9 an9:Option Addr} {sl9:Array (Option Value)} {oc9 kV9 dc9 pm9 cd9 ct9:Value}
 {a10:Addr} {od10 an10:Option Addr} {sl10:Array (Option Value)} {oc10 kV10 dc10 pm10 cd10 ct10:Value}
 {a11:Addr} {od11 an11:Option Addr} {sl11:Array (Option Value)} {oc11 kV11 dc11 pm11 cd11 ct11:Value}
 {a12:Addr} {od12 an12:Option Addr} {sl12:Array (Option Value)} {oc12 kV12 dc12 pm12 cd12 ct12:Value}
 {a13:Addr} {od13 an13:Option Addr} {sl13:Array (Option Value)} {oc13 kV13 dc13 pm13 cd13 ct13:Value}
 {a14:Addr} {od14 an14:Option Addr} {sl14:Array (Option Value)} {oc14 kV14 dc14 pm14 cd14 ct14:Value}
 {a15:Addr} {od15 an15:Option Addr} {sl15:Array (Option Value)} {oc15 kV15 dc15 pm15 cd15 ct15:Value}
 {a16:Addr} {od16 an16:Option Addr} {sl16:Array (Option Value)} {oc16 kV16 dc16 pm16 cd16 ct16:Value}
 {a17:Addr} {od17 an17:Option Addr} {sl17:Array (Option Value)} {oc17 kV17 dc17 pm17 cd17 ct17:Value}
 {a18:Addr} {od18 an18:Option Addr} {sl18:Array (Option Value)} {oc18 kV18 dc18 pm18 cd18 ct18:Value}
 {a19:Addr} {od19 an19:Option Addr} {sl19:Array (Option Value)} {oc19 kV19 dc19 pm19 cd19 ct19:Value}
 {a20:Addr} {od20 an20:Option Addr} {sl20:Array (Option Value)} {oc20 kV20 dc20 pm20 cd20 ct20:Value}
 {a21:Addr} {od21 an21:Option Addr} {sl21:Array (Option Value)} {oc21 kV21 dc21 pm21 cd21 ct21:Value}
 {a22:Addr} {od22 an22:Option Addr} {sl22:Array (Option Value)} {oc22 kV22 dc22 pm22 cd22 ct22:Value}
 {ccTongue:Addr}
 {a23:Addr} {od23 an23:Option Addr} {sl23:Array (Option Value)} {oc23 kV23 dc23 pm23 cd23 ct23:Value}
 {dV23:Addr} {ddc23:Value} {ddd23:Option Addr} {ddn23:Nat} {dsl23:Array (Option Value)} {ud23_0:Tok}
 {a24:Addr} {od24 an24:Option Addr} {sl24:Array (Option Value)} {oc24 kV24 dc24 pm24 cd24 ct24:Value}
 {dV24:Addr} {ddc24:Value} {ddd24:Option Addr} {ddn24:Nat} {dsl24:Array (Option Value)} {ud24_0:Tok}
 {a25:Addr} {od25 an25:Option Addr} {sl25:Array (Option Value)} {oc25 kV25 dc25 pm25 cd25 ct25:Value}
 {dV25:Addr} {ddc25:Value} {ddd25:Option Addr} {ddn25:Nat} {dsl25:Array (Option Value)} {ud25_0:Tok}
 {a26:Addr} {od26 an26:Option Addr} {sl26:Array (Option Value)} {oc26 kV26 dc26 pm26 cd26 ct26:Value}
 {a27:Addr} {od27 an27:Option Addr} {sl27:Array (Option Value)} {oc27 kV27 dc27 pm27 cd27 ct27:Value}
 {a28:Addr} {od28 an28:Option Addr} {sl28:Array (Option Value)} {oc28 kV28 dc28 pm28 cd28 ct28:Value}
 {a29:Addr} {od29 an29:Option Addr} {sl29:Array (Option Value)} {oc29 kV29 dc29 pm29 cd29 ct29:Value}
 {a30:Addr} {od30 an30:Option Addr} {sl30:Array (Option Value)} {oc30 kV30 dc30 pm30 cd30 ct30:Value}
 {a31:Addr} {od31 an31:Option Addr} {sl31:Array (Option Value)} {oc31 kV31 dc31 pm31 cd31 ct31:Value}
 {ccLeadTongue:Addr}
 {dV31:Addr} {ddc31:Value} {ddd31:Option Addr} {ddn31:Nat} {dsl31:Array (Option Value)} {ud31_0:Tok}
 {a32:Addr} {od32 an32:Option Addr} {sl32:Array (Option Value)} {oc32 kV32 dc32 pm32 cd32 ct32:Value}
 {dV32:Addr} {ddc32:Value} {ddd32:Option Addr} {ddn32:Nat} {dsl32:Array (Option Value)} {ud32_0:Tok}
 {a33:Addr} {od33 an33:Option Addr} {sl33:Array (Option Value)} {oc33 kV33 dc33 pm33 cd33 ct33:Value}
 {a34:Addr} {od34 an34:Option Addr} {sl34:Array (Option Value)} {oc34 kV34 dc34 pm34 cd34 ct34:Value}
 {ccPairTongue:Addr}
 {dV34:Addr} {ddc34:Value} {ddd34:Option Addr} {ddn34:Nat} {dsl34:Array (Option Value)} {ud34_0:Tok}
 {a35:Addr} {od35 an35:Option Addr} {sl35:Array (Option Value)} {oc35 kV35 dc35 pm35 cd35 ct35:Value}
 {a36:Addr} {od36 an36:Option Addr} {sl36:Array (Option Value)} {oc36 kV36 dc36 pm36 cd36 ct36:Value}
 {a37:Addr} {od37 an37:Option Addr} {sl37:Array (Option Value)} {oc37 kV37 dc37 pm37 cd37 ct37:Value}
 {a38:Addr} {od38 an38:Option Addr} {sl38:Array (Option Value)} {oc38 kV38 dc38 pm38 cd38 ct38:Value}
 {dV38:Addr} {ddc38:Value} {ddd38:Option Addr} {ddn38:Nat} {dsl38:Array (Option Value)} {ud38_0:Tok}
 {a39:Addr} {od39 an39:Option Addr} {sl39:Array (Option Value)} {oc39 kV39 dc39 pm39 cd39 ct39:Value}
 {dV39:Addr} {ddc39:Value} {ddd39:Option Addr} {ddn39:Nat} {dsl39:Array (Option Value)} {ud39_0:Tok}
 {a40:Addr} {od40 an40:Option Addr} {sl40:Array (Option Value)} {oc40 kV40 dc40 pm40 cd40 ct40:Value}
 {a41:Addr} {od41 an41:Option Addr} {sl41:Array (Option Value)} {oc41 kV41 dc41 pm41 cd41 ct41:Value}
 {a42:Addr} {od42 an42:Option Addr} {sl42:Array (Option Value)} {oc42 kV42 dc42 pm42 cd42 ct42:Value}
 {ccShiftTongue:Addr}
 {a43:Addr} {od43 an43:Option Addr} {sl43:Array (Option Value)} {oc43 kV43 dc43 pm43 cd43 ct43:Value}
 {a44:Addr} {od44 an44:Option Addr} {sl44:Array (Option Value)} {oc44 kV44 dc44 pm44 cd44 ct44:Value}
 {a45:Addr} {od45 an45:Option Addr} {sl45:Array (Option Value)} {oc45 kV45 dc45 pm45 cd45 ct45:Value}
 {dV45:Addr} {ddc45:Value} {ddd45:Option Addr} {ddn45:Nat} {dsl45:Array (Option Value)} {ud45_0:Tok}
 {a46:Addr} {od46 an46:Option Addr} {sl46:Array (Option Value)} {oc46 kV46 dc46 pm46 cd46 ct46:Value}
 {dV46:Addr} {ddc46:Value} {ddd46:Option Addr} {ddn46:Nat} {dsl46:Array (Option Value)} {ud46_0:Tok}
 {a47:Addr} {od47 an47:Option Addr} {sl47:Array (Option Value)} {oc47 kV47 dc47 pm47 cd47 ct47:Value}
 {a48:Addr} {od48 an48:Option Addr} {sl48:Array (Option Value)} {oc48 kV48 dc48 pm48 cd48 ct48:Value}
 {a49:Addr} {od49 an49:Option Addr} {sl49:Array (Option Value)} {oc49 kV49 dc49 pm49 cd49 ct49:Value}
 {a50:Addr} {od50 an50:Option Addr} {sl50:Array (Option Value)} {oc50 kV50 dc50 pm50 cd50 ct50:Value}
 {ccTableTongue:Addr}
 {a51:Addr} {od51 an51:Option Addr} {sl51:Array (Option Value)} {oc51 kV51 dc51 pm51 cd51 ct51:Value}
 {a52:Addr} {od52 an52:Option Addr} {sl52:Array (Option Value)} {oc52 kV52 dc52 pm52 cd52 ct52:Value}
 {dV52:Addr} {ddc52:Value} {ddd52:Option Addr} {ddn52:Nat} {dsl52:Array (Option Value)} {ud52_0:Tok}
 {a53:Addr} {od53 an53:Option Addr} {sl53:Array (Option Value)} {oc53 kV53 dc53 pm53 cd53 ct53:Value}
 {dV53:Addr} {ddc53:Value} {ddd53:Option Addr} {ddn53:Nat} {dsl53:Array (Option Value)} {ud53_0:Tok}
 {a54:Addr} {od54 an54:Option Addr} {sl54:Array (Option Value)} {oc54 kV54 dc54 pm54 cd54 ct54:Value}
 {a55:Addr} {od55 an55:Option Addr} {sl55:Array (Option Value)} {oc55 kV55 dc55 pm55 cd55 ct55:Value}
 {a56:Addr} {od56 an56:Option Addr} {sl56:Array (Option Value)} {oc56 kV56 dc56 pm56 cd56 ct56:Value}
 {a57:Addr} {od57 an57:Option Addr} {sl57:Array (Option Value)} {oc57 kV57 dc57 pm57 cd57 ct57:Value}
 {a58:Addr} {od58 an58:Option Addr} {sl58:Array (Option Value)} {oc58 kV58 dc58 pm58 cd58 ct58:Value}
 {a59:Addr} {od59 an59:Option Addr} {sl59:Array (Option Value)} {oc59 kV59 dc59 pm59 cd59 ct59:Value}
 {a60:Addr} {od60 an60:Option Addr} {sl60:Array (Option Value)} {oc60 kV60 dc60 pm60 cd60 ct60:Value}
 {a61:Addr} {od61 an61:Option Addr} {sl61:Array (Option Value)} {oc61 kV61 dc61 pm61 cd61 ct61:Value}
 {a62:Addr} {od62 an62:Option Addr} {sl62:Array (Option Value)} {oc62 kV62 dc62 pm62 cd62 ct62:Value}
 {a63:Addr} {od63 an63:Option Addr} {sl63:Array (Option Value)} {oc63 kV63 dc63 pm63 cd63 ct63:Value}
 {a64:Addr} {od64 an64:Option Addr} {sl64:Array (Option Value)} {oc64 kV64 dc64 pm64 cd64 ct64:Value}
 {a65:Addr} {od65 an65:Option Addr} {sl65:Array (Option Value)} {oc65 kV65 dc65 pm65 cd65 ct65:Value}
 {a66:Addr} {od66 an66:Option Addr} {sl66:Array (Option Value)} {oc66 kV66 dc66 pm66 cd66 ct66:Value}
 {a67:Addr} {od67 an67:Option Addr} {sl67:Array (Option Value)} {oc67 kV67 dc67 pm67 cd67 ct67:Value}
 {a68:Addr} {od68 an68:Option Addr} {sl68:Array (Option Value)} {oc68 kV68 dc68 pm68 cd68 ct68:Value}
 {a69:Addr} {od69 an69:Option Addr} {sl69:Array (Option Value)} {oc69 kV69 dc69 pm69 cd69 ct69:Value}
 {a70:Addr} {od70 an70:Option Addr} {sl70:Array (Option Value)} {oc70 kV70 dc70 pm70 cd70 ct70:Value}
 {a71:Addr} {od71 an71:Option Addr} {sl71:Array (Option Value)} {oc71 kV71 dc71 pm71 cd71 ct71:Value}
 {a72:Addr} {od72 an72:Option Addr} {sl72:Array (Option Value)} {oc72 kV72 dc72 pm72 cd72 ct72:Value}
 {u0:Tok}
 {u1:Tok}
 {ta2:Addr} {es2:Array DictEntry} {ep2:Nat} {th2_0:Int} {ta2_0:Addr} {ti2_0:Array Value} {tn2_0:Nat} {ts2_0:Array (Option Value)} {th2_1:Int} {ta2_1:Addr} {ti2_1:Array Value} {tn2_1:Nat} {ts2_1:Array (Option Value)}
 {ta2_0_0:Addr} {ti2_0_0:Array Value} {tn2_0_0:Nat} {ts2_0_0:Array (Option Value)} {ta2_0_1:Addr} {ti2_0_1:Array Value} {tn2_0_1:Nat} {ts2_0_1:Array (Option Value)} {ta2_0_2:Addr} {ti2_0_2:Array Value} {tn2_0_2:Nat} {ts2_0_2:Array (Option Value)} {ta2_0_3:Addr} {ti2_0_3:Array Value} {tn2_0_3:Nat} {ts2_0_3:Array (Option Value)} {ta2_0_4:Addr} {ti2_0_4:Array Value} {tn2_0_4:Nat} {ts2_0_4:Array (Option Value)}
 {ta2_1_0:Addr} {ti2_1_0:Array Value} {tn2_1_0:Nat} {ts2_1_0:Array (Option Value)} {ta2_1_1:Addr} {ti2_1_1:Array Value} {tn2_1_1:Nat} {ts2_1_1:Array (Option Value)} {ta2_1_2:Addr} {ti2_1_2:Array Value} {tn2_1_2:Nat} {ts2_1_2:Array (Option Value)} {ta2_1_3:Addr} {ti2_1_3:Array Value} {tn2_1_3:Nat} {ts2_1_3:Array (Option Value)} {ta2_1_4:Addr} {ti2_1_4:Array Value} {tn2_1_4:Nat} {ts2_1_4:Array (Option Value)}
 {u3:Tok}
 {u4:Tok}
 {u5:Tok}
 {u6:Tok}
 {u7:Tok}
 {u8:Tok}
 {u9:Tok}
 {u10:Tok}
 {u11:Tok}
 {u12:Tok}
 {u13:Tok}
 {ta14:Addr} {ti14:Array Value} {tn14:Nat} {ts14:Array (Option Value)}
 {u15:Tok}
 {u16:Tok}
 {u17:Tok}
 {ta18:Addr} {es18:Array DictEntry} {ep18:Nat} {ta18_0:Addr} {ti18_0:Array Value} {tn18_0:Nat} {ts18_0:Array (Option Value)} {ta18_1:Addr} {ti18_1:Array Value} {tn18_1:Nat} {ts18_1:Array (Option Value)} {ta18_2:Addr} {ti18_2:Array Value} {tn18_2:Nat} {ts18_2:Array (Option Value)} {ta18_3:Addr} {ti18_3:Array Value} {tn18_3:Nat} {ts18_3:Array (Option Value)} {ta18_4:Addr} {ti18_4:Array Value} {tn18_4:Nat} {ts18_4:Array (Option Value)}
 {ta19:Addr} {ti19:Array Value} {tn19:Nat} {ts19:Array (Option Value)}
 (cg_Reader:W.nsIn K mainGlobals "Reader" = some (some (.ref ccReader)))
 (cp_Reader:W.plainGet K ccReader Str.empty=true)
 (cd_Reader:W.hasDictIn K ccReader=true)
 (co_Reader:W.plainOver K ccReader=true)
 (cs_Reader:W.findIn K (.ref ccReader) "__setattr__" = some (some (.builtin "object.__setattr__")))
 (cm_Reader:W.makesIn K ccReader=true)
 (ck_Reader:W.keepIn K (.ref ccReader)=true)
 (ct_Reader:W.findIn K (.ref ccReader) "__class__" = some (some (.builtin "object.__class__")))
 (cu_Reader:W.specialIn K (.builtin "object.__class__") "__get__" = some (some (.builtin "getset_descriptor.__get__")))
 (cv_Reader:W.takesIn K (.builtin "object.__class__")=some true)
 (cw_Reader:W.mroIn K ccReader (.type "object")=some true)
 (cn_Reader_at_page:W.findIn K (.ref ccReader) "at_page" = some none)
 (cn_Reader_begun:W.findIn K (.ref ccReader) "begun" = some none)
 (cn_Reader_ended:W.findIn K (.ref ccReader) "ended" = some none)
 (cn_Reader_many:W.findIn K (.ref ccReader) "many" = some none)
 (cn_Reader_met:W.findIn K (.ref ccReader) "met" = some none)
 (cn_Reader_place:W.findIn K (.ref ccReader) "place" = some none)
 (cn_Reader_tongue:W.findIn K (.ref ccReader) "tongue" = some none)
 (h0a:W.findIn K (.ref ccReader) "__init__" = some (some (.ref a0)))
 (h0f:W.isFn K (.ref a0)=true)
 (h0l:K.lookup a0=some ⟨oc0,od0,.func (W.fnOf "__init__" "Reader.__init__" (defArgs s_Reader_init) (defBody s_Reader_init) (defScope s_Reader_init) (.ref dV0) kV0 dc0 pm0 an0 cd0 ct0),sl0⟩)
 (h0c:W.codeIn K cd0 "Reader.__init__" = true)
 (h0k:W.keepIn K (.ref a0)=true)
 (h0d:K.lookup dV0=some ⟨ddc0,ddd0,.seq ([.int 0 ud0_0]:List Value).toArray ddn0,dsl0⟩)
 (h1a:W.findIn K (.ref ccReader) "page" = some (some (.ref a1)))
 (h1f:W.isFn K (.ref a1)=true)
 (h1l:K.lookup a1=some ⟨oc1,od1,.func (W.fnOf "page" "Reader.page" (defArgs s_Reader_page) (defBody s_Reader_page) (defScope s_Reader_page) .none kV1 dc1 pm1 an1 cd1 ct1),sl1⟩)
 (h1c:W.codeIn K cd1 "Reader.page" = true)
 (h1k:W.keepIn K (.ref a1)=true)
 (h2a:W.findIn K (.ref ccReader) "held" = some (some (.ref a2)))
 (h2f:W.isFn K (.ref a2)=true)
 (h2l:K.lookup a2=some ⟨oc2,od2,.func (W.fnOf "held" "Reader.held" (defArgs s_Reader_held) (defBody s_Reader_held) (defScope s_Reader_held) .none kV2 dc2 pm2 an2 cd2 ct2),sl2⟩)
 (h2c:W.codeIn K cd2 "Reader.held" = true)
 (h2k:W.keepIn K (.ref a2)=true)
 (h3a:W.findIn K (.ref ccReader) "taken" = some (some (.ref a3)))
 (h3f:W.isFn K (.ref a3)=true)
 (h3l:K.lookup a3=some ⟨oc3,od3,.func (W.fnOf "taken" "Reader.taken" (defArgs s_Reader_taken) (defBody s_Reader_taken) (defScope s_Reader_taken) .none kV3 dc3 pm3 an3 cd3 ct3),sl3⟩)
 (h3c:W.codeIn K cd3 "Reader.taken" = true)
 (h3k:W.keepIn K (.ref a3)=true)
 (h4a:W.findIn K (.ref ccReader) "faults" = some (some (.ref a4)))
 (h4f:W.isFn K (.ref a4)=true)
 (h4l:K.lookup a4=some ⟨oc4,od4,.func (W.fnOf "faults" "Reader.faults" (defArgs s_Reader_faults) (defBody s_Reader_faults) (defScope s_Reader_faults) .none kV4 dc4 pm4 an4 cd4 ct4),sl4⟩)
 (h4c:W.codeIn K cd4 "Reader.faults" = true)
 (h4k:W.keepIn K (.ref a4)=true)
 (h5a:W.findIn K (.ref ccReader) "over" = some (some (.ref a5)))
 (h5f:W.isFn K (.ref a5)=true)
 (h5l:K.lookup a5=some ⟨oc5,od5,.func (W.fnOf "over" "Reader.over" (defArgs s_Reader_over) (defBody s_Reader_over) (defScope s_Reader_over) .none kV5 dc5 pm5 an5 cd5 ct5),sl5⟩)
 (h5c:W.codeIn K cd5 "Reader.over" = true)
 (h5k:W.keepIn K (.ref a5)=true)
 (h6a:W.findIn K (.ref ccReader) "feed" = some (some (.ref a6)))
 (h6f:W.isFn K (.ref a6)=true)
 (h6l:K.lookup a6=some ⟨oc6,od6,.func (W.fnOf "feed" "Reader.feed" (defArgs s_Reader_feed) (defBody s_Reader_feed) (defScope s_Reader_feed) .none kV6 dc6 pm6 an6 cd6 ct6),sl6⟩)
 (h6c:W.codeIn K cd6 "Reader.feed" = true)
 (h6k:W.keepIn K (.ref a6)=true)
 (h7a:W.findIn K (.ref ccReader) "end" = some (some (.ref a7)))
 (h7f:W.isFn K (.ref a7)=true)
 (h7l:K.lookup a7=some ⟨oc7,od7,.func (W.fnOf "end" "Reader.end" (defArgs s_Reader_end) (defBody s_Reader_end) (defScope s_Reader_end) .none kV7 dc7 pm7 an7 cd7 ct7),sl7⟩)
 (h7c:W.codeIn K cd7 "Reader.end" = true)
 (h7k:W.keepIn K (.ref a7)=true)
 (h8a:W.findIn K (.ref ccReader) "take" = some (some (.ref a8)))
 (h8f:W.isFn K (.ref a8)=true)
 (h8l:K.lookup a8=some ⟨oc8,od8,.func (W.fnOf "take" "Reader.take" (defArgs s_Reader_take) (defBody s_Reader_take) (defScope s_Reader_take) .none kV8 dc8 pm8 an8 cd8 ct8),sl8⟩)
 (h8c:W.codeIn K cd8 "Reader.take" = true)
 (h8k:W.keepIn K (.ref a8)=true)
 (h9a:W.findIn K (.ref ccReader) "look_at_begun" = some (some (.ref a9)))
 (h9f:W.isFn K (.ref a9)=true)
 (h9l:K.lookup a9=some ⟨oc9,od9,.func (W.fnOf "look_at_begun" "Reader.look_at_begun" (defArgs s_Reader_look_at_begun) (defBody s_Reader_look_at_begun) (defScope s_Reader_look_at_begun) .none kV9 dc9 pm9 an9 cd9 ct9),sl9⟩)
 (h9c:W.codeIn K cd9 "Reader.look_at_begun" = true)
 (h9k:W.keepIn K (.ref a9)=true)
 (h10a:W.findIn K (.ref ccReader) "meet_none" = some (some (.ref a10)))
 (h10f:W.isFn K (.ref a10)=true)
 (h10l:K.lookup a10=some ⟨oc10,od10,.func (W.fnOf "meet_none" "Reader.meet_none" (defArgs s_Reader_meet_none) (defBody s_Reader_meet_none) (defScope s_Reader_meet_none) .none kV10 dc10 pm10 an10 cd10 ct10),sl10⟩)
 (h10c:W.codeIn K cd10 "Reader.meet_none" = true)
 (h10k:W.keepIn K (.ref a10)=true)
 (h11a:W.findIn K (.ref ccReader) "meet" = some (some (.ref a11)))
 (h11f:W.isFn K (.ref a11)=true)
 (h11l:K.lookup a11=some ⟨oc11,od11,.func (W.fnOf "meet" "Reader.meet" (defArgs s_Reader_meet) (defBody s_Reader_meet) (defScope s_Reader_meet) .none kV11 dc11 pm11 an11 cd11 ct11),sl11⟩)
 (h11c:W.codeIn K cd11 "Reader.meet" = true)
 (h11k:W.keepIn K (.ref a11)=true)
 (h12a:W.findIn K (.ref ccReader) "note" = some (some (.ref a12)))
 (h12f:W.isFn K (.ref a12)=true)
 (h12l:K.lookup a12=some ⟨oc12,od12,.func (W.fnOf "note" "Reader.note" (defArgs s_Reader_note) (defBody s_Reader_note) (defScope s_Reader_note) .none kV12 dc12 pm12 an12 cd12 ct12),sl12⟩)
 (h12c:W.codeIn K cd12 "Reader.note" = true)
 (h12k:W.keepIn K (.ref a12)=true)
 (h13a:W.nsIn K mainGlobals "check_room" = some (some (.ref a13)))
 (h13l:K.lookup a13=some ⟨oc13,od13,.func (W.fnOf "check_room" "check_room" (defArgs s_check_room) (defBody s_check_room) (defScope s_check_room) .none kV13 dc13 pm13 an13 cd13 ct13),sl13⟩)
 (h13c:W.codeIn K cd13 "check_room" = true)
 (h13k:W.keepIn K (.ref a13)=true)
 (h14a:W.nsIn K mainGlobals "together" = some (some (.ref a14)))
 (h14l:K.lookup a14=some ⟨oc14,od14,.func (W.fnOf "together" "together" (defArgs s_together) (defBody s_together) (defScope s_together) .none kV14 dc14 pm14 an14 cd14 ct14),sl14⟩)
 (h14c:W.codeIn K cd14 "together" = true)
 (h14k:W.keepIn K (.ref a14)=true)
 (h15a:W.nsIn K mainGlobals "is_number" = some (some (.ref a15)))
 (h15l:K.lookup a15=some ⟨oc15,od15,.func (W.fnOf "is_number" "is_number" (defArgs s_is_number) (defBody s_is_number) (defScope s_is_number) .none kV15 dc15 pm15 an15 cd15 ct15),sl15⟩)
 (h15c:W.codeIn K cd15 "is_number" = true)
 (h15k:W.keepIn K (.ref a15)=true)
 (h16a:W.nsIn K mainGlobals "is_byte" = some (some (.ref a16)))
 (h16l:K.lookup a16=some ⟨oc16,od16,.func (W.fnOf "is_byte" "is_byte" (defArgs s_is_byte) (defBody s_is_byte) (defScope s_is_byte) .none kV16 dc16 pm16 an16 cd16 ct16),sl16⟩)
 (h16c:W.codeIn K cd16 "is_byte" = true)
 (h16k:W.keepIn K (.ref a16)=true)
 (h17a:W.nsIn K mainGlobals "is_head" = some (some (.ref a17)))
 (h17l:K.lookup a17=some ⟨oc17,od17,.func (W.fnOf "is_head" "is_head" (defArgs s_is_head) (defBody s_is_head) (defScope s_is_head) .none kV17 dc17 pm17 an17 cd17 ct17),sl17⟩)
 (h17c:W.codeIn K cd17 "is_head" = true)
 (h17k:W.keepIn K (.ref a17)=true)
 (h18a:W.nsIn K mainGlobals "is_tail" = some (some (.ref a18)))
 (h18l:K.lookup a18=some ⟨oc18,od18,.func (W.fnOf "is_tail" "is_tail" (defArgs s_is_tail) (defBody s_is_tail) (defScope s_is_tail) .none kV18 dc18 pm18 an18 cd18 ct18),sl18⟩)
 (h18c:W.codeIn K cd18 "is_tail" = true)
 (h18k:W.keepIn K (.ref a18)=true)
 (h19a:W.nsIn K mainGlobals "is_seen_byte" = some (some (.ref a19)))
 (h19l:K.lookup a19=some ⟨oc19,od19,.func (W.fnOf "is_seen_byte" "is_seen_byte" (defArgs s_is_seen_byte) (defBody s_is_seen_byte) (defScope s_is_seen_byte) .none kV19 dc19 pm19 an19 cd19 ct19),sl19⟩)
 (h19c:W.codeIn K cd19 "is_seen_byte" = true)
 (h19k:W.keepIn K (.ref a19)=true)
 (h20a:W.nsIn K mainGlobals "is_sign" = some (some (.ref a20)))
 (h20l:K.lookup a20=some ⟨oc20,od20,.func (W.fnOf "is_sign" "is_sign" (defArgs s_is_sign) (defBody s_is_sign) (defScope s_is_sign) .none kV20 dc20 pm20 an20 cd20 ct20),sl20⟩)
 (h20c:W.codeIn K cd20 "is_sign" = true)
 (h20k:W.keepIn K (.ref a20)=true)
 (h21a:W.nsIn K mainGlobals "is_row" = some (some (.ref a21)))
 (h21l:K.lookup a21=some ⟨oc21,od21,.func (W.fnOf "is_row" "is_row" (defArgs s_is_row) (defBody s_is_row) (defScope s_is_row) .none kV21 dc21 pm21 an21 cd21 ct21),sl21⟩)
 (h21c:W.codeIn K cd21 "is_row" = true)
 (h21k:W.keepIn K (.ref a21)=true)
 (cg_Tongue:W.nsIn K mainGlobals "Tongue" = some (some (.ref ccTongue)))
 (cp_Tongue:W.plainGet K ccTongue Str.empty=true)
 (cd_Tongue:W.hasDictIn K ccTongue=true)
 (co_Tongue:W.plainOver K ccTongue=true)
 (cs_Tongue:W.findIn K (.ref ccTongue) "__setattr__" = some (some (.builtin "object.__setattr__")))
 (cm_Tongue:W.makesIn K ccTongue=true)
 (ck_Tongue:W.keepIn K (.ref ccTongue)=true)
 (ci_Tongue:W.findIn K (.ref ccTongue) "__init__" = some (some (.builtin "object.__init__")))
 (ct_Tongue:W.findIn K (.ref ccTongue) "__class__" = some (some (.builtin "object.__class__")))
 (cu_Tongue:W.specialIn K (.builtin "object.__class__") "__get__" = some (some (.builtin "getset_descriptor.__get__")))
 (cv_Tongue:W.takesIn K (.builtin "object.__class__")=some true)
 (cw_Tongue:W.mroIn K ccTongue (.type "object")=some true)
 (h22a:W.findIn K (.ref ccTongue) "unit" = some (some (.ref a22)))
 (h22f:W.isFn K (.ref a22)=true)
 (h22l:K.lookup a22=some ⟨oc22,od22,.func (W.fnOf "unit" "Tongue.unit" (defArgs s_Tongue_unit) (defBody s_Tongue_unit) (defScope s_Tongue_unit) .none kV22 dc22 pm22 an22 cd22 ct22),sl22⟩)
 (h22c:W.codeIn K cd22 "Tongue.unit" = true)
 (h22k:W.keepIn K (.ref a22)=true)
 (h23a:W.findIn K (.ref ccTongue) "whole" = some (some (.ref a23)))
 (h23f:W.isFn K (.ref a23)=true)
 (h23l:K.lookup a23=some ⟨oc23,od23,.func (W.fnOf "whole" "Tongue.whole" (defArgs s_Tongue_whole) (defBody s_Tongue_whole) (defScope s_Tongue_whole) (.ref dV23) kV23 dc23 pm23 an23 cd23 ct23),sl23⟩)
 (h23c:W.codeIn K cd23 "Tongue.whole" = true)
 (h23k:W.keepIn K (.ref a23)=true)
 (h23d:K.lookup dV23=some ⟨ddc23,ddd23,.seq ([.int 0 ud23_0]:List Value).toArray ddn23,dsl23⟩)
 (h24a:W.findIn K (.ref ccTongue) "fill" = some (some (.ref a24)))
 (h24f:W.isFn K (.ref a24)=true)
 (h24l:K.lookup a24=some ⟨oc24,od24,.func (W.fnOf "fill" "Tongue.fill" (defArgs s_Tongue_fill) (defBody s_Tongue_fill) (defScope s_Tongue_fill) (.ref dV24) kV24 dc24 pm24 an24 cd24 ct24),sl24⟩)
 (h24c:W.codeIn K cd24 "Tongue.fill" = true)
 (h24k:W.keepIn K (.ref a24)=true)
 (h24d:K.lookup dV24=some ⟨ddc24,ddd24,.seq ([.int 0 ud24_0]:List Value).toArray ddn24,dsl24⟩)
 (h25a:W.findIn K (.ref ccTongue) "look" = some (some (.ref a25)))
 (h25f:W.isFn K (.ref a25)=true)
 (h25l:K.lookup a25=some ⟨oc25,od25,.func (W.fnOf "look" "Tongue.look" (defArgs s_Tongue_look) (defBody s_Tongue_look) (defScope s_Tongue_look) (.ref dV25) kV25 dc25 pm25 an25 cd25 ct25),sl25⟩)
 (h25c:W.codeIn K cd25 "Tongue.look" = true)
 (h25k:W.keepIn K (.ref a25)=true)
 (h25d:K.lookup dV25=some ⟨ddc25,ddd25,.seq ([.int 0 ud25_0]:List Value).toArray ddn25,dsl25⟩)
 (h26a:W.nsIn K mainGlobals "length_behind" = some (some (.ref a26)))
 (h26l:K.lookup a26=some ⟨oc26,od26,.func (W.fnOf "length_behind" "length_behind" (defArgs s_length_behind) (defBody s_length_behind) (defScope s_length_behind) .none kV26 dc26 pm26 an26 cd26 ct26),sl26⟩)
 (h26c:W.codeIn K cd26 "length_behind" = true)
 (h26k:W.keepIn K (.ref a26)=true)
 (h27a:W.nsIn K mainGlobals "bounds_behind" = some (some (.ref a27)))
 (h27l:K.lookup a27=some ⟨oc27,od27,.func (W.fnOf "bounds_behind" "bounds_behind" (defArgs s_bounds_behind) (defBody s_bounds_behind) (defScope s_bounds_behind) .none kV27 dc27 pm27 an27 cd27 ct27),sl27⟩)
 (h27c:W.codeIn K cd27 "bounds_behind" = true)
 (h27k:W.keepIn K (.ref a27)=true)
 (h28a:W.nsIn K mainGlobals "fits_behind" = some (some (.ref a28)))
 (h28l:K.lookup a28=some ⟨oc28,od28,.func (W.fnOf "fits_behind" "fits_behind" (defArgs s_fits_behind) (defBody s_fits_behind) (defScope s_fits_behind) .none kV28 dc28 pm28 an28 cd28 ct28),sl28⟩)
 (h28c:W.codeIn K cd28 "fits_behind" = true)
 (h28k:W.keepIn K (.ref a28)=true)
 (h29a:W.nsIn K mainGlobals "missing" = some (some (.ref a29)))
 (h29l:K.lookup a29=some ⟨oc29,od29,.func (W.fnOf "missing" "missing" (defArgs s_missing) (defBody s_missing) (defScope s_missing) .none kV29 dc29 pm29 an29 cd29 ct29),sl29⟩)
 (h29c:W.codeIn K cd29 "missing" = true)
 (h29k:W.keepIn K (.ref a29)=true)
 (h30a:W.nsIn K mainGlobals "carried" = some (some (.ref a30)))
 (h30l:K.lookup a30=some ⟨oc30,od30,.func (W.fnOf "carried" "carried" (defArgs s_carried) (defBody s_carried) (defScope s_carried) .none kV30 dc30 pm30 an30 cd30 ct30),sl30⟩)
 (h30c:W.codeIn K cd30 "carried" = true)
 (h30k:W.keepIn K (.ref a30)=true)
 (cg_LeadTongue:W.nsIn K mainGlobals "LeadTongue" = some (some (.ref ccLeadTongue)))
 (cp_LeadTongue:W.plainGet K ccLeadTongue Str.empty=true)
 (cd_LeadTongue:W.hasDictIn K ccLeadTongue=true)
 (co_LeadTongue:W.plainOver K ccLeadTongue=true)
 (cs_LeadTongue:W.findIn K (.ref ccLeadTongue) "__setattr__" = some (some (.builtin "object.__setattr__")))
 (cm_LeadTongue:W.makesIn K ccLeadTongue=true)
 (ck_LeadTongue:W.keepIn K (.ref ccLeadTongue)=true)
 (ci_LeadTongue:W.findIn K (.ref ccLeadTongue) "__init__" = some (some (.builtin "object.__init__")))
 (ct_LeadTongue:W.findIn K (.ref ccLeadTongue) "__class__" = some (some (.builtin "object.__class__")))
 (cu_LeadTongue:W.specialIn K (.builtin "object.__class__") "__get__" = some (some (.builtin "getset_descriptor.__get__")))
 (cv_LeadTongue:W.takesIn K (.builtin "object.__class__")=some true)
 (cw_LeadTongue:W.mroIn K ccLeadTongue (.type "object")=some true)
 (h31a:W.findIn K (.ref ccLeadTongue) "whole" = some (some (.ref a31)))
 (h31f:W.isFn K (.ref a31)=true)
 (h31l:K.lookup a31=some ⟨oc31,od31,.func (W.fnOf "whole" "LeadTongue.whole" (defArgs s_LeadTongue_whole) (defBody s_LeadTongue_whole) (defScope s_LeadTongue_whole) (.ref dV31) kV31 dc31 pm31 an31 cd31 ct31),sl31⟩)
 (h31c:W.codeIn K cd31 "LeadTongue.whole" = true)
 (h31k:W.keepIn K (.ref a31)=true)
 (h31d:K.lookup dV31=some ⟨ddc31,ddd31,.seq ([.int 0 ud31_0]:List Value).toArray ddn31,dsl31⟩)
 (h32a:W.findIn K (.ref ccLeadTongue) "fill" = some (some (.ref a32)))
 (h32f:W.isFn K (.ref a32)=true)
 (h32l:K.lookup a32=some ⟨oc32,od32,.func (W.fnOf "fill" "LeadTongue.fill" (defArgs s_LeadTongue_fill) (defBody s_LeadTongue_fill) (defScope s_LeadTongue_fill) (.ref dV32) kV32 dc32 pm32 an32 cd32 ct32),sl32⟩)
 (h32c:W.codeIn K cd32 "LeadTongue.fill" = true)
 (h32k:W.keepIn K (.ref a32)=true)
 (h32d:K.lookup dV32=some ⟨ddc32,ddd32,.seq ([.int 0 ud32_0]:List Value).toArray ddn32,dsl32⟩)
 (h33a:W.nsIn K mainGlobals "sign_of" = some (some (.ref a33)))
 (h33l:K.lookup a33=some ⟨oc33,od33,.func (W.fnOf "sign_of" "sign_of" (defArgs s_sign_of) (defBody s_sign_of) (defScope s_sign_of) .none kV33 dc33 pm33 an33 cd33 ct33),sl33⟩)
 (h33c:W.codeIn K cd33 "sign_of" = true)
 (h33k:W.keepIn K (.ref a33)=true)
 (cg_PairTongue:W.nsIn K mainGlobals "PairTongue" = some (some (.ref ccPairTongue)))
 (cp_PairTongue:W.plainGet K ccPairTongue Str.empty=true)
 (cd_PairTongue:W.hasDictIn K ccPairTongue=true)
 (co_PairTongue:W.plainOver K ccPairTongue=true)
 (cs_PairTongue:W.findIn K (.ref ccPairTongue) "__setattr__" = some (some (.builtin "object.__setattr__")))
 (cm_PairTongue:W.makesIn K ccPairTongue=true)
 (ck_PairTongue:W.keepIn K (.ref ccPairTongue)=true)
 (ct_PairTongue:W.findIn K (.ref ccPairTongue) "__class__" = some (some (.builtin "object.__class__")))
 (cu_PairTongue:W.specialIn K (.builtin "object.__class__") "__get__" = some (some (.builtin "getset_descriptor.__get__")))
 (cv_PairTongue:W.takesIn K (.builtin "object.__class__")=some true)
 (cw_PairTongue:W.mroIn K ccPairTongue (.type "object")=some true)
 (cn_PairTongue_order:W.findIn K (.ref ccPairTongue) "order" = some none)
 (h34a:W.findIn K (.ref ccPairTongue) "__init__" = some (some (.ref a34)))
 (h34f:W.isFn K (.ref a34)=true)
 (h34l:K.lookup a34=some ⟨oc34,od34,.func (W.fnOf "__init__" "PairTongue.__init__" (defArgs s_PairTongue_init) (defBody s_PairTongue_init) (defScope s_PairTongue_init) (.ref dV34) kV34 dc34 pm34 an34 cd34 ct34),sl34⟩)
 (h34c:W.codeIn K cd34 "PairTongue.__init__" = true)
 (h34k:W.keepIn K (.ref a34)=true)
 (h34d:K.lookup dV34=some ⟨ddc34,ddd34,.seq ([.str "high" ud34_0]:List Value).toArray ddn34,dsl34⟩)
 (h35a:W.findIn K (.ref ccPairTongue) "unit" = some (some (.ref a35)))
 (h35f:W.isFn K (.ref a35)=true)
 (h35l:K.lookup a35=some ⟨oc35,od35,.func (W.fnOf "unit" "PairTongue.unit" (defArgs s_PairTongue_unit) (defBody s_PairTongue_unit) (defScope s_PairTongue_unit) .none kV35 dc35 pm35 an35 cd35 ct35),sl35⟩)
 (h35c:W.codeIn K cd35 "PairTongue.unit" = true)
 (h35k:W.keepIn K (.ref a35)=true)
 (h36a:W.findIn K (.ref ccPairTongue) "turned" = some (some (.ref a36)))
 (h36f:W.isFn K (.ref a36)=true)
 (h36l:K.lookup a36=some ⟨oc36,od36,.func (W.fnOf "turned" "PairTongue.turned" (defArgs s_PairTongue_turned) (defBody s_PairTongue_turned) (defScope s_PairTongue_turned) .none kV36 dc36 pm36 an36 cd36 ct36),sl36⟩)
 (h36c:W.codeIn K cd36 "PairTongue.turned" = true)
 (h36k:W.keepIn K (.ref a36)=true)
 (h37a:W.findIn K (.ref ccPairTongue) "units_in" = some (some (.ref a37)))
 (h37f:W.isFn K (.ref a37)=true)
 (h37l:K.lookup a37=some ⟨oc37,od37,.func (W.fnOf "units_in" "PairTongue.units_in" (defArgs s_PairTongue_units_in) (defBody s_PairTongue_units_in) (defScope s_PairTongue_units_in) .none kV37 dc37 pm37 an37 cd37 ct37),sl37⟩)
 (h37c:W.codeIn K cd37 "PairTongue.units_in" = true)
 (h37k:W.keepIn K (.ref a37)=true)
 (h38a:W.findIn K (.ref ccPairTongue) "whole" = some (some (.ref a38)))
 (h38f:W.isFn K (.ref a38)=true)
 (h38l:K.lookup a38=some ⟨oc38,od38,.func (W.fnOf "whole" "PairTongue.whole" (defArgs s_PairTongue_whole) (defBody s_PairTongue_whole) (defScope s_PairTongue_whole) (.ref dV38) kV38 dc38 pm38 an38 cd38 ct38),sl38⟩)
 (h38c:W.codeIn K cd38 "PairTongue.whole" = true)
 (h38k:W.keepIn K (.ref a38)=true)
 (h38d:K.lookup dV38=some ⟨ddc38,ddd38,.seq ([.int 0 ud38_0]:List Value).toArray ddn38,dsl38⟩)
 (h39a:W.findIn K (.ref ccPairTongue) "fill" = some (some (.ref a39)))
 (h39f:W.isFn K (.ref a39)=true)
 (h39l:K.lookup a39=some ⟨oc39,od39,.func (W.fnOf "fill" "PairTongue.fill" (defArgs s_PairTongue_fill) (defBody s_PairTongue_fill) (defScope s_PairTongue_fill) (.ref dV39) kV39 dc39 pm39 an39 cd39 ct39),sl39⟩)
 (h39c:W.codeIn K cd39 "PairTongue.fill" = true)
 (h39k:W.keepIn K (.ref a39)=true)
 (h39d:K.lookup dV39=some ⟨ddc39,ddd39,.seq ([.int 0 ud39_0]:List Value).toArray ddn39,dsl39⟩)
 (h40a:W.nsIn K mainGlobals "begins" = some (some (.ref a40)))
 (h40l:K.lookup a40=some ⟨oc40,od40,.func (W.fnOf "begins" "begins" (defArgs s_begins) (defBody s_begins) (defScope s_begins) .none kV40 dc40 pm40 an40 cd40 ct40),sl40⟩)
 (h40c:W.codeIn K cd40 "begins" = true)
 (h40k:W.keepIn K (.ref a40)=true)
 (h41a:W.nsIn K mainGlobals "places_in" = some (some (.ref a41)))
 (h41l:K.lookup a41=some ⟨oc41,od41,.func (W.fnOf "places_in" "places_in" (defArgs s_places_in) (defBody s_places_in) (defScope s_places_in) .none kV41 dc41 pm41 an41 cd41 ct41),sl41⟩)
 (h41c:W.codeIn K cd41 "places_in" = true)
 (h41k:W.keepIn K (.ref a41)=true)
 (cg_ShiftTongue:W.nsIn K mainGlobals "ShiftTongue" = some (some (.ref ccShiftTongue)))
 (cp_ShiftTongue:W.plainGet K ccShiftTongue Str.empty=true)
 (cd_ShiftTongue:W.hasDictIn K ccShiftTongue=true)
 (co_ShiftTongue:W.plainOver K ccShiftTongue=true)
 (cs_ShiftTongue:W.findIn K (.ref ccShiftTongue) "__setattr__" = some (some (.builtin "object.__setattr__")))
 (cm_ShiftTongue:W.makesIn K ccShiftTongue=true)
 (ck_ShiftTongue:W.keepIn K (.ref ccShiftTongue)=true)
 (ct_ShiftTongue:W.findIn K (.ref ccShiftTongue) "__class__" = some (some (.builtin "object.__class__")))
 (cu_ShiftTongue:W.specialIn K (.builtin "object.__class__") "__get__" = some (some (.builtin "getset_descriptor.__get__")))
 (cv_ShiftTongue:W.takesIn K (.builtin "object.__class__")=some true)
 (cw_ShiftTongue:W.mroIn K ccShiftTongue (.type "object")=some true)
 (cn_ShiftTongue_lists:W.findIn K (.ref ccShiftTongue) "lists" = some none)
 (cn_ShiftTongue_places:W.findIn K (.ref ccShiftTongue) "places" = some none)
 (cn_ShiftTongue_shifted:W.findIn K (.ref ccShiftTongue) "shifted" = some none)
 (h42a:W.findIn K (.ref ccShiftTongue) "__init__" = some (some (.ref a42)))
 (h42f:W.isFn K (.ref a42)=true)
 (h42l:K.lookup a42=some ⟨oc42,od42,.func (W.fnOf "__init__" "ShiftTongue.__init__" (defArgs s_ShiftTongue_init) (defBody s_ShiftTongue_init) (defScope s_ShiftTongue_init) .none kV42 dc42 pm42 an42 cd42 ct42),sl42⟩)
 (h42c:W.codeIn K cd42 "ShiftTongue.__init__" = true)
 (h42k:W.keepIn K (.ref a42)=true)
 (h43a:W.findIn K (.ref ccShiftTongue) "row_beyond" = some (some (.ref a43)))
 (h43f:W.isFn K (.ref a43)=true)
 (h43l:K.lookup a43=some ⟨oc43,od43,.func (W.fnOf "row_beyond" "ShiftTongue.row_beyond" (defArgs s_ShiftTongue_row_beyond) (defBody s_ShiftTongue_row_beyond) (defScope s_ShiftTongue_row_beyond) .none kV43 dc43 pm43 an43 cd43 ct43),sl43⟩)
 (h43c:W.codeIn K cd43 "ShiftTongue.row_beyond" = true)
 (h43k:W.keepIn K (.ref a43)=true)
 (h44a:W.findIn K (.ref ccShiftTongue) "sign_of" = some (some (.ref a44)))
 (h44f:W.isFn K (.ref a44)=true)
 (h44l:K.lookup a44=some ⟨oc44,od44,.func (W.fnOf "sign_of" "ShiftTongue.sign_of" (defArgs s_ShiftTongue_sign_of) (defBody s_ShiftTongue_sign_of) (defScope s_ShiftTongue_sign_of) .none kV44 dc44 pm44 an44 cd44 ct44),sl44⟩)
 (h44c:W.codeIn K cd44 "ShiftTongue.sign_of" = true)
 (h44k:W.keepIn K (.ref a44)=true)
 (h45a:W.findIn K (.ref ccShiftTongue) "whole" = some (some (.ref a45)))
 (h45f:W.isFn K (.ref a45)=true)
 (h45l:K.lookup a45=some ⟨oc45,od45,.func (W.fnOf "whole" "ShiftTongue.whole" (defArgs s_ShiftTongue_whole) (defBody s_ShiftTongue_whole) (defScope s_ShiftTongue_whole) (.ref dV45) kV45 dc45 pm45 an45 cd45 ct45),sl45⟩)
 (h45c:W.codeIn K cd45 "ShiftTongue.whole" = true)
 (h45k:W.keepIn K (.ref a45)=true)
 (h45d:K.lookup dV45=some ⟨ddc45,ddd45,.seq ([.int 0 ud45_0]:List Value).toArray ddn45,dsl45⟩)
 (h46a:W.findIn K (.ref ccShiftTongue) "fill" = some (some (.ref a46)))
 (h46f:W.isFn K (.ref a46)=true)
 (h46l:K.lookup a46=some ⟨oc46,od46,.func (W.fnOf "fill" "ShiftTongue.fill" (defArgs s_ShiftTongue_fill) (defBody s_ShiftTongue_fill) (defScope s_ShiftTongue_fill) (.ref dV46) kV46 dc46 pm46 an46 cd46 ct46),sl46⟩)
 (h46c:W.codeIn K cd46 "ShiftTongue.fill" = true)
 (h46k:W.keepIn K (.ref a46)=true)
 (h46d:K.lookup dV46=some ⟨ddc46,ddd46,.seq ([.int 0 ud46_0]:List Value).toArray ddn46,dsl46⟩)
 (h47a:W.nsIn K mainGlobals "is_entry" = some (some (.ref a47)))
 (h47l:K.lookup a47=some ⟨oc47,od47,.func (W.fnOf "is_entry" "is_entry" (defArgs s_is_entry) (defBody s_is_entry) (defScope s_is_entry) .none kV47 dc47 pm47 an47 cd47 ct47),sl47⟩)
 (h47c:W.codeIn K cd47 "is_entry" = true)
 (h47k:W.keepIn K (.ref a47)=true)
 (h48a:W.nsIn K mainGlobals "collide" = some (some (.ref a48)))
 (h48l:K.lookup a48=some ⟨oc48,od48,.func (W.fnOf "collide" "collide" (defArgs s_collide) (defBody s_collide) (defScope s_collide) .none kV48 dc48 pm48 an48 cd48 ct48),sl48⟩)
 (h48c:W.codeIn K cd48 "collide" = true)
 (h48k:W.keepIn K (.ref a48)=true)
 (h49a:W.nsIn K mainGlobals "check_table" = some (some (.ref a49)))
 (h49l:K.lookup a49=some ⟨oc49,od49,.func (W.fnOf "check_table" "check_table" (defArgs s_check_table) (defBody s_check_table) (defScope s_check_table) .none kV49 dc49 pm49 an49 cd49 ct49),sl49⟩)
 (h49c:W.codeIn K cd49 "check_table" = true)
 (h49k:W.keepIn K (.ref a49)=true)
 (cg_TableTongue:W.nsIn K mainGlobals "TableTongue" = some (some (.ref ccTableTongue)))
 (cp_TableTongue:W.plainGet K ccTableTongue Str.empty=true)
 (cd_TableTongue:W.hasDictIn K ccTableTongue=true)
 (co_TableTongue:W.plainOver K ccTableTongue=true)
 (cs_TableTongue:W.findIn K (.ref ccTableTongue) "__setattr__" = some (some (.builtin "object.__setattr__")))
 (cm_TableTongue:W.makesIn K ccTableTongue=true)
 (ck_TableTongue:W.keepIn K (.ref ccTableTongue)=true)
 (ct_TableTongue:W.findIn K (.ref ccTableTongue) "__class__" = some (some (.builtin "object.__class__")))
 (cu_TableTongue:W.specialIn K (.builtin "object.__class__") "__get__" = some (some (.builtin "getset_descriptor.__get__")))
 (cv_TableTongue:W.takesIn K (.builtin "object.__class__")=some true)
 (cw_TableTongue:W.mroIn K ccTableTongue (.type "object")=some true)
 (cn_TableTongue_rest_by_row:W.findIn K (.ref ccTableTongue) "rest_by_row" = some none)
 (cn_TableTongue_row_by_sign:W.findIn K (.ref ccTableTongue) "row_by_sign" = some none)
 (cn_TableTongue_sign_by_row:W.findIn K (.ref ccTableTongue) "sign_by_row" = some none)
 (h50a:W.findIn K (.ref ccTableTongue) "__init__" = some (some (.ref a50)))
 (h50f:W.isFn K (.ref a50)=true)
 (h50l:K.lookup a50=some ⟨oc50,od50,.func (W.fnOf "__init__" "TableTongue.__init__" (defArgs s_TableTongue_init) (defBody s_TableTongue_init) (defScope s_TableTongue_init) .none kV50 dc50 pm50 an50 cd50 ct50),sl50⟩)
 (h50c:W.codeIn K cd50 "TableTongue.__init__" = true)
 (h50k:W.keepIn K (.ref a50)=true)
 (h51a:W.findIn K (.ref ccTableTongue) "enter" = some (some (.ref a51)))
 (h51f:W.isFn K (.ref a51)=true)
 (h51l:K.lookup a51=some ⟨oc51,od51,.func (W.fnOf "enter" "TableTongue.enter" (defArgs s_TableTongue_enter) (defBody s_TableTongue_enter) (defScope s_TableTongue_enter) .none kV51 dc51 pm51 an51 cd51 ct51),sl51⟩)
 (h51c:W.codeIn K cd51 "TableTongue.enter" = true)
 (h51k:W.keepIn K (.ref a51)=true)
 (h52a:W.findIn K (.ref ccTableTongue) "whole" = some (some (.ref a52)))
 (h52f:W.isFn K (.ref a52)=true)
 (h52l:K.lookup a52=some ⟨oc52,od52,.func (W.fnOf "whole" "TableTongue.whole" (defArgs s_TableTongue_whole) (defBody s_TableTongue_whole) (defScope s_TableTongue_whole) (.ref dV52) kV52 dc52 pm52 an52 cd52 ct52),sl52⟩)
 (h52c:W.codeIn K cd52 "TableTongue.whole" = true)
 (h52k:W.keepIn K (.ref a52)=true)
 (h52d:K.lookup dV52=some ⟨ddc52,ddd52,.seq ([.int 0 ud52_0]:List Value).toArray ddn52,dsl52⟩)
 (h53a:W.findIn K (.ref ccTableTongue) "fill" = some (some (.ref a53)))
 (h53f:W.isFn K (.ref a53)=true)
 (h53l:K.lookup a53=some ⟨oc53,od53,.func (W.fnOf "fill" "TableTongue.fill" (defArgs s_TableTongue_fill) (defBody s_TableTongue_fill) (defScope s_TableTongue_fill) (.ref dV53) kV53 dc53 pm53 an53 cd53 ct53),sl53⟩)
 (h53c:W.codeIn K cd53 "TableTongue.fill" = true)
 (h53k:W.keepIn K (.ref a53)=true)
 (h53d:K.lookup dV53=some ⟨ddc53,ddd53,.seq ([.int 0 ud53_0]:List Value).toArray ddn53,dsl53⟩)
 (h54a:W.nsIn K mainGlobals "_law_drawn" = some (some (.ref a54)))
 (h54l:K.lookup a54=some ⟨oc54,od54,.func (W.fnOf "_law_drawn" "_law_drawn" (defArgs s_z_drawn) (defBody s_z_drawn) (defScope s_z_drawn) .none kV54 dc54 pm54 an54 cd54 ct54),sl54⟩)
 (h54c:W.codeIn K cd54 "_law_drawn" = true)
 (h54k:W.keepIn K (.ref a54)=true)
 (h55a:W.nsIn K mainGlobals "_law_is_number" = some (some (.ref a55)))
 (h55l:K.lookup a55=some ⟨oc55,od55,.func (W.fnOf "_law_is_number" "_law_is_number" (defArgs s_z_is_number) (defBody s_z_is_number) (defScope s_z_is_number) .none kV55 dc55 pm55 an55 cd55 ct55),sl55⟩)
 (h55c:W.codeIn K cd55 "_law_is_number" = true)
 (h55k:W.keepIn K (.ref a55)=true)
 (h56a:W.nsIn K mainGlobals "_law_mixed" = some (some (.ref a56)))
 (h56l:K.lookup a56=some ⟨oc56,od56,.func (W.fnOf "_law_mixed" "_law_mixed" (defArgs s_z_mixed) (defBody s_z_mixed) (defScope s_z_mixed) .none kV56 dc56 pm56 an56 cd56 ct56),sl56⟩)
 (h56c:W.codeIn K cd56 "_law_mixed" = true)
 (h56k:W.keepIn K (.ref a56)=true)
 (h57a:W.nsIn K mainGlobals "_law_gapped" = some (some (.ref a57)))
 (h57l:K.lookup a57=some ⟨oc57,od57,.func (W.fnOf "_law_gapped" "_law_gapped" (defArgs s_z_gapped) (defBody s_z_gapped) (defScope s_z_gapped) .none kV57 dc57 pm57 an57 cd57 ct57),sl57⟩)
 (h57c:W.codeIn K cd57 "_law_gapped" = true)
 (h57k:W.keepIn K (.ref a57)=true)
 (h58a:W.nsIn K mainGlobals "_law_as_sign" = some (some (.ref a58)))
 (h58l:K.lookup a58=some ⟨oc58,od58,.func (W.fnOf "_law_as_sign" "_law_as_sign" (defArgs s_z_as_sign) (defBody s_z_as_sign) (defScope s_z_as_sign) .none kV58 dc58 pm58 an58 cd58 ct58),sl58⟩)
 (h58c:W.codeIn K cd58 "_law_as_sign" = true)
 (h58k:W.keepIn K (.ref a58)=true)
 (h59a:W.nsIn K mainGlobals "_law_lists" = some (some (.ref a59)))
 (h59l:K.lookup a59=some ⟨oc59,od59,.func (W.fnOf "_law_lists" "_law_lists" (defArgs s_z_lists) (defBody s_z_lists) (defScope s_z_lists) .none kV59 dc59 pm59 an59 cd59 ct59),sl59⟩)
 (h59c:W.codeIn K cd59 "_law_lists" = true)
 (h59k:W.keepIn K (.ref a59)=true)
 (h60a:W.nsIn K mainGlobals "_law_table" = some (some (.ref a60)))
 (h60l:K.lookup a60=some ⟨oc60,od60,.func (W.fnOf "_law_table" "_law_table" (defArgs s_z_table) (defBody s_z_table) (defScope s_z_table) .none kV60 dc60 pm60 an60 cd60 ct60),sl60⟩)
 (h60c:W.codeIn K cd60 "_law_table" = true)
 (h60k:W.keepIn K (.ref a60)=true)
 (h61a:W.nsIn K mainGlobals "_law_model" = some (some (.ref a61)))
 (h61l:K.lookup a61=some ⟨oc61,od61,.func (W.fnOf "_law_model" "_law_model" (defArgs s_z_model) (defBody s_z_model) (defScope s_z_model) .none kV61 dc61 pm61 an61 cd61 ct61),sl61⟩)
 (h61c:W.codeIn K cd61 "_law_model" = true)
 (h61k:W.keepIn K (.ref a61)=true)
 (h62a:W.nsIn K mainGlobals "_law_tongue" = some (some (.ref a62)))
 (h62l:K.lookup a62=some ⟨oc62,od62,.func (W.fnOf "_law_tongue" "_law_tongue" (defArgs s_z_tongue) (defBody s_z_tongue) (defScope s_z_tongue) .none kV62 dc62 pm62 an62 cd62 ct62),sl62⟩)
 (h62c:W.codeIn K cd62 "_law_tongue" = true)
 (h62k:W.keepIn K (.ref a62)=true)
 (h63a:W.nsIn K mainGlobals "_law_lead_row" = some (some (.ref a63)))
 (h63l:K.lookup a63=some ⟨oc63,od63,.func (W.fnOf "_law_lead_row" "_law_lead_row" (defArgs s_z_lead_row) (defBody s_z_lead_row) (defScope s_z_lead_row) .none kV63 dc63 pm63 an63 cd63 ct63),sl63⟩)
 (h63c:W.codeIn K cd63 "_law_lead_row" = true)
 (h63k:W.keepIn K (.ref a63)=true)
 (h64a:W.nsIn K mainGlobals "_law_pair_row" = some (some (.ref a64)))
 (h64l:K.lookup a64=some ⟨oc64,od64,.func (W.fnOf "_law_pair_row" "_law_pair_row" (defArgs s_z_pair_row) (defBody s_z_pair_row) (defScope s_z_pair_row) .none kV64 dc64 pm64 an64 cd64 ct64),sl64⟩)
 (h64c:W.codeIn K cd64 "_law_pair_row" = true)
 (h64k:W.keepIn K (.ref a64)=true)
 (h65a:W.nsIn K mainGlobals "_law_spell" = some (some (.ref a65)))
 (h65l:K.lookup a65=some ⟨oc65,od65,.func (W.fnOf "_law_spell" "_law_spell" (defArgs s_z_spell) (defBody s_z_spell) (defScope s_z_spell) .none kV65 dc65 pm65 an65 cd65 ct65),sl65⟩)
 (h65c:W.codeIn K cd65 "_law_spell" = true)
 (h65k:W.keepIn K (.ref a65)=true)
 (h66a:W.nsIn K mainGlobals "_law_text" = some (some (.ref a66)))
 (h66l:K.lookup a66=some ⟨oc66,od66,.func (W.fnOf "_law_text" "_law_text" (defArgs s_z_text) (defBody s_z_text) (defScope s_z_text) .none kV66 dc66 pm66 an66 cd66 ct66),sl66⟩)
 (h66c:W.codeIn K cd66 "_law_text" = true)
 (h66k:W.keepIn K (.ref a66)=true)
 (h67a:W.nsIn K mainGlobals "_law_pieces" = some (some (.ref a67)))
 (h67l:K.lookup a67=some ⟨oc67,od67,.func (W.fnOf "_law_pieces" "_law_pieces" (defArgs s_z_pieces) (defBody s_z_pieces) (defScope s_z_pieces) .none kV67 dc67 pm67 an67 cd67 ct67),sl67⟩)
 (h67c:W.codeIn K cd67 "_law_pieces" = true)
 (h67k:W.keepIn K (.ref a67)=true)
 (h68a:W.nsIn K mainGlobals "_law_state" = some (some (.ref a68)))
 (h68l:K.lookup a68=some ⟨oc68,od68,.func (W.fnOf "_law_state" "_law_state" (defArgs s_z_state) (defBody s_z_state) (defScope s_z_state) .none kV68 dc68 pm68 an68 cd68 ct68),sl68⟩)
 (h68c:W.codeIn K cd68 "_law_state" = true)
 (h68k:W.keepIn K (.ref a68)=true)
 (h69a:W.nsIn K mainGlobals "_law_behind" = some (some (.ref a69)))
 (h69l:K.lookup a69=some ⟨oc69,od69,.func (W.fnOf "_law_behind" "_law_behind" (defArgs s_z_behind) (defBody s_z_behind) (defScope s_z_behind) .none kV69 dc69 pm69 an69 cd69 ct69),sl69⟩)
 (h69c:W.codeIn K cd69 "_law_behind" = true)
 (h69k:W.keepIn K (.ref a69)=true)
 (h70a:W.nsIn K mainGlobals "_law_fed" = some (some (.ref a70)))
 (h70l:K.lookup a70=some ⟨oc70,od70,.func (W.fnOf "_law_fed" "_law_fed" (defArgs s_z_fed) (defBody s_z_fed) (defScope s_z_fed) .none kV70 dc70 pm70 an70 cd70 ct70),sl70⟩)
 (h70c:W.codeIn K cd70 "_law_fed" = true)
 (h70k:W.keepIn K (.ref a70)=true)
 (h71a:W.nsIn K mainGlobals "_law_over" = some (some (.ref a71)))
 (h71l:K.lookup a71=some ⟨oc71,od71,.func (W.fnOf "_law_over" "_law_over" (defArgs s_z_over) (defBody s_z_over) (defScope s_z_over) .none kV71 dc71 pm71 an71 cd71 ct71),sl71⟩)
 (h71c:W.codeIn K cd71 "_law_over" = true)
 (h71k:W.keepIn K (.ref a71)=true)
 (h72a:W.nsIn K mainGlobals "law" = some (some (.ref a72)))
 (h72l:K.lookup a72=some ⟨oc72,od72,.func (W.fnOf "law" "law" (defArgs s_law) (defBody s_law) (defScope s_law) .none kV72 dc72 pm72 an72 cd72 ct72),sl72⟩)
 (h72c:W.codeIn K cd72 "law" = true)
 (h72k:W.keepIn K (.ref a72)=true)
 (hi_LeadTongue_unit:W.findIn K (.ref ccLeadTongue) "unit" = some (some (.ref a22)))
 (hi_LeadTongue_look:W.findIn K (.ref ccLeadTongue) "look" = some (some (.ref a25)))
 (hi_PairTongue_look:W.findIn K (.ref ccPairTongue) "look" = some (some (.ref a25)))
 (hi_ShiftTongue_unit:W.findIn K (.ref ccShiftTongue) "unit" = some (some (.ref a22)))
 (hi_ShiftTongue_look:W.findIn K (.ref ccShiftTongue) "look" = some (some (.ref a25)))
 (hi_TableTongue_unit:W.findIn K (.ref ccTableTongue) "unit" = some (some (.ref a22)))
 (hi_TableTongue_look:W.findIn K (.ref ccTableTongue) "look" = some (some (.ref a25)))
 (k0:W.nsIn K mainGlobals "BITS" = some (some (.int 6 u0)))
 (k1:W.nsIn K mainGlobals "BYTE_BITS" = some (some (.int 8 u1)))
 (k2:W.nsIn K mainGlobals "FILLS" = some (some (.ref ta2)))
 (kl2:K.lookup ta2=some ⟨.type "dict",none,.dict es2 ep2,#[]⟩)
 (kv2:dictOfS es2.toList=some [(th2_0,("high" : Str),ta2_0),(th2_1,("low" : Str),ta2_1)])
 (ks2:(ta2 == sysModules)=false)
 (kh2_0:th2_0=hashStr w "high")
 (kh2_1:th2_1=hashStr w "low")
 (kl2_0:K.lookup ta2_0=some ⟨.type "tuple",none,.seq ti2_0 tn2_0,ts2_0⟩)
 (kv2_0:refsOf ti2_0.toList=some [ta2_0_0,ta2_0_1,ta2_0_2,ta2_0_3,ta2_0_4])
 (kz2_0:Nat.ble ti2_0.size 1000=true)
 (kl2_0_0:K.lookup ta2_0_0=some ⟨.type "tuple",none,.seq ti2_0_0 tn2_0_0,ts2_0_0⟩)
 (kv2_0_0:intsAre ([]:List Int) ti2_0_0.toList=true)
 (kz2_0_0:Nat.ble ti2_0_0.size 1000=true)
 (kl2_0_1:K.lookup ta2_0_1=some ⟨.type "tuple",none,.seq ti2_0_1 tn2_0_1,ts2_0_1⟩)
 (kv2_0_1:intsAre ([0]:List Int) ti2_0_1.toList=true)
 (kz2_0_1:Nat.ble ti2_0_1.size 1000=true)
 (kl2_0_2:K.lookup ta2_0_2=some ⟨.type "tuple",none,.seq ti2_0_2 tn2_0_2,ts2_0_2⟩)
 (kv2_0_2:intsAre ([0,0]:List Int) ti2_0_2.toList=true)
 (kz2_0_2:Nat.ble ti2_0_2.size 1000=true)
 (kl2_0_3:K.lookup ta2_0_3=some ⟨.type "tuple",none,.seq ti2_0_3 tn2_0_3,ts2_0_3⟩)
 (kv2_0_3:intsAre ([220,0]:List Int) ti2_0_3.toList=true)
 (kz2_0_3:Nat.ble ti2_0_3.size 1000=true)
 (kl2_0_4:K.lookup ta2_0_4=some ⟨.type "tuple",none,.seq ti2_0_4 tn2_0_4,ts2_0_4⟩)
 (kv2_0_4:intsAre ([0,220,0]:List Int) ti2_0_4.toList=true)
 (kz2_0_4:Nat.ble ti2_0_4.size 1000=true)
 (kl2_1:K.lookup ta2_1=some ⟨.type "tuple",none,.seq ti2_1 tn2_1,ts2_1⟩)
 (kv2_1:refsOf ti2_1.toList=some [ta2_1_0,ta2_1_1,ta2_1_2,ta2_1_3,ta2_1_4])
 (kz2_1:Nat.ble ti2_1.size 1000=true)
 (kl2_1_0:K.lookup ta2_1_0=some ⟨.type "tuple",none,.seq ti2_1_0 tn2_1_0,ts2_1_0⟩)
 (kv2_1_0:intsAre ([]:List Int) ti2_1_0.toList=true)
 (kz2_1_0:Nat.ble ti2_1_0.size 1000=true)
 (kl2_1_1:K.lookup ta2_1_1=some ⟨.type "tuple",none,.seq ti2_1_1 tn2_1_1,ts2_1_1⟩)
 (kv2_1_1:intsAre ([0]:List Int) ti2_1_1.toList=true)
 (kz2_1_1:Nat.ble ti2_1_1.size 1000=true)
 (kl2_1_2:K.lookup ta2_1_2=some ⟨.type "tuple",none,.seq ti2_1_2 tn2_1_2,ts2_1_2⟩)
 (kv2_1_2:intsAre ([220]:List Int) ti2_1_2.toList=true)
 (kz2_1_2:Nat.ble ti2_1_2.size 1000=true)
 (kl2_1_3:K.lookup ta2_1_3=some ⟨.type "tuple",none,.seq ti2_1_3 tn2_1_3,ts2_1_3⟩)
 (kv2_1_3:intsAre ([0,0]:List Int) ti2_1_3.toList=true)
 (kz2_1_3:Nat.ble ti2_1_3.size 1000=true)
 (kl2_1_4:K.lookup ta2_1_4=some ⟨.type "tuple",none,.seq ti2_1_4 tn2_1_4,ts2_1_4⟩)
 (kv2_1_4:intsAre ([0,220]:List Int) ti2_1_4.toList=true)
 (kz2_1_4:Nat.ble ti2_1_4.size 1000=true)
 (k3:W.nsIn K mainGlobals "FIRST_BEHIND" = some (some (.int 128 u3)))
 (k4:W.nsIn K mainGlobals "FIRST_HEAD" = some (some (.int 55296 u4)))
 (k5:W.nsIn K mainGlobals "FIRST_SEEN" = some (some (.int 61184 u5)))
 (k6:W.nsIn K mainGlobals "FIRST_TAIL" = some (some (.int 56320 u6)))
 (k7:W.nsIn K mainGlobals "FIRST_WIDE" = some (some (.int 65536 u7)))
 (k8:W.nsIn K mainGlobals "HALF_BITS" = some (some (.int 10 u8)))
 (k9:W.nsIn K mainGlobals "LAST_BEHIND" = some (some (.int 191 u9)))
 (k10:W.nsIn K mainGlobals "LAST_BYTE" = some (some (.int 255 u10)))
 (k11:W.nsIn K mainGlobals "LAST_SEEN" = some (some (.int 61439 u11)))
 (k12:W.nsIn K mainGlobals "LAST_SIGN" = some (some (.int 1114111 u12)))
 (k13:W.nsIn K mainGlobals "LAST_TAIL" = some (some (.int 57343 u13)))
 (k14:W.nsIn K mainGlobals "LEADS" = some (some (.ref ta14)))
 (kl14:K.lookup ta14=some ⟨.type "tuple",none,.seq ti14 tn14,ts14⟩)
 (kv14:intsAre ([0,0,192,224,240]:List Int) ti14.toList=true)
 (kz14:Nat.ble ti14.size 1000=true)
 (k15:W.nsIn K mainGlobals "MOST_BYTES" = some (some (.int 6 u15)))
 (k16:W.nsIn K mainGlobals "MOST_SIGNS" = some (some (.int 250 u16)))
 (k17:W.nsIn K mainGlobals "MOST_TUPLES" = some (some (.int 64 u17)))
 (k18:W.nsIn K mainGlobals "SECONDS" = some (some (.ref ta18)))
 (kl18:K.lookup ta18=some ⟨.type "dict",none,.dict es18 ep18,#[]⟩)
 (kv18:dictOf es18.toList=some [(224,ta18_0),(237,ta18_1),(238,ta18_2),(240,ta18_3),(244,ta18_4)])
 (ks18:(ta18 == sysModules)=false)
 (kl18_0:K.lookup ta18_0=some ⟨.type "tuple",none,.seq ti18_0 tn18_0,ts18_0⟩)
 (kv18_0:intsAre ([160,191]:List Int) ti18_0.toList=true)
 (kz18_0:Nat.ble ti18_0.size 1000=true)
 (kl18_1:K.lookup ta18_1=some ⟨.type "tuple",none,.seq ti18_1 tn18_1,ts18_1⟩)
 (kv18_1:intsAre ([128,159]:List Int) ti18_1.toList=true)
 (kz18_1:Nat.ble ti18_1.size 1000=true)
 (kl18_2:K.lookup ta18_2=some ⟨.type "tuple",none,.seq ti18_2 tn18_2,ts18_2⟩)
 (kv18_2:intsAre ([128,187]:List Int) ti18_2.toList=true)
 (kz18_2:Nat.ble ti18_2.size 1000=true)
 (kl18_3:K.lookup ta18_3=some ⟨.type "tuple",none,.seq ti18_3 tn18_3,ts18_3⟩)
 (kv18_3:intsAre ([144,191]:List Int) ti18_3.toList=true)
 (kz18_3:Nat.ble ti18_3.size 1000=true)
 (kl18_4:K.lookup ta18_4=some ⟨.type "tuple",none,.seq ti18_4 tn18_4,ts18_4⟩)
 (kv18_4:intsAre ([128,143]:List Int) ti18_4.toList=true)
 (kz18_4:Nat.ble ti18_4.size 1000=true)
 (k19:W.nsIn K mainGlobals "SHIFTS" = some (some (.ref ta19)))
 (kl19:K.lookup ta19=some ⟨.type "tuple",none,.seq ti19 tn19,ts19⟩)
 (kv19:intsAre ([254,255]:List Int) ti19.toList=true)
 (kz19:Nat.ble ti19.size 1000=true)
 (z0:W.nsIn K mainGlobals "all" = some none)
 (z1:W.nsIn K mainGlobals "any" = some none)
 (z2:W.nsIn K mainGlobals "bool" = some none)
 (z3:W.nsIn K mainGlobals "enumerate" = some none)
 (z4:W.nsIn K mainGlobals "int" = some none)
 (z5:W.nsIn K mainGlobals "isinstance" = some none)
 (z6:W.nsIn K mainGlobals "len" = some none)
 (z7:W.nsIn K mainGlobals "list" = some none)
 (z8:W.nsIn K mainGlobals "max" = some none)
 (z9:W.nsIn K mainGlobals "range" = some none)
 (z10:W.nsIn K mainGlobals "str" = some none)
 (z11:W.nsIn K mainGlobals "sum" = some none)
 (z12:W.nsIn K mainGlobals "tuple" = some none)
 (z13:W.nsIn K mainGlobals "zip" = some none) : ∃ t,Txt w K mg t:=by
  have F0:=funD_mk (st:=s_Reader_init) h0l h0c h0k h0d
  have bd0:=F0.binds (ps:=["self", "tongue", "place"]) (ds:=[.int 0 ud0_0]) (by intro _ _ _ _ _ _ _ us hl; have hm:us.length=2:=(by have:=hl; simp at this; omega); clear hl; revert hm; revert us; exact lm2 (fun _ _=>⟨_,rfl,rfl⟩))
  have b0:=F0.binds (ps:=["self", "tongue", "place"]) (ds:=[]) (by intro _ _ _ _ _ _ _ us hl; have hm:us.length=3:=(by have:=hl; simp at this; omega); clear hl; revert hm; revert us; exact lm3 (fun _ _ _=>⟨_,rfl,rfl⟩))
  have F1:=fun_mk (st:=s_Reader_page) h1l h1c h1k
  have b1:=F1.binds (ps:=["self"]) (by intro _ _ _ _ _ _ us hl; revert hl; revert us; exact lm1 (fun _=>rfl))
  have F2:=fun_mk (st:=s_Reader_held) h2l h2c h2k
  have b2:=F2.binds (ps:=["self"]) (by intro _ _ _ _ _ _ us hl; revert hl; revert us; exact lm1 (fun _=>rfl))
  have F3:=fun_mk (st:=s_Reader_taken) h3l h3c h3k
  have b3:=F3.binds (ps:=["self"]) (by intro _ _ _ _ _ _ us hl; revert hl; revert us; exact lm1 (fun _=>rfl))
  have F4:=fun_mk (st:=s_Reader_faults) h4l h4c h4k
  have b4:=F4.binds (ps:=["self"]) (by intro _ _ _ _ _ _ us hl; revert hl; revert us; exact lm1 (fun _=>rfl))
  have F5:=fun_mk (st:=s_Reader_over) h5l h5c h5k
  have b5:=F5.binds (ps:=["self"]) (by intro _ _ _ _ _ _ us hl; revert hl; revert us; exact lm1 (fun _=>rfl))
  have F6:=fun_mk (st:=s_Reader_feed) h6l h6c h6k
  have b6:=F6.binds (ps:=["self", "row"]) (by intro _ _ _ _ _ _ us hl; revert hl; revert us; exact lm2 (fun _ _=>rfl))
  have F7:=fun_mk (st:=s_Reader_end) h7l h7c h7k
  have b7:=F7.binds (ps:=["self"]) (by intro _ _ _ _ _ _ us hl; revert hl; revert us; exact lm1 (fun _=>rfl))
  have F8:=fun_mk (st:=s_Reader_take) h8l h8c h8k
  have b8:=F8.binds (ps:=["self", "byte"]) (by intro _ _ _ _ _ _ us hl; revert hl; revert us; exact lm2 (fun _ _=>rfl))
  have F9:=fun_mk (st:=s_Reader_look_at_begun) h9l h9c h9k
  have b9:=F9.binds (ps:=["self"]) (by intro _ _ _ _ _ _ us hl; revert hl; revert us; exact lm1 (fun _=>rfl))
  have F10:=fun_mk (st:=s_Reader_meet_none) h10l h10c h10k
  have b10:=F10.binds (ps:=["self"]) (by intro _ _ _ _ _ _ us hl; revert hl; revert us; exact lm1 (fun _=>rfl))
  have F11:=fun_mk (st:=s_Reader_meet) h11l h11c h11k
  have b11:=F11.binds (ps:=["self", "length", "kind"]) (by intro _ _ _ _ _ _ us hl; revert hl; revert us; exact lm3 (fun _ _ _=>rfl))
  have F12:=fun_mk (st:=s_Reader_note) h12l h12c h12k
  have b12:=F12.binds (ps:=["self", "length", "kind"]) (by intro _ _ _ _ _ _ us hl; revert hl; revert us; exact lm3 (fun _ _ _=>rfl))
  have F13:=fun_mk (st:=s_check_room) h13l h13c h13k
  have b13:=F13.binds (ps:=["number", "bits"]) (by intro _ _ _ _ _ _ us hl; revert hl; revert us; exact lm2 (fun _ _=>rfl))
  have F14:=fun_mk (st:=s_together) h14l h14c h14k
  have b14:=F14.binds (ps:=["parts", "bits"]) (by intro _ _ _ _ _ _ us hl; revert hl; revert us; exact lm2 (fun _ _=>rfl))
  have F15:=fun_mk (st:=s_is_number) h15l h15c h15k
  have b15:=F15.binds (ps:=["thing"]) (by intro _ _ _ _ _ _ us hl; revert hl; revert us; exact lm1 (fun _=>rfl))
  have F16:=fun_mk (st:=s_is_byte) h16l h16c h16k
  have b16:=F16.binds (ps:=["thing"]) (by intro _ _ _ _ _ _ us hl; revert hl; revert us; exact lm1 (fun _=>rfl))
  have F17:=fun_mk (st:=s_is_head) h17l h17c h17k
  have b17:=F17.binds (ps:=["number"]) (by intro _ _ _ _ _ _ us hl; revert hl; revert us; exact lm1 (fun _=>rfl))
  have F18:=fun_mk (st:=s_is_tail) h18l h18c h18k
  have b18:=F18.binds (ps:=["number"]) (by intro _ _ _ _ _ _ us hl; revert hl; revert us; exact lm1 (fun _=>rfl))
  have F19:=fun_mk (st:=s_is_seen_byte) h19l h19c h19k
  have b19:=F19.binds (ps:=["thing"]) (by intro _ _ _ _ _ _ us hl; revert hl; revert us; exact lm1 (fun _=>rfl))
  have F20:=fun_mk (st:=s_is_sign) h20l h20c h20k
  have b20:=F20.binds (ps:=["thing"]) (by intro _ _ _ _ _ _ us hl; revert hl; revert us; exact lm1 (fun _=>rfl))
  have F21:=fun_mk (st:=s_is_row) h21l h21c h21k
  have b21:=F21.binds (ps:=["thing"]) (by intro _ _ _ _ _ _ us hl; revert hl; revert us; exact lm1 (fun _=>rfl))
  have F22:=fun_mk (st:=s_Tongue_unit) h22l h22c h22k
  have b22:=F22.binds (ps:=["self"]) (by intro _ _ _ _ _ _ us hl; revert hl; revert us; exact lm1 (fun _=>rfl))
  have F23:=funD_mk (st:=s_Tongue_whole) h23l h23c h23k h23d
  have bd23:=F23.binds (ps:=["self", "row", "page"]) (ds:=[.int 0 ud23_0]) (by intro _ _ _ _ _ _ _ us hl; have hm:us.length=2:=(by have:=hl; simp at this; omega); clear hl; revert hm; revert us; exact lm2 (fun _ _=>⟨_,rfl,rfl⟩))
  have b23:=F23.binds (ps:=["self", "row", "page"]) (ds:=[]) (by intro _ _ _ _ _ _ _ us hl; have hm:us.length=3:=(by have:=hl; simp at this; omega); clear hl; revert hm; revert us; exact lm3 (fun _ _ _=>⟨_,rfl,rfl⟩))
  have F24:=funD_mk (st:=s_Tongue_fill) h24l h24c h24k h24d
  have bd24:=F24.binds (ps:=["self", "row", "page"]) (ds:=[.int 0 ud24_0]) (by intro _ _ _ _ _ _ _ us hl; have hm:us.length=2:=(by have:=hl; simp at this; omega); clear hl; revert hm; revert us; exact lm2 (fun _ _=>⟨_,rfl,rfl⟩))
  have b24:=F24.binds (ps:=["self", "row", "page"]) (ds:=[]) (by intro _ _ _ _ _ _ _ us hl; have hm:us.length=3:=(by have:=hl; simp at this; omega); clear hl; revert hm; revert us; exact lm3 (fun _ _ _=>⟨_,rfl,rfl⟩))
  have F25:=funD_mk (st:=s_Tongue_look) h25l h25c h25k h25d
  have bd25:=F25.binds (ps:=["self", "begun", "page"]) (ds:=[.int 0 ud25_0]) (by intro _ _ _ _ _ _ _ us hl; have hm:us.length=2:=(by have:=hl; simp at this; omega); clear hl; revert hm; revert us; exact lm2 (fun _ _=>⟨_,rfl,rfl⟩))
  have b25:=F25.binds (ps:=["self", "begun", "page"]) (ds:=[]) (by intro _ _ _ _ _ _ _ us hl; have hm:us.length=3:=(by have:=hl; simp at this; omega); clear hl; revert hm; revert us; exact lm3 (fun _ _ _=>⟨_,rfl,rfl⟩))
  have F26:=fun_mk (st:=s_length_behind) h26l h26c h26k
  have b26:=F26.binds (ps:=["first"]) (by intro _ _ _ _ _ _ us hl; revert hl; revert us; exact lm1 (fun _=>rfl))
  have F27:=fun_mk (st:=s_bounds_behind) h27l h27c h27k
  have b27:=F27.binds (ps:=["row", "place"]) (by intro _ _ _ _ _ _ us hl; revert hl; revert us; exact lm2 (fun _ _=>rfl))
  have F28:=fun_mk (st:=s_fits_behind) h28l h28c h28k
  have b28:=F28.binds (ps:=["row"]) (by intro _ _ _ _ _ _ us hl; revert hl; revert us; exact lm1 (fun _=>rfl))
  have F29:=fun_mk (st:=s_missing) h29l h29c h29k
  have b29:=F29.binds (ps:=["row"]) (by intro _ _ _ _ _ _ us hl; revert hl; revert us; exact lm1 (fun _=>rfl))
  have F30:=fun_mk (st:=s_carried) h30l h30c h30k
  have b30:=F30.binds (ps:=["row"]) (by intro _ _ _ _ _ _ us hl; revert hl; revert us; exact lm1 (fun _=>rfl))
  have F31:=funD_mk (st:=s_LeadTongue_whole) h31l h31c h31k h31d
  have bd31:=F31.binds (ps:=["self", "row", "page"]) (ds:=[.int 0 ud31_0]) (by intro _ _ _ _ _ _ _ us hl; have hm:us.length=2:=(by have:=hl; simp at this; omega); clear hl; revert hm; revert us; exact lm2 (fun _ _=>⟨_,rfl,rfl⟩))
  have b31:=F31.binds (ps:=["self", "row", "page"]) (ds:=[]) (by intro _ _ _ _ _ _ _ us hl; have hm:us.length=3:=(by have:=hl; simp at this; omega); clear hl; revert hm; revert us; exact lm3 (fun _ _ _=>⟨_,rfl,rfl⟩))
  have F32:=funD_mk (st:=s_LeadTongue_fill) h32l h32c h32k h32d
  have bd32:=F32.binds (ps:=["self", "row", "page"]) (ds:=[.int 0 ud32_0]) (by intro _ _ _ _ _ _ _ us hl; have hm:us.length=2:=(by have:=hl; simp at this; omega); clear hl; revert hm; revert us; exact lm2 (fun _ _=>⟨_,rfl,rfl⟩))
  have b32:=F32.binds (ps:=["self", "row", "page"]) (ds:=[]) (by intro _ _ _ _ _ _ _ us hl; have hm:us.length=3:=(by have:=hl; simp at this; omega); clear hl; revert hm; revert us; exact lm3 (fun _ _ _=>⟨_,rfl,rfl⟩))
  have F33:=fun_mk (st:=s_sign_of) h33l h33c h33k
  have b33:=F33.binds (ps:=["units"]) (by intro _ _ _ _ _ _ us hl; revert hl; revert us; exact lm1 (fun _=>rfl))
  have F34:=funD_mk (st:=s_PairTongue_init) h34l h34c h34k h34d
  have bd34:=F34.binds (ps:=["self", "order"]) (ds:=[.str "high" ud34_0]) (by intro _ _ _ _ _ _ _ us hl; have hm:us.length=1:=(by have:=hl; simp at this; omega); clear hl; revert hm; revert us; exact lm1 (fun _=>⟨_,rfl,rfl⟩))
  have b34:=F34.binds (ps:=["self", "order"]) (ds:=[]) (by intro _ _ _ _ _ _ _ us hl; have hm:us.length=2:=(by have:=hl; simp at this; omega); clear hl; revert hm; revert us; exact lm2 (fun _ _=>⟨_,rfl,rfl⟩))
  have F35:=fun_mk (st:=s_PairTongue_unit) h35l h35c h35k
  have b35:=F35.binds (ps:=["self"]) (by intro _ _ _ _ _ _ us hl; revert hl; revert us; exact lm1 (fun _=>rfl))
  have F36:=fun_mk (st:=s_PairTongue_turned) h36l h36c h36k
  have b36:=F36.binds (ps:=["self", "pair"]) (by intro _ _ _ _ _ _ us hl; revert hl; revert us; exact lm2 (fun _ _=>rfl))
  have F37:=fun_mk (st:=s_PairTongue_units_in) h37l h37c h37k
  have b37:=F37.binds (ps:=["self", "row"]) (by intro _ _ _ _ _ _ us hl; revert hl; revert us; exact lm2 (fun _ _=>rfl))
  have F38:=funD_mk (st:=s_PairTongue_whole) h38l h38c h38k h38d
  have bd38:=F38.binds (ps:=["self", "row", "page"]) (ds:=[.int 0 ud38_0]) (by intro _ _ _ _ _ _ _ us hl; have hm:us.length=2:=(by have:=hl; simp at this; omega); clear hl; revert hm; revert us; exact lm2 (fun _ _=>⟨_,rfl,rfl⟩))
  have b38:=F38.binds (ps:=["self", "row", "page"]) (ds:=[]) (by intro _ _ _ _ _ _ _ us hl; have hm:us.length=3:=(by have:=hl; simp at this; omega); clear hl; revert hm; revert us; exact lm3 (fun _ _ _=>⟨_,rfl,rfl⟩))
  have F39:=funD_mk (st:=s_PairTongue_fill) h39l h39c h39k h39d
  have bd39:=F39.binds (ps:=["self", "row", "page"]) (ds:=[.int 0 ud39_0]) (by intro _ _ _ _ _ _ _ us hl; have hm:us.length=2:=(by have:=hl; simp at this; omega); clear hl; revert hm; revert us; exact lm2 (fun _ _=>⟨_,rfl,rfl⟩))
  have b39:=F39.binds (ps:=["self", "row", "page"]) (ds:=[]) (by intro _ _ _ _ _ _ _ us hl; have hm:us.length=3:=(by have:=hl; simp at this; omega); clear hl; revert hm; revert us; exact lm3 (fun _ _ _=>⟨_,rfl,rfl⟩))
  have F40:=fun_mk (st:=s_begins) h40l h40c h40k
  have b40:=F40.binds (ps:=["one", "other"]) (by intro _ _ _ _ _ _ us hl; revert hl; revert us; exact lm2 (fun _ _=>rfl))
  have F41:=fun_mk (st:=s_places_in) h41l h41c h41k
  have b41:=F41.binds (ps:=["signs", "which"]) (by intro _ _ _ _ _ _ us hl; revert hl; revert us; exact lm2 (fun _ _=>rfl))
  have F42:=fun_mk (st:=s_ShiftTongue_init) h42l h42c h42k
  have b42:=F42.binds (ps:=["self", "first", "second"]) (by intro _ _ _ _ _ _ us hl; revert hl; revert us; exact lm3 (fun _ _ _=>rfl))
  have F43:=fun_mk (st:=s_ShiftTongue_row_beyond) h43l h43c h43k
  have b43:=F43.binds (ps:=["self", "page"]) (by intro _ _ _ _ _ _ us hl; revert hl; revert us; exact lm2 (fun _ _=>rfl))
  have F44:=fun_mk (st:=s_ShiftTongue_sign_of) h44l h44c h44k
  have b44:=F44.binds (ps:=["self", "byte", "page"]) (by intro _ _ _ _ _ _ us hl; revert hl; revert us; exact lm3 (fun _ _ _=>rfl))
  have F45:=funD_mk (st:=s_ShiftTongue_whole) h45l h45c h45k h45d
  have bd45:=F45.binds (ps:=["self", "row", "page"]) (ds:=[.int 0 ud45_0]) (by intro _ _ _ _ _ _ _ us hl; have hm:us.length=2:=(by have:=hl; simp at this; omega); clear hl; revert hm; revert us; exact lm2 (fun _ _=>⟨_,rfl,rfl⟩))
  have b45:=F45.binds (ps:=["self", "row", "page"]) (ds:=[]) (by intro _ _ _ _ _ _ _ us hl; have hm:us.length=3:=(by have:=hl; simp at this; omega); clear hl; revert hm; revert us; exact lm3 (fun _ _ _=>⟨_,rfl,rfl⟩))
  have F46:=funD_mk (st:=s_ShiftTongue_fill) h46l h46c h46k h46d
  have bd46:=F46.binds (ps:=["self", "row", "page"]) (ds:=[.int 0 ud46_0]) (by intro _ _ _ _ _ _ _ us hl; have hm:us.length=2:=(by have:=hl; simp at this; omega); clear hl; revert hm; revert us; exact lm2 (fun _ _=>⟨_,rfl,rfl⟩))
  have b46:=F46.binds (ps:=["self", "row", "page"]) (ds:=[]) (by intro _ _ _ _ _ _ _ us hl; have hm:us.length=3:=(by have:=hl; simp at this; omega); clear hl; revert hm; revert us; exact lm3 (fun _ _ _=>⟨_,rfl,rfl⟩))
  have F47:=fun_mk (st:=s_is_entry) h47l h47c h47k
  have b47:=F47.binds (ps:=["thing"]) (by intro _ _ _ _ _ _ us hl; revert hl; revert us; exact lm1 (fun _=>rfl))
  have F48:=fun_mk (st:=s_collide) h48l h48c h48k
  have b48:=F48.binds (ps:=["one", "other"]) (by intro _ _ _ _ _ _ us hl; revert hl; revert us; exact lm2 (fun _ _=>rfl))
  have F49:=fun_mk (st:=s_check_table) h49l h49c h49k
  have b49:=F49.binds (ps:=["rows"]) (by intro _ _ _ _ _ _ us hl; revert hl; revert us; exact lm1 (fun _=>rfl))
  have F50:=fun_mk (st:=s_TableTongue_init) h50l h50c h50k
  have b50:=F50.binds (ps:=["self", "rows"]) (by intro _ _ _ _ _ _ us hl; revert hl; revert us; exact lm2 (fun _ _=>rfl))
  have F51:=fun_mk (st:=s_TableTongue_enter) h51l h51c h51k
  have b51:=F51.binds (ps:=["self", "sign", "row"]) (by intro _ _ _ _ _ _ us hl; revert hl; revert us; exact lm3 (fun _ _ _=>rfl))
  have F52:=funD_mk (st:=s_TableTongue_whole) h52l h52c h52k h52d
  have bd52:=F52.binds (ps:=["self", "row", "page"]) (ds:=[.int 0 ud52_0]) (by intro _ _ _ _ _ _ _ us hl; have hm:us.length=2:=(by have:=hl; simp at this; omega); clear hl; revert hm; revert us; exact lm2 (fun _ _=>⟨_,rfl,rfl⟩))
  have b52:=F52.binds (ps:=["self", "row", "page"]) (ds:=[]) (by intro _ _ _ _ _ _ _ us hl; have hm:us.length=3:=(by have:=hl; simp at this; omega); clear hl; revert hm; revert us; exact lm3 (fun _ _ _=>⟨_,rfl,rfl⟩))
  have F53:=funD_mk (st:=s_TableTongue_fill) h53l h53c h53k h53d
  have bd53:=F53.binds (ps:=["self", "row", "page"]) (ds:=[.int 0 ud53_0]) (by intro _ _ _ _ _ _ _ us hl; have hm:us.length=2:=(by have:=hl; simp at this; omega); clear hl; revert hm; revert us; exact lm2 (fun _ _=>⟨_,rfl,rfl⟩))
  have b53:=F53.binds (ps:=["self", "row", "page"]) (ds:=[]) (by intro _ _ _ _ _ _ _ us hl; have hm:us.length=3:=(by have:=hl; simp at this; omega); clear hl; revert hm; revert us; exact lm3 (fun _ _ _=>⟨_,rfl,rfl⟩))
  have F54:=fun_mk (st:=s_z_drawn) h54l h54c h54k
  have b54:=F54.binds (ps:=["_law_script", "_law_at"]) (by intro _ _ _ _ _ _ us hl; revert hl; revert us; exact lm2 (fun _ _=>rfl))
  have F55:=fun_mk (st:=s_z_is_number) h55l h55c h55k
  have b55:=F55.binds (ps:=["_law_found"]) (by intro _ _ _ _ _ _ us hl; revert hl; revert us; exact lm1 (fun _=>rfl))
  have F56:=fun_mk (st:=s_z_mixed) h56l h56c h56k
  have b56:=F56.binds (ps:=["_law_number", "_law_k"]) (by intro _ _ _ _ _ _ us hl; revert hl; revert us; exact lm2 (fun _ _=>rfl))
  have F57:=fun_mk (st:=s_z_gapped) h57l h57c h57k
  have b57:=F57.binds (ps:=["_law_number"]) (by intro _ _ _ _ _ _ us hl; revert hl; revert us; exact lm1 (fun _=>rfl))
  have F58:=fun_mk (st:=s_z_as_sign) h58l h58c h58k
  have b58:=F58.binds (ps:=["_law_number"]) (by intro _ _ _ _ _ _ us hl; revert hl; revert us; exact lm1 (fun _=>rfl))
  have F59:=fun_mk (st:=s_z_lists) h59l h59c h59k
  have b59:=F59.binds (ps:=["_law_number"]) (by intro _ _ _ _ _ _ us hl; revert hl; revert us; exact lm1 (fun _=>rfl))
  have F60:=fun_mk (st:=s_z_table) h60l h60c h60k
  have b60:=F60.binds (ps:=["_law_number"]) (by intro _ _ _ _ _ _ us hl; revert hl; revert us; exact lm1 (fun _=>rfl))
  have F61:=fun_mk (st:=s_z_model) h61l h61c h61k
  have b61:=F61.binds (ps:=["_law_cell"]) (by intro _ _ _ _ _ _ us hl; revert hl; revert us; exact lm1 (fun _=>rfl))
  have F62:=fun_mk (st:=s_z_tongue) h62l h62c h62k
  have b62:=F62.binds (ps:=["_law_model_here"]) (by intro _ _ _ _ _ _ us hl; revert hl; revert us; exact lm1 (fun _=>rfl))
  have F63:=fun_mk (st:=s_z_lead_row) h63l h63c h63k
  have b63:=F63.binds (ps:=["_law_sign"]) (by intro _ _ _ _ _ _ us hl; revert hl; revert us; exact lm1 (fun _=>rfl))
  have F64:=fun_mk (st:=s_z_pair_row) h64l h64c h64k
  have b64:=F64.binds (ps:=["_law_sign", "_law_word"]) (by intro _ _ _ _ _ _ us hl; revert hl; revert us; exact lm2 (fun _ _=>rfl))
  have F65:=fun_mk (st:=s_z_spell) h65l h65c h65k
  have b65:=F65.binds (ps:=["_law_model_here", "_law_sign", "_law_page"]) (by intro _ _ _ _ _ _ us hl; revert hl; revert us; exact lm3 (fun _ _ _=>rfl))
  have F66:=fun_mk (st:=s_z_text) h66l h66c h66k
  have b66:=F66.binds (ps:=["_law_model_here", "_law_cells"]) (by intro _ _ _ _ _ _ us hl; revert hl; revert us; exact lm2 (fun _ _=>rfl))
  have F67:=fun_mk (st:=s_z_pieces) h67l h67c h67k
  have b67:=F67.binds (ps:=["_law_row", "_law_cell"]) (by intro _ _ _ _ _ _ us hl; revert hl; revert us; exact lm2 (fun _ _=>rfl))
  have F68:=fun_mk (st:=s_z_state) h68l h68c h68k
  have b68:=F68.binds (ps:=["_law_reader"]) (by intro _ _ _ _ _ _ us hl; revert hl; revert us; exact lm1 (fun _=>rfl))
  have F69:=fun_mk (st:=s_z_behind) h69l h69c h69k
  have b69:=F69.binds (ps:=["_law_model_here", "_law_text_here"]) (by intro _ _ _ _ _ _ us hl; revert hl; revert us; exact lm2 (fun _ _=>rfl))
  have F70:=fun_mk (st:=s_z_fed) h70l h70c h70k
  have b70:=F70.binds (ps:=["_law_reader", "_law_piece", "_law_text_here", "_law_behind_here", "_law_taken", "_law_told"]) (by intro _ _ _ _ _ _ us hl; revert hl; revert us; exact lm6 (fun _ _ _ _ _ _=>rfl))
  have F71:=fun_mk (st:=s_z_over) h71l h71c h71k
  have b71:=F71.binds (ps:=["_law_reader", "_law_taken"]) (by intro _ _ _ _ _ _ us hl; revert hl; revert us; exact lm2 (fun _ _=>rfl))
  have F72:=fun_mk (st:=s_law) h72l h72c h72k
  have b72:=F72.binds (ps:=["_law_script"]) (by intro _ _ _ _ _ _ us hl; revert hl; revert us; exact lm1 (fun _=>rfl))
  exact ⟨⟨a0,_,ud0_0,a1,_,a2,_,a3,_,a4,_,a5,_,a6,_,a7,_,a8,_,a9,_,a10,_,a11,_,a12,_,a13,_,a14,_,a15,_,a16,_,a17,_,a18,_,a19,_,a20,_,a21,_,a22,_,a23,_,ud23_0,a24,_,ud24_0,a25,_,ud25_0,a26,_,a27,_,a28,_,a29,_,a30,_,a31,_,ud31_0,a32,_,ud32_0,a33,_,a34,_,ud34_0,a35,_,a36,_,a37,_,a38,_,ud38_0,a39,_,ud39_0,a40,_,a41,_,a42,_,a43,_,a44,_,a45,_,ud45_0,a46,_,ud46_0,a47,_,a48,_,a49,_,a50,_,a51,_,a52,_,ud52_0,a53,_,ud53_0,a54,_,a55,_,a56,_,a57,_,a58,_,a59,_,a60,_,a61,_,a62,_,a63,_,a64,_,a65,_,a66,_,a67,_,a68,_,a69,_,a70,_,a71,_,a72,_,ccReader,ccTongue,ccLeadTongue,ccPairTongue,ccShiftTongue,ccTableTongue,u0,u1,ta2,th2_0,ta2_0,ta2_0_0,ta2_0_1,ta2_0_2,ta2_0_3,ta2_0_4,th2_1,ta2_1,ta2_1_0,ta2_1_1,ta2_1_2,ta2_1_3,ta2_1_4,u3,u4,u5,u6,u7,u8,u9,u10,u11,u12,u13,ta14,u15,u16,u17,ta18,ta18_0,ta18_1,ta18_2,ta18_3,ta18_4,ta19⟩,⟨F0,bd0,b0,F1,b1,F2,b2,F3,b3,F4,b4,F5,b5,F6,b6,F7,b7,F8,b8,F9,b9,F10,b10,F11,b11,F12,b12,F13,b13,W.mg_of X G h13a,F14,b14,W.mg_of X G h14a,F15,b15,W.mg_of X G h15a,F16,b16,W.mg_of X G h16a,F17,b17,W.mg_of X G h17a,F18,b18,W.mg_of X G h18a,F19,b19,W.mg_of X G h19a,F20,b20,W.mg_of X G h20a,F21,b21,W.mg_of X G h21a,F22,b22,F23,bd23,b23,F24,bd24,b24,F25,bd25,b25,F26,b26,W.mg_of X G h26a,F27,b27,W.mg_of X G h27a,F28,b28,W.mg_of X G h28a,F29,b29,W.mg_of X G h29a,F30,b30,W.mg_of X G h30a,F31,bd31,b31,F32,bd32,b32,F33,b33,W.mg_of X G h33a,F34,bd34,b34,F35,b35,F36,b36,F37,b37,F38,bd38,b38,F39,bd39,b39,F40,b40,W.mg_of X G h40a,F41,b41,W.mg_of X G h41a,F42,b42,F43,b43,F44,b44,F45,bd45,b45,F46,bd46,b46,F47,b47,W.mg_of X G h47a,F48,b48,W.mg_of X G h48a,F49,b49,W.mg_of X G h49a,F50,b50,F51,b51,F52,bd52,b52,F53,bd53,b53,F54,b54,W.mg_of X G h54a,F55,b55,W.mg_of X G h55a,F56,b56,W.mg_of X G h56a,F57,b57,W.mg_of X G h57a,F58,b58,W.mg_of X G h58a,F59,b59,W.mg_of X G h59a,F60,b60,W.mg_of X G h60a,F61,b61,W.mg_of X G h61a,F62,b62,W.mg_of X G h62a,F63,b63,W.mg_of X G h63a,F64,b64,W.mg_of X G h64a,F65,b65,W.mg_of X G h65a,F66,b66,W.mg_of X G h66a,F67,b67,W.mg_of X G h67a,F68,b68,W.mg_of X G h68a,F69,b69,W.mg_of X G h69a,F70,b70,W.mg_of X G h70a,F71,b71,W.mg_of X G h71a,F72,b72,W.mg_of X G h72a,W.mg_of X G cg_Reader,⟨cp_Reader,cd_Reader,co_Reader,cs_Reader⟩,⟨cm_Reader,h0a,h0f,ck_Reader⟩,⟨h1a,h1f,h1k⟩,⟨h2a,h2f,h2k⟩,⟨h3a,h3f,h3k⟩,⟨h4a,h4f,h4k⟩,⟨h5a,h5f,h5k⟩,⟨h6a,h6f,h6k⟩,⟨h7a,h7f,h7k⟩,⟨h8a,h8f,h8k⟩,⟨h9a,h9f,h9k⟩,⟨h10a,h10f,h10k⟩,⟨h11a,h11f,h11k⟩,⟨h12a,h12f,h12k⟩,cn_Reader_at_page,cn_Reader_begun,cn_Reader_ended,cn_Reader_many,cn_Reader_met,cn_Reader_place,cn_Reader_tongue,fun H a dx fs e=>.ins e ⟨cp_Reader,cd_Reader,co_Reader,cs_Reader⟩ ct_Reader cu_Reader cv_Reader cw_Reader,W.mg_of X G cg_Tongue,⟨cp_Tongue,cd_Tongue,co_Tongue,cs_Tongue⟩,⟨cm_Tongue,ci_Tongue,ck_Tongue⟩,⟨h22a,h22f,h22k⟩,⟨h23a,h23f,h23k⟩,⟨h24a,h24f,h24k⟩,⟨h25a,h25f,h25k⟩,fun H a dx fs e=>.ins e ⟨cp_Tongue,cd_Tongue,co_Tongue,cs_Tongue⟩ ct_Tongue cu_Tongue cv_Tongue cw_Tongue,W.mg_of X G cg_LeadTongue,⟨cp_LeadTongue,cd_LeadTongue,co_LeadTongue,cs_LeadTongue⟩,⟨cm_LeadTongue,ci_LeadTongue,ck_LeadTongue⟩,⟨h31a,h31f,h31k⟩,⟨h32a,h32f,h32k⟩,⟨hi_LeadTongue_unit,h22f,h22k⟩,⟨hi_LeadTongue_look,h25f,h25k⟩,fun H a dx fs e=>.ins e ⟨cp_LeadTongue,cd_LeadTongue,co_LeadTongue,cs_LeadTongue⟩ ct_LeadTongue cu_LeadTongue cv_LeadTongue cw_LeadTongue,W.mg_of X G cg_PairTongue,⟨cp_PairTongue,cd_PairTongue,co_PairTongue,cs_PairTongue⟩,⟨cm_PairTongue,h34a,h34f,ck_PairTongue⟩,⟨h35a,h35f,h35k⟩,⟨h36a,h36f,h36k⟩,⟨h37a,h37f,h37k⟩,⟨h38a,h38f,h38k⟩,⟨h39a,h39f,h39k⟩,⟨hi_PairTongue_look,h25f,h25k⟩,cn_PairTongue_order,fun H a dx fs e=>.ins e ⟨cp_PairTongue,cd_PairTongue,co_PairTongue,cs_PairTongue⟩ ct_PairTongue cu_PairTongue cv_PairTongue cw_PairTongue,W.mg_of X G cg_ShiftTongue,⟨cp_ShiftTongue,cd_ShiftTongue,co_ShiftTongue,cs_ShiftTongue⟩,⟨cm_ShiftTongue,h42a,h42f,ck_ShiftTongue⟩,⟨h43a,h43f,h43k⟩,⟨h44a,h44f,h44k⟩,⟨h45a,h45f,h45k⟩,⟨h46a,h46f,h46k⟩,⟨hi_ShiftTongue_unit,h22f,h22k⟩,⟨hi_ShiftTongue_look,h25f,h25k⟩,cn_ShiftTongue_lists,cn_ShiftTongue_places,cn_ShiftTongue_shifted,fun H a dx fs e=>.ins e ⟨cp_ShiftTongue,cd_ShiftTongue,co_ShiftTongue,cs_ShiftTongue⟩ ct_ShiftTongue cu_ShiftTongue cv_ShiftTongue cw_ShiftTongue,W.mg_of X G cg_TableTongue,⟨cp_TableTongue,cd_TableTongue,co_TableTongue,cs_TableTongue⟩,⟨cm_TableTongue,h50a,h50f,ck_TableTongue⟩,⟨h51a,h51f,h51k⟩,⟨h52a,h52f,h52k⟩,⟨h53a,h53f,h53k⟩,⟨hi_TableTongue_unit,h22f,h22k⟩,⟨hi_TableTongue_look,h25f,h25k⟩,cn_TableTongue_rest_by_row,cn_TableTongue_row_by_sign,cn_TableTongue_sign_by_row,fun H a dx fs e=>.ins e ⟨cp_TableTongue,cd_TableTongue,co_TableTongue,cs_TableTongue⟩ ct_TableTongue cu_TableTongue cv_TableTongue cw_TableTongue,W.mg_of X G k0,W.mg_of X G k1,W.mg_of X G k2,⟨⟨_,_,kl2,kv2⟩,List.forall_mem_cons.mpr ⟨kh2_0,List.forall_mem_cons.mpr ⟨kh2_1,fun _ z=>nomatch z⟩⟩,(show List.Nodup (["high", "low"]:List Str) by decide +kernel),ks2⟩,tupR kl2_0 kv2_0 (Nat.le_of_ble_eq_true kz2_0),tupK kl2_0_0 kv2_0_0 (Nat.le_of_ble_eq_true kz2_0_0),tupK kl2_0_1 kv2_0_1 (Nat.le_of_ble_eq_true kz2_0_1),tupK kl2_0_2 kv2_0_2 (Nat.le_of_ble_eq_true kz2_0_2),tupK kl2_0_3 kv2_0_3 (Nat.le_of_ble_eq_true kz2_0_3),tupK kl2_0_4 kv2_0_4 (Nat.le_of_ble_eq_true kz2_0_4),tupR kl2_1 kv2_1 (Nat.le_of_ble_eq_true kz2_1),tupK kl2_1_0 kv2_1_0 (Nat.le_of_ble_eq_true kz2_1_0),tupK kl2_1_1 kv2_1_1 (Nat.le_of_ble_eq_true kz2_1_1),tupK kl2_1_2 kv2_1_2 (Nat.le_of_ble_eq_true kz2_1_2),tupK kl2_1_3 kv2_1_3 (Nat.le_of_ble_eq_true kz2_1_3),tupK kl2_1_4 kv2_1_4 (Nat.le_of_ble_eq_true kz2_1_4),W.mg_of X G k3,W.mg_of X G k4,W.mg_of X G k5,W.mg_of X G k6,W.mg_of X G k7,W.mg_of X G k8,W.mg_of X G k9,W.mg_of X G k10,W.mg_of X G k11,W.mg_of X G k12,W.mg_of X G k13,W.mg_of X G k14,tupK kl14 kv14 (Nat.le_of_ble_eq_true kz14),⟨_,kl14,rfl,rfl⟩,W.mg_of X G k15,W.mg_of X G k16,W.mg_of X G k17,W.mg_of X G k18,⟨⟨_,_,kl18,kv18⟩,(show List.Nodup ([224,237,238,240,244]:List Int) by decide),ks18⟩,tupK kl18_0 kv18_0 (Nat.le_of_ble_eq_true kz18_0),tupK kl18_1 kv18_1 (Nat.le_of_ble_eq_true kz18_1),tupK kl18_2 kv18_2 (Nat.le_of_ble_eq_true kz18_2),tupK kl18_3 kv18_3 (Nat.le_of_ble_eq_true kz18_3),tupK kl18_4 kv18_4 (Nat.le_of_ble_eq_true kz18_4),W.mg_of X G k19,tupK kl19 kv19 (Nat.le_of_ble_eq_true kz19),⟨_,kl19,rfl,rfl⟩,W.mg_none_of X G z0,W.mg_none_of X G z1,W.mg_none_of X G z2,W.mg_none_of X G z3,W.mg_none_of X G z4,W.mg_none_of X G z5,W.mg_none_of X G z6,W.mg_none_of X G z7,W.mg_none_of X G z8,W.mg_none_of X G z9,W.mg_none_of X G z10,W.mg_none_of X G z11,W.mg_none_of X G z12,W.mg_none_of X G z13⟩⟩
theorem walk {l:PySem.W.OpenLaw} {q:Program} {loose:List Str} {XP:(Str->Option Value)->Heap->Prop} {YP:World->Heap->Prop} {d:DefRec} {K:Params->PySem.W.Frag} (hn:l.most=some 63) (hdf:d.params.defaults=[]) (hnm:d.name = "law")
    (hY : ∀ (w:World) (h:Heap),YP w h->(K w.params).In h)
    (F : ∀ (w:World) (mg:Str->Option Value) (h:Heap),(K w.params).In h->h.Ns mainGlobals mg->∃ t,Txt w (K w.params) mg t) :
    PySem.W.WalkO q loose XP YP l.row.toRowW d [] (fun f vs=>PySem.call f vs):=by
  refine L2.walk_of (n:=63) (k:=12) (x := "_law_script") (CX:=fun _=>CX0) (sp:=fun w=>sp_law (K w.params)) hn (by decide) hdf ⟨rfl,by decide,by decide⟩ hY (fun w mg fa h KX G hmg=>?_) (fun _ _ a ns hl _ hS=>⟨a,rfl,ns,hS,hl,fun _=>rfl⟩) fun _ _ _ _ _ z=>z
  obtain ⟨t,T⟩:=F w mg h KX G
  rw [hnm] at hmg
  have e:=hmg.symm.trans T.g_law
  cases e
  obtain ⟨oc,od,kV,doc,pm,an,cdv,ct,osl,e1,lk,hcd⟩:=T.F_law.ex
  refine ⟨t.f_law,fun s u=>?_,fun base _ _=>(h_law (P:=l.prog) (w:=w) (base:=base) T).ok⟩
  rw [e1]
  exact .of_eq rfl
end My
theorem PySem.W.Fast.tw10401610711388441259:True:=trivial
theorem PySem.W.Fast.tw10570095572446720383:True:=trivial
theorem PySem.W.Fast.tw11072975047903859679:True:=trivial
theorem PySem.W.Fast.tw11228056664942907588:True:=trivial
theorem PySem.W.Fast.tw11683578664497832800:True:=trivial
theorem PySem.W.Fast.tw12742100629653507928:True:=trivial
theorem PySem.W.Fast.tw13430723691906695551:True:=trivial
theorem PySem.W.Fast.tw13796482678475537229:True:=trivial
theorem PySem.W.Fast.tw14011109206682782747:True:=trivial
theorem PySem.W.Fast.tw14753629203516116389:True:=trivial
theorem PySem.W.Fast.tw14805610425626994218:True:=trivial
theorem PySem.W.Fast.tw15355354913675447843:True:=trivial
theorem PySem.W.Fast.tw1580770348269451598:True:=trivial
theorem PySem.W.Fast.tw16451841068396309049:True:=trivial
theorem PySem.W.Fast.tw17474229274478499888:True:=trivial
theorem PySem.W.Fast.tw1768642257464598099:True:=trivial
theorem PySem.W.Fast.tw18381990825981202339:True:=trivial
theorem PySem.W.Fast.tw341415084461957814:True:=trivial
theorem PySem.W.Fast.tw3629882171095714883:True:=trivial
theorem PySem.W.Fast.tw3846526020666925403:True:=trivial
theorem PySem.W.Fast.tw4329769335574849851:True:=trivial
theorem PySem.W.Fast.tw4536929057330515949:True:=trivial
theorem PySem.W.Fast.tw4551371982917662683:True:=trivial
theorem PySem.W.Fast.tw5195508253251233705:True:=trivial
theorem PySem.W.Fast.tw5961226667308626534:True:=trivial
theorem PySem.W.Fast.tw6337854573329579658:True:=trivial
theorem PySem.W.Fast.tw6950285999764111052:True:=trivial
theorem PySem.W.Fast.tw801528755873626473:True:=trivial
theorem PySem.W.Fast.tw8628351795873009286:True:=trivial
theorem PySem.W.Fast.tw9226835636001796939:True:=trivial
theorem PySem.W.Fast.tw9756260270239353704:True:=trivial
open PySem PySem.W PyProof.Rows
set_option maxRecDepth 100000 in
set_option maxHeartbeats 0 in
theorem PySem.Challenge.cw_bytetongue_k62_in_pieces_holds : PySem.Challenge.rw_bytetongue_k62_in_pieces.Holds := by
  w_on; o_law; k_head; (case hw=>w_witness2)
  k_fill
  refine My.walk (l:=PySem.Challenge.rw_bytetongue_k62_in_pieces) rfl rfl rfl (fun w h Y=>PySem.W.kIn_of Y) ?F
  case F =>
    intro w mg h KX G
    refine' My.txt_mk KX G ?cg_Reader ?cp_Reader ?cd_Reader ?co_Reader ?cs_Reader ?cm_Reader ?ck_Reader ?ct_Reader ?cu_Reader ?cv_Reader ?cw_Reader ?cn_Reader_at_page ?cn_Reader_begun ?cn_Reader_ended ?cn_Reader_many ?cn_Reader_met ?cn_Reader_place ?cn_Reader_tongue ?h0a ?h0f ?h0l ?h0c ?h0k ?h0d ?h1a ?h1f ?h1l ?h1c ?h1k ?h2a ?h2f ?h2l ?h2c ?h2k ?h3a ?h3f ?h3l ?h3c ?h3k ?h4a ?h4f ?h4l ?h4c ?h4k ?h5a ?h5f ?h5l ?h5c ?h5k ?h6a ?h6f ?h6l ?h6c ?h6k ?h7a ?h7f ?h7l ?h7c ?h7k ?h8a ?h8f ?h8l ?h8c ?h8k ?h9a ?h9f ?h9l ?h9c ?h9k ?h10a ?h10f ?h10l ?h10c ?h10k ?h11a ?h11f ?h11l ?h11c ?h11k ?h12a ?h12f ?h12l ?h12c ?h12k ?h13a ?h13l ?h13c ?h13k ?h14a ?h14l ?h14c ?h14k ?h15a ?h15l ?h15c ?h15k ?h16a ?h16l ?h16c ?h16k ?h17a ?h17l ?h17c ?h17k ?h18a ?h18l ?h18c ?h18k ?h19a ?h19l ?h19c ?h19k ?h20a ?h20l ?h20c ?h20k ?h21a ?h21l ?h21c ?h21k ?cg_Tongue ?cp_Tongue ?cd_Tongue ?co_Tongue ?cs_Tongue ?cm_Tongue ?ck_Tongue ?ci_Tongue ?ct_Tongue ?cu_Tongue ?cv_Tongue ?cw_Tongue ?h22a ?h22f ?h22l ?h22c ?h22k ?h23a ?h23f ?h23l ?h23c ?h23k ?h23d ?h24a ?h24f ?h24l ?h24c ?h24k ?h24d ?h25a ?h25f ?h25l ?h25c ?h25k ?h25d ?h26a ?h26l ?h26c ?h26k ?h27a ?h27l ?h27c ?h27k ?h28a ?h28l ?h28c ?h28k ?h29a ?h29l ?h29c ?h29k ?h30a ?h30l ?h30c ?h30k ?cg_LeadTongue ?cp_LeadTongue ?cd_LeadTongue ?co_LeadTongue ?cs_LeadTongue ?cm_LeadTongue ?ck_LeadTongue ?ci_LeadTongue ?ct_LeadTongue ?cu_LeadTongue ?cv_LeadTongue ?cw_LeadTongue ?h31a ?h31f ?h31l ?h31c ?h31k ?h31d ?h32a ?h32f ?h32l ?h32c ?h32k ?h32d ?h33a ?h33l ?h33c ?h33k ?cg_PairTongue ?cp_PairTongue ?cd_PairTongue ?co_PairTongue ?cs_PairTongue ?cm_PairTongue ?ck_PairTongue ?ct_PairTongue ?cu_PairTongue ?cv_PairTongue ?cw_PairTongue ?cn_PairTongue_order ?h34a ?h34f ?h34l ?h34c ?h34k ?h34d ?h35a ?h35f ?h35l ?h35c ?h35k ?h36a ?h36f ?h36l ?h36c ?h36k ?h37a ?h37f ?h37l ?h37c ?h37k ?h38a ?h38f ?h38l ?h38c ?h38k ?h38d ?h39a ?h39f ?h39l ?h39c ?h39k ?h39d ?h40a ?h40l ?h40c ?h40k ?h41a ?h41l ?h41c ?h41k ?cg_ShiftTongue ?cp_ShiftTongue ?cd_ShiftTongue ?co_ShiftTongue ?cs_ShiftTongue ?cm_ShiftTongue ?ck_ShiftTongue ?ct_ShiftTongue ?cu_ShiftTongue ?cv_ShiftTongue ?cw_ShiftTongue ?cn_ShiftTongue_lists ?cn_ShiftTongue_places ?cn_ShiftTongue_shifted ?h42a ?h42f ?h42l ?h42c ?h42k ?h43a ?h43f ?h43l ?h43c ?h43k ?h44a ?h44f ?h44l ?h44c ?h44k ?h45a ?h45f ?h45l ?h45c ?h45k ?h45d ?h46a ?h46f ?h46l ?h46c ?h46k ?h46d ?h47a ?h47l ?h47c ?h47k ?h48a ?h48l ?h48c ?h48k ?h49a ?h49l ?h49c ?h49k ?cg_TableTongue ?cp_TableTongue ?cd_TableTongue ?co_TableTongue ?cs_TableTongue ?cm_TableTongue ?ck_TableTongue ?ct_TableTongue ?cu_TableTongue ?cv_TableTongue ?cw_TableTongue ?cn_TableTongue_rest_by_row ?cn_TableTongue_row_by_sign ?cn_TableTongue_sign_by_row ?h50a ?h50f ?h50l ?h50c ?h50k ?h51a ?h51f ?h51l ?h51c ?h51k ?h52a ?h52f ?h52l ?h52c ?h52k ?h52d ?h53a ?h53f ?h53l ?h53c ?h53k ?h53d ?h54a ?h54l ?h54c ?h54k ?h55a ?h55l ?h55c ?h55k ?h56a ?h56l ?h56c ?h56k ?h57a ?h57l ?h57c ?h57k ?h58a ?h58l ?h58c ?h58k ?h59a ?h59l ?h59c ?h59k ?h60a ?h60l ?h60c ?h60k ?h61a ?h61l ?h61c ?h61k ?h62a ?h62l ?h62c ?h62k ?h63a ?h63l ?h63c ?h63k ?h64a ?h64l ?h64c ?h64k ?h65a ?h65l ?h65c ?h65k ?h66a ?h66l ?h66c ?h66k ?h67a ?h67l ?h67c ?h67k ?h68a ?h68l ?h68c ?h68k ?h69a ?h69l ?h69c ?h69k ?h70a ?h70l ?h70c ?h70k ?h71a ?h71l ?h71c ?h71k ?h72a ?h72l ?h72c ?h72k ?hi_LeadTongue_unit ?hi_LeadTongue_look ?hi_PairTongue_look ?hi_ShiftTongue_unit ?hi_ShiftTongue_look ?hi_TableTongue_unit ?hi_TableTongue_look ?k0 ?k1 ?k2 ?kl2 ?kv2 ?ks2 ?kh2_0 ?kh2_1 ?kl2_0 ?kv2_0 ?kz2_0 ?kl2_0_0 ?kv2_0_0 ?kz2_0_0 ?kl2_0_1 ?kv2_0_1 ?kz2_0_1 ?kl2_0_2 ?kv2_0_2 ?kz2_0_2 ?kl2_0_3 ?kv2_0_3 ?kz2_0_3 ?kl2_0_4 ?kv2_0_4 ?kz2_0_4 ?kl2_1 ?kv2_1 ?kz2_1 ?kl2_1_0 ?kv2_1_0 ?kz2_1_0 ?kl2_1_1 ?kv2_1_1 ?kz2_1_1 ?kl2_1_2 ?kv2_1_2 ?kz2_1_2 ?kl2_1_3 ?kv2_1_3 ?kz2_1_3 ?kl2_1_4 ?kv2_1_4 ?kz2_1_4 ?k3 ?k4 ?k5 ?k6 ?k7 ?k8 ?k9 ?k10 ?k11 ?k12 ?k13 ?k14 ?kl14 ?kv14 ?kz14 ?k15 ?k16 ?k17 ?k18 ?kl18 ?kv18 ?ks18 ?kl18_0 ?kv18_0 ?kz18_0 ?kl18_1 ?kv18_1 ?kz18_1 ?kl18_2 ?kv18_2 ?kz18_2 ?kl18_3 ?kv18_3 ?kz18_3 ?kl18_4 ?kv18_4 ?kz18_4 ?k19 ?kl19 ?kv19 ?kz19 ?z0 ?z1 ?z2 ?z3 ?z4 ?z5 ?z6 ?z7 ?z8 ?z9 ?z10 ?z11 ?z12 ?z13
    (case cg_Reader=>k_is)
    (case cp_Reader=>k_is)
    (case cd_Reader=>k_is)
    (case co_Reader=>k_is)
    (case cs_Reader=>k_is)
    (case cm_Reader=>k_is)
    (case ck_Reader=>k_is)
    (case ct_Reader=>k_is)
    (case cu_Reader=>k_is)
    (case cv_Reader=>k_is)
    (case cw_Reader=>k_is)
    (case cn_Reader_at_page=>k_is)
    (case cn_Reader_begun=>k_is)
    (case cn_Reader_ended=>k_is)
    (case cn_Reader_many=>k_is)
    (case cn_Reader_met=>k_is)
    (case cn_Reader_place=>k_is)
    (case cn_Reader_tongue=>k_is)
    (case h0a=>k_is)
    (case h0f=>k_is)
    (case h0l=>k_is)
    (case h0c=>k_is)
    (case h0k=>k_is)
    (case h0d=>k_is)
    (case h1a=>k_is)
    (case h1f=>k_is)
    (case h1l=>k_is)
    (case h1c=>k_is)
    (case h1k=>k_is)
    (case h2a=>k_is)
    (case h2f=>k_is)
    (case h2l=>k_is)
    (case h2c=>k_is)
    (case h2k=>k_is)
    (case h3a=>k_is)
    (case h3f=>k_is)
    (case h3l=>k_is)
    (case h3c=>k_is)
    (case h3k=>k_is)
    (case h4a=>k_is)
    (case h4f=>k_is)
    (case h4l=>k_is)
    (case h4c=>k_is)
    (case h4k=>k_is)
    (case h5a=>k_is)
    (case h5f=>k_is)
    (case h5l=>k_is)
    (case h5c=>k_is)
    (case h5k=>k_is)
    (case h6a=>k_is)
    (case h6f=>k_is)
    (case h6l=>k_is)
    (case h6c=>k_is)
    (case h6k=>k_is)
    (case h7a=>k_is)
    (case h7f=>k_is)
    (case h7l=>k_is)
    (case h7c=>k_is)
    (case h7k=>k_is)
    (case h8a=>k_is)
    (case h8f=>k_is)
    (case h8l=>k_is)
    (case h8c=>k_is)
    (case h8k=>k_is)
    (case h9a=>k_is)
    (case h9f=>k_is)
    (case h9l=>k_is)
    (case h9c=>k_is)
    (case h9k=>k_is)
    (case h10a=>k_is)
    (case h10f=>k_is)
    (case h10l=>k_is)
    (case h10c=>k_is)
    (case h10k=>k_is)
    (case h11a=>k_is)
    (case h11f=>k_is)
    (case h11l=>k_is)
    (case h11c=>k_is)
    (case h11k=>k_is)
    (case h12a=>k_is)
    (case h12f=>k_is)
    (case h12l=>k_is)
    (case h12c=>k_is)
    (case h12k=>k_is)
    (case h13a=>k_is)
    (case h13l=>k_is)
    (case h13c=>k_is)
    (case h13k=>k_is)
    (case h14a=>k_is)
    (case h14l=>k_is)
    (case h14c=>k_is)
    (case h14k=>k_is)
    (case h15a=>k_is)
    (case h15l=>k_is)
    (case h15c=>k_is)
    (case h15k=>k_is)
    (case h16a=>k_is)
    (case h16l=>k_is)
    (case h16c=>k_is)
    (case h16k=>k_is)
    (case h17a=>k_is)
    (case h17l=>k_is)
    (case h17c=>k_is)
    (case h17k=>k_is)
    (case h18a=>k_is)
    (case h18l=>k_is)
    (case h18c=>k_is)
    (case h18k=>k_is)
    (case h19a=>k_is)
    (case h19l=>k_is)
    (case h19c=>k_is)
    (case h19k=>k_is)
    (case h20a=>k_is)
    (case h20l=>k_is)
    (case h20c=>k_is)
    (case h20k=>k_is)
    (case h21a=>k_is)
    (case h21l=>k_is)
    (case h21c=>k_is)
    (case h21k=>k_is)
    (case cg_Tongue=>k_is)
    (case cp_Tongue=>k_is)
    (case cd_Tongue=>k_is)
    (case co_Tongue=>k_is)
    (case cs_Tongue=>k_is)
    (case cm_Tongue=>k_is)
    (case ck_Tongue=>k_is)
    (case ci_Tongue=>k_is)
    (case ct_Tongue=>k_is)
    (case cu_Tongue=>k_is)
    (case cv_Tongue=>k_is)
    (case cw_Tongue=>k_is)
    (case h22a=>k_is)
    (case h22f=>k_is)
    (case h22l=>k_is)
    (case h22c=>k_is)
    (case h22k=>k_is)
    (case h23a=>k_is)
    (case h23f=>k_is)
    (case h23l=>k_is)
    (case h23c=>k_is)
    (case h23k=>k_is)
    (case h23d=>k_is)
    (case h24a=>k_is)
    (case h24f=>k_is)
    (case h24l=>k_is)
    (case h24c=>k_is)
    (case h24k=>k_is)
    (case h24d=>k_is)
    (case h25a=>k_is)
    (case h25f=>k_is)
    (case h25l=>k_is)
    (case h25c=>k_is)
    (case h25k=>k_is)
    (case h25d=>k_is)
    (case h26a=>k_is)
    (case h26l=>k_is)
    (case h26c=>k_is)
    (case h26k=>k_is)
    (case h27a=>k_is)
    (case h27l=>k_is)
    (case h27c=>k_is)
    (case h27k=>k_is)
    (case h28a=>k_is)
    (case h28l=>k_is)
    (case h28c=>k_is)
    (case h28k=>k_is)
    (case h29a=>k_is)
    (case h29l=>k_is)
    (case h29c=>k_is)
    (case h29k=>k_is)
    (case h30a=>k_is)
    (case h30l=>k_is)
    (case h30c=>k_is)
    (case h30k=>k_is)
    (case cg_LeadTongue=>k_is)
    (case cp_LeadTongue=>k_is)
    (case cd_LeadTongue=>k_is)
    (case co_LeadTongue=>k_is)
    (case cs_LeadTongue=>k_is)
    (case cm_LeadTongue=>k_is)
    (case ck_LeadTongue=>k_is)
    (case ci_LeadTongue=>k_is)
    (case ct_LeadTongue=>k_is)
    (case cu_LeadTongue=>k_is)
    (case cv_LeadTongue=>k_is)
    (case cw_LeadTongue=>k_is)
    (case h31a=>k_is)
    (case h31f=>k_is)
    (case h31l=>k_is)
    (case h31c=>k_is)
    (case h31k=>k_is)
    (case h31d=>k_is)
    (case h32a=>k_is)
    (case h32f=>k_is)
    (case h32l=>k_is)
    (case h32c=>k_is)
    (case h32k=>k_is)
    (case h32d=>k_is)
    (case h33a=>k_is)
    (case h33l=>k_is)
    (case h33c=>k_is)
    (case h33k=>k_is)
    (case cg_PairTongue=>k_is)
    (case cp_PairTongue=>k_is)
    (case cd_PairTongue=>k_is)
    (case co_PairTongue=>k_is)
    (case cs_PairTongue=>k_is)
    (case cm_PairTongue=>k_is)
    (case ck_PairTongue=>k_is)
    (case ct_PairTongue=>k_is)
    (case cu_PairTongue=>k_is)
    (case cv_PairTongue=>k_is)
    (case cw_PairTongue=>k_is)
    (case cn_PairTongue_order=>k_is)
    (case h34a=>k_is)
    (case h34f=>k_is)
    (case h34l=>k_is)
    (case h34c=>k_is)
    (case h34k=>k_is)
    (case h34d=>k_is)
    (case h35a=>k_is)
    (case h35f=>k_is)
    (case h35l=>k_is)
    (case h35c=>k_is)
    (case h35k=>k_is)
    (case h36a=>k_is)
    (case h36f=>k_is)
    (case h36l=>k_is)
    (case h36c=>k_is)
    (case h36k=>k_is)
    (case h37a=>k_is)
    (case h37f=>k_is)
    (case h37l=>k_is)
    (case h37c=>k_is)
    (case h37k=>k_is)
    (case h38a=>k_is)
    (case h38f=>k_is)
    (case h38l=>k_is)
    (case h38c=>k_is)
    (case h38k=>k_is)
    (case h38d=>k_is)
    (case h39a=>k_is)
    (case h39f=>k_is)
    (case h39l=>k_is)
    (case h39c=>k_is)
    (case h39k=>k_is)
    (case h39d=>k_is)
    (case h40a=>k_is)
    (case h40l=>k_is)
    (case h40c=>k_is)
    (case h40k=>k_is)
    (case h41a=>k_is)
    (case h41l=>k_is)
    (case h41c=>k_is)
    (case h41k=>k_is)
    (case cg_ShiftTongue=>k_is)
    (case cp_ShiftTongue=>k_is)
    (case cd_ShiftTongue=>k_is)
    (case co_ShiftTongue=>k_is)
    (case cs_ShiftTongue=>k_is)
    (case cm_ShiftTongue=>k_is)
    (case ck_ShiftTongue=>k_is)
    (case ct_ShiftTongue=>k_is)
    (case cu_ShiftTongue=>k_is)
    (case cv_ShiftTongue=>k_is)
    (case cw_ShiftTongue=>k_is)
    (case cn_ShiftTongue_lists=>k_is)
    (case cn_ShiftTongue_places=>k_is)
    (case cn_ShiftTongue_shifted=>k_is)
    (case h42a=>k_is)
    (case h42f=>k_is)
    (case h42l=>k_is)
    (case h42c=>k_is)
    (case h42k=>k_is)
    (case h43a=>k_is)
    (case h43f=>k_is)
    (case h43l=>k_is)
    (case h43c=>k_is)
    (case h43k=>k_is)
    (case h44a=>k_is)
    (case h44f=>k_is)
    (case h44l=>k_is)
    (case h44c=>k_is)
    (case h44k=>k_is)
    (case h45a=>k_is)
    (case h45f=>k_is)
    (case h45l=>k_is)
    (case h45c=>k_is)
    (case h45k=>k_is)
    (case h45d=>k_is)
    (case h46a=>k_is)
    (case h46f=>k_is)
    (case h46l=>k_is)
    (case h46c=>k_is)
    (case h46k=>k_is)
    (case h46d=>k_is)
    (case h47a=>k_is)
    (case h47l=>k_is)
    (case h47c=>k_is)
    (case h47k=>k_is)
    (case h48a=>k_is)
    (case h48l=>k_is)
    (case h48c=>k_is)
    (case h48k=>k_is)
    (case h49a=>k_is)
    (case h49l=>k_is)
    (case h49c=>k_is)
    (case h49k=>k_is)
    (case cg_TableTongue=>k_is)
    (case cp_TableTongue=>k_is)
    (case cd_TableTongue=>k_is)
    (case co_TableTongue=>k_is)
    (case cs_TableTongue=>k_is)
    (case cm_TableTongue=>k_is)
    (case ck_TableTongue=>k_is)
    (case ct_TableTongue=>k_is)
    (case cu_TableTongue=>k_is)
    (case cv_TableTongue=>k_is)
    (case cw_TableTongue=>k_is)
    (case cn_TableTongue_rest_by_row=>k_is)
    (case cn_TableTongue_row_by_sign=>k_is)
    (case cn_TableTongue_sign_by_row=>k_is)
    (case h50a=>k_is)
    (case h50f=>k_is)
    (case h50l=>k_is)
    (case h50c=>k_is)
    (case h50k=>k_is)
    (case h51a=>k_is)
    (case h51f=>k_is)
    (case h51l=>k_is)
    (case h51c=>k_is)
    (case h51k=>k_is)
    (case h52a=>k_is)
    (case h52f=>k_is)
    (case h52l=>k_is)
    (case h52c=>k_is)
    (case h52k=>k_is)
    (case h52d=>k_is)
    (case h53a=>k_is)
    (case h53f=>k_is)
    (case h53l=>k_is)
    (case h53c=>k_is)
    (case h53k=>k_is)
    (case h53d=>k_is)
    (case h54a=>k_is)
    (case h54l=>k_is)
    (case h54c=>k_is)
    (case h54k=>k_is)
    (case h55a=>k_is)
    (case h55l=>k_is)
    (case h55c=>k_is)
    (case h55k=>k_is)
    (case h56a=>k_is)
    (case h56l=>k_is)
    (case h56c=>k_is)
    (case h56k=>k_is)
    (case h57a=>k_is)
    (case h57l=>k_is)
    (case h57c=>k_is)
    (case h57k=>k_is)
    (case h58a=>k_is)
    (case h58l=>k_is)
    (case h58c=>k_is)
    (case h58k=>k_is)
    (case h59a=>k_is)
    (case h59l=>k_is)
    (case h59c=>k_is)
    (case h59k=>k_is)
    (case h60a=>k_is)
    (case h60l=>k_is)
    (case h60c=>k_is)
    (case h60k=>k_is)
    (case h61a=>k_is)
    (case h61l=>k_is)
    (case h61c=>k_is)
    (case h61k=>k_is)
    (case h62a=>k_is)
    (case h62l=>k_is)
    (case h62c=>k_is)
    (case h62k=>k_is)
    (case h63a=>k_is)
    (case h63l=>k_is)
    (case h63c=>k_is)
    (case h63k=>k_is)
    (case h64a=>k_is)
    (case h64l=>k_is)
    (case h64c=>k_is)
    (case h64k=>k_is)
    (case h65a=>k_is)
    (case h65l=>k_is)
    (case h65c=>k_is)
    (case h65k=>k_is)
    (case h66a=>k_is)
    (case h66l=>k_is)
    (case h66c=>k_is)
    (case h66k=>k_is)
    (case h67a=>k_is)
    (case h67l=>k_is)
    (case h67c=>k_is)
    (case h67k=>k_is)
    (case h68a=>k_is)
    (case h68l=>k_is)
    (case h68c=>k_is)
    (case h68k=>k_is)
    (case h69a=>k_is)
    (case h69l=>k_is)
    (case h69c=>k_is)
    (case h69k=>k_is)
    (case h70a=>k_is)
    (case h70l=>k_is)
    (case h70c=>k_is)
    (case h70k=>k_is)
    (case h71a=>k_is)
    (case h71l=>k_is)
    (case h71c=>k_is)
    (case h71k=>k_is)
    (case h72a=>k_is)
    (case h72l=>k_is)
    (case h72c=>k_is)
    (case h72k=>k_is)
    (case hi_LeadTongue_unit=>k_is)
    (case hi_LeadTongue_look=>k_is)
    (case hi_PairTongue_look=>k_is)
    (case hi_ShiftTongue_unit=>k_is)
    (case hi_ShiftTongue_look=>k_is)
    (case hi_TableTongue_unit=>k_is)
    (case hi_TableTongue_look=>k_is)
    (case k0=>k_is)
    (case k1=>k_is)
    (case k2=>k_is)
    (case kl2=>k_is)
    (case kv2=>rfl)
    (case ks2=>rfl)
    (case kh2_0=>rfl)
    (case kh2_1=>rfl)
    (case kl2_0=>k_is)
    (case kv2_0=>rfl)
    (case kz2_0=>rfl)
    (case kl2_0_0=>k_is)
    (case kv2_0_0=>rfl)
    (case kz2_0_0=>rfl)
    (case kl2_0_1=>k_is)
    (case kv2_0_1=>rfl)
    (case kz2_0_1=>rfl)
    (case kl2_0_2=>k_is)
    (case kv2_0_2=>rfl)
    (case kz2_0_2=>rfl)
    (case kl2_0_3=>k_is)
    (case kv2_0_3=>rfl)
    (case kz2_0_3=>rfl)
    (case kl2_0_4=>k_is)
    (case kv2_0_4=>rfl)
    (case kz2_0_4=>rfl)
    (case kl2_1=>k_is)
    (case kv2_1=>rfl)
    (case kz2_1=>rfl)
    (case kl2_1_0=>k_is)
    (case kv2_1_0=>rfl)
    (case kz2_1_0=>rfl)
    (case kl2_1_1=>k_is)
    (case kv2_1_1=>rfl)
    (case kz2_1_1=>rfl)
    (case kl2_1_2=>k_is)
    (case kv2_1_2=>rfl)
    (case kz2_1_2=>rfl)
    (case kl2_1_3=>k_is)
    (case kv2_1_3=>rfl)
    (case kz2_1_3=>rfl)
    (case kl2_1_4=>k_is)
    (case kv2_1_4=>rfl)
    (case kz2_1_4=>rfl)
    (case k3=>k_is)
    (case k4=>k_is)
    (case k5=>k_is)
    (case k6=>k_is)
    (case k7=>k_is)
    (case k8=>k_is)
    (case k9=>k_is)
    (case k10=>k_is)
    (case k11=>k_is)
    (case k12=>k_is)
    (case k13=>k_is)
    (case k14=>k_is)
    (case kl14=>k_is)
    (case kv14=>rfl)
    (case kz14=>rfl)
    (case k15=>k_is)
    (case k16=>k_is)
    (case k17=>k_is)
    (case k18=>k_is)
    (case kl18=>k_is)
    (case kv18=>rfl)
    (case ks18=>rfl)
    (case kl18_0=>k_is)
    (case kv18_0=>rfl)
    (case kz18_0=>rfl)
    (case kl18_1=>k_is)
    (case kv18_1=>rfl)
    (case kz18_1=>rfl)
    (case kl18_2=>k_is)
    (case kv18_2=>rfl)
    (case kz18_2=>rfl)
    (case kl18_3=>k_is)
    (case kv18_3=>rfl)
    (case kz18_3=>rfl)
    (case kl18_4=>k_is)
    (case kv18_4=>rfl)
    (case kz18_4=>rfl)
    (case k19=>k_is)
    (case kl19=>k_is)
    (case kv19=>rfl)
    (case kz19=>rfl)
    (case z0=>k_is)
    (case z1=>k_is)
    (case z2=>k_is)
    (case z3=>k_is)
    (case z4=>k_is)
    (case z5=>k_is)
    (case z6=>k_is)
    (case z7=>k_is)
    (case z8=>k_is)
    (case z9=>k_is)
    (case z10=>k_is)
    (case z11=>k_is)
    (case z12=>k_is)
    (case z13=>k_is)
