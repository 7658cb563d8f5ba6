import PyProof.Rows.All
import Wide.All
import Wide.FinOn
import KE.KDictOf
import KE.RegKIsAll
import KE.KEqDeep
import KE.KRevIter
import KE.KEqDict
import KE.RegKTryMore
import KE.KItem
import KE.KTurns
import KE.KFromBytes
import KE.KEqText
import PySem.Challenge.RW_bytetongue_k91_whole_turned_in_pieces
set_option Elab.async false
set_option linter.all false
set_option maxRecDepth 100000
theorem Z{α:Sort _}{a:α}:a=a:=rfl
def V4:=@List.length_map
def V5:=@Nat.le_refl
def V6:=@Nat.lt_of_lt_of_le
def V7:=@PySem.Heap.lt_size
def V8:=@List.getElem?_eq_some_iff
def V9:=@PySem.Heap.get?_push_of_some
def Wa:=@List.length_take
def Wb:=@List.length_append
def Wc:=@Nat.ne_of_lt
def Wd:=@List.size_toArray
def We:=@List.getElem?_map
def Wf:=@Nat.le_of_ble_eq_true
def Wg:=@List.take_length
def Wh:=@List.mem_cons
def Wi:=@List.mem_append
def Wj:=@PySem.boot_len
def Wk:=@Bool.false_ne_true
def Wl:=@List.mem_singleton
def Wm:=@List.map_append
def Wn:=@Nat.lt_succ_self
def Wo:=@List.mem_of_getElem?
def Wp:=@PySem.F.plainAttrs_list
def Wq:=@Nat.le_trans
def Wr:=@List.mem_map
def Ws:=@PySem.Heap.get?_push_size
def Wt:=@Option.some.inj
def Wu:=@Nat.zero_le
def Wv:=@List.append_nil
def Ww:=@PySem.W.ke_shaped_ints
def Wx:=@List.mem_append_right
def Wy:=@Bool.and_eq_true
def Wz:=@Nat.lt_irrefl
def WA:=@List.map_cons
def WB:=@PySem.F.slot_list_append
def WC:=@PySem.F.type_list_append
def WD:=@List.mem_cons_of_mem
def WE:=@List.length_cons
def WF:=@PySem.Heap.get?_update_other
def WG:=@List.getElem?_eq_getElem
def WH:=@List.lookup_cons
def WI:=@List.find?_cons
def WJ:=@PyProof.Rows.boot_list
def WK:=@List.not_mem_nil
def WL:=@PySem.Heap.get?_update_self
def WM:=@PySem.F.slot_list_extend
def WN:=@PySem.F.type_list_extend
def WO:=@List.getD_eq_getElem?_getD
def WP:=@List.mem_cons_self
def WQ:=@List.mem_append_left
def WR:=@Option.map_eq_some_iff
def WS:=@PyProof.Rows.boot_isinstance
def WT:=@PyProof.Rows.callWith_type1
def WU:=@Nat.le_succ
def WV:=@List.append_assoc
def WW:=@List.all_eq_true
def WX:=@Nat.min_eq_left
def WY:=@List.map_map
def WZ:=@PySem.Heap.size_push
def W0:=@List.range_succ
def W1:=@Bool.eq_iff_iff
def W4:=@Nat.le_of_eq
def W5:=@List.getElem?_append_right
def W6:=@List.getElem?_append_left
def W7:=@List.any_cons
def W8:=@Option.map_some
def W9:=@PyProof.Rows.slot_tuple_getitem
def Xa:=@Int.toNat_natCast
def Xb:=@List.take_of_length_le
def Xc:=@List.getElem?_eq_none
def Xd:=@Array.getElem?_setIfInBounds
def Xe:=@PyProof.Rows.boot_int
def Xf:=@Nat.zero_lt_one
def Xg:=@Nat.succ.inj
def Xh:=@PySem.Heap.get?_none_of_le
def Xi:=@Nat.ne_of_gt
def Xj:=@List.nodup_cons
def Xk:=@List.of_mem_zip
def Xl:=@PySem.mem_of_lookup
def Xm:=@PySem.F.slot_dict_get
def Xn:=@List.length_drop
def Xo:=@List.replicate_succ
def Xp:=@List.foldl_cons
def Xq:=@Int.le_of_lt
def Xr:=@Option.bind_eq_some_iff
def Xs:=@PySem.Heap.size_after_update
def Xt:=@PySem.F.excBase_ValueError
def Xu:=@List.pairwise_iff_getElem
def Xv:=@Nat.lt_or_ge
def Xw:=@List.take_append_drop
def Xx:=@Int.natCast_add
def Xy:=@List.filterMap_cons
def Xz:=@Array.length_toList
def XA:=@List.getElem?_take_of_lt
def XB:=@Option.isSome_map
def XC:=@List.flatten_cons
def XD:=@Nat.add_sub_cancel_left
def XE:=@List.take_add_one
def XF:=@Array.size_setIfInBounds
def XG:=@List.mem_iff_getElem
def XH:=@PyProof.Rows.boot_tuple
def XI:=@Nat.le_of_lt
def XJ:=@List.length_replicate
def XL:=@List.cons_append
def XM:=@PySem.F.entry_dict_get
def XQ:=@Option.getD_none
def XR:=@Bool.false_eq_true
def XS:=@Array.getElem?_eq_some_iff
def XT:=@Nat.min_eq_right
def XU:=@List.drop_length
def XV:=@List.take_nil
def XW:=@List.drop_eq_nil_of_le
def XX:=@Array.getElem?_eq_getElem
def XY:=@List.length_reverse
def XZ:=@Nat.mul_succ
def X0:=@Int.pow_add
def X1:=@Int.add_mul
def X2:=@Int.mul_comm
def X3:=@List.foldl_append
def X4:=@List.flatMap_cons
def X5:=@Int.natAbs_of_nonneg
def X6:=@Int.natCast_pow
def X7:=@Int.ofNat_lt
def X8:=@List.mem_of_mem_take
def X9:=@Nat.not_lt_zero
def Ya:=@Int.zero_lt_one
def Yb:=@List.nodup_append
def Yc:=@List.getElem?_set_self
def Yd:=@List.getElem?_set_ne
def Ye:=@Int.fdiv_eq_ediv_of_nonneg
def Yf:=@PyProof.noPylong_small
def Yg:=@Option.isSome_iff_exists
def Yh:=@List.getElem?_replicate
def Yi:=@PySem.F.slot_dict_getitem
def Yj:=@PySem.F.args_dict_get_2
def Yk:=@PySem.F.plainAttrs_dict
def Yl:=@PySem.F.type_dict_get
def Ym:=@Array.getElem?_toList
def Yo:=@List.getElem?_reverse
def Yp:=@Nat.ble_eq_true_of_le
def Yq:=@Array.mem_toList_iff
def Yr:=@PySem.Heap.get?_update_ne
def Ys:=@PySem.F.slot_enumerate_next
def Yt:=@List.getElem?_of_mem
def Yu:=@PyProof.Rows.boot_bool
def Yv:=@List.filter_eq_nil_iff
def Yw:=@PyProof.Rows.boot_all
def Yx:=@List.getElem?_eq_none_iff
def Yy:=@Nat.mod_two_eq_zero_or_one
def Yz:=@List.forall_mem_cons
def kb:=@PySem.wpAny_bind
def on:=@PySem.wpAny_pure
def YA:=@if_neg
def YB:=@if_pos
def YC:=@absurd
def YD:=@of_decide_eq_true
def YE:=@decide_eq_true
def YF:=@decide_eq_false
abbrev g0:=List Int
abbrev h6:=PySem.Shared
namespace L2
open PySem PySem.Spec PyProof.Rows
abbrev aS:=Sum Int Str
def lJ:aS->Value->Bool
 | .inl k,v=>Value.isInt k v
 | .inr x,v=>Value.isStrOf x v
def N3(w:World):aS->Int
 | .inl k=>hashInt k
 | .inr x=>hashStr w x
theorem hJ:∀ {k:aS} {v:Value},lJ k v=true->(∃i t,k=Sum.inl i/\v=Value.int i t)\/(∃x t,k=Sum.inr x/\v=Value.str x t)
 | .inl i,v,h=>by
  obtain⟨t,e⟩:=Value.isInt_shape (k:=i) (v:=v) h;exact .inl ⟨i,t,Z,e⟩
 | .inr x,v,h=>by
  obtain⟨t,e⟩:=Value.isStrOf_shape (x:=x) (v:=v) h;exact .inr ⟨x,t,Z,e⟩
def NZ(i:Int)(t:Tok):lJ (.inl i) (.int i t)=true:=by simp[lJ,Value.isInt]
def NY(x:Str)(t:Tok):lJ (.inr x) (.str x t)=true:=by simp[lJ,Value.isStrOf]
def NX(a b:Int):decide ((Sum.inl a:aS)=Sum.inl b)=(a == b):=by
 by_cases e:a=b
 ·subst e;simp
 ·have h:¬(Sum.inl a:aS)=Sum.inl b:=λq=>e (Sum.inl.inj q);rw[YF h];exact (beq_eq_false_iff_ne.mpr e).symm
def NU(a b:Str):decide ((Sum.inr a:aS)=Sum.inr b)=decide (a=b):=by
 by_cases e:a=b
 ·subst e;simp
 ·have h:¬(Sum.inr a:aS)=Sum.inr b:=λq=>e (Sum.inr.inj q);rw[YF h,YF e]
def NW(a:Int)(b:Str):decide ((Sum.inl a:aS)=Sum.inr b)=false:=YF (λq=>nomatch q)
def NV(a:Str)(b:Int):decide ((Sum.inr a:aS)=Sum.inl b)=false:=YF (λq=>nomatch q)
def ci(prog:Program)(w:World):PySem.KeyKind prog w aS where
 is:=lJ
 hash:=N3 w
 inj:=λv a b d hb=>by
  rcases hJ d with ⟨i,t,rfl,rfl⟩|⟨x,t,rfl,rfl⟩
  ·rcases hJ hb with ⟨j,u,rfl,e⟩|⟨y,u,rfl,e⟩
   ·injection e with e1 _;rw[e1]
   ·exact nomatch e
  ·rcases hJ hb with ⟨j,u,rfl,e⟩|⟨y,u,rfl,e⟩
   ·exact nomatch e
   ·injection e with e1 _;rw[e1]
 byValue:=λk v h=>by
  rcases hJ h with ⟨i,t,rfl,rfl⟩|⟨x,t,rfl,rfl⟩<;>rfl
 pyHash:=λc h=>by
  rcases hJ c with ⟨i,t,rfl,rfl⟩|⟨x,t,rfl,rfl⟩
  ·exact wpAny_pyHash_int h
  ·exact wpAny_pyHash_str h
 eqBool:=λf c h=>by
  rcases hJ f with ⟨i,t,rfl,rfl⟩|⟨x,t,rfl,rfl⟩
  ·rcases hJ c with ⟨j,u,rfl,rfl⟩|⟨y,u,rfl,rfl⟩
   ·rw[NX]at h;exact wpAny_eqBool_int h
   ·rw[NW]at h;exact SeqAt.EqAt.int_str i t y u _ _ _ _ h
  ·rcases hJ c with ⟨j,u,rfl,rfl⟩|⟨y,u,rfl,rfl⟩
   ·rw[NV]at h;exact SeqAt.EqAt.str_int x t j u _ _ _ _ h
   ·rw[NU]at h;exact wpAny_eqBool_str h
 «strs»:=λk x t v h=>by
  rcases hJ h with ⟨i,u,rfl,e⟩|⟨y,u,rfl,e⟩
  ·exact nomatch e
  ·injection e with e1 _
   subst e1;cases v<;>rfl
def CD(prog:Program)(w:World)(i:Int)(t:Tok):(ci prog w).is (.inl i) (.int i t)=true:=NZ i t
def CC(prog:Program)(w:World)(x:Str)(t:Tok):(ci prog w).is (.inr x) (.str x t)=true:=NY x t
inductive V where
 | non|bl (b:Bool)|int (i:Int)|str (x:Str)|byt (b:Array UInt8)|flt (b:UInt64)|ref (a:Addr)|ty (n:String)
 deriving DecidableEq
def aN:V->Value->Prop
 | .non,u=>u=Value.none
 | .bl b,u=>u=Value.bool b
 | .int i,u=>∃t,u=Value.int i t
 | .str x,u=>∃t,u=Value.str x t
 | .byt b,u=>∃t,u=Value.bytes b t
 | .flt b,u=>∃t,u=Value.float b t
 | .ref a,u=>u=Value.ref a
 | .ty n,u=>u=Value.type n
abbrev aA:List V->List Value->Prop:=Paired aN
def aA.length{xs:List V}{us:List Value}(r:aA xs us):xs.length=us.length:=Paired.length r
theorem aA.get:∀ {xs:List V} {us:List Value} {i:Nat} {x:V},aA xs us->xs[i]? = some x->∃u,us[i]? = some u/\aN x u
 | _,_,_,_,.nil,e=>by simp at e
 | _,_,0,_,.cons r _,e=>by simp at e;subst e;exact⟨_,Z,r⟩
 | _,_,i+1,x,.cons _ t,e=>by
  obtain⟨u,b,a⟩:=aA.get (i:=i) (x:=x) t (by simpa using e);exact⟨u,by simpa using b,a⟩
theorem aA.set{x:V}{u:Value}(r:aN x u):∀ {xs:List V} {us:List Value} (i:Nat),aA xs us->aA (xs.set i x) (us.set i u)
 | _,_,_,.nil=>.nil
 | _,_,0,.cons _ t=>.cons r t
 | _,_,i+1,.cons q t=>.cons q (aA.set r i t)
theorem aA.append:∀ {xs b:List V} {us a:List Value},aA xs us->aA b a->aA (xs++b) (us++a)
 | _,_,_,_,.nil,s=>s
 | _,_,_,_,.cons r t,s=>.cons r (aA.append t s)
theorem aA.take:∀ {xs:List V} {us:List Value} (n:Nat),aA xs us->aA (xs.take n) (us.take n)
 | _,_,0,_=>.nil
 | _,_,_+1,.nil=>.nil
 | _,_,n+1,.cons r t=>.cons r (aA.take n t)
theorem aA.drop:∀ {xs:List V} {us:List Value} (n:Nat),aA xs us->aA (xs.drop n) (us.drop n)
 | _,_,0,r=>r
 | _,_,_+1,.nil=>.nil
 | _,_,n+1,.cons _ t=>aA.drop n t
def cM:Option V->Option Value->Prop
 | some v,some u=>aN v u
 | none,none=>True
 | _,_=>False
def KV{κ:Type}:List (κ × V)->List (κ × Value)->Prop:=Paired λ(p:κ × V) (q:κ × Value)=>p.1=q.1/\aN p.2 q.2
def kV:aS->V
 | .inl i=>.int i
 | .inr x=>.str x
inductive HO where
 | lst (xs:List V)
 | tup (xs:List V)
 | dK (kvs:List (aS × V))|dT (kvs:List (List aS × V))
 | set (S:Int->Bool) (n:Nat)
 | ins (C dx:Addr) (fs:List (Str × V))
 | own (x:Addr)
 | xd (fs:List (Str × V))
 | met (f x:Addr)
 | rng (lo hi:Int)
 | frz (o:Obj) (u:HO)
 | tbl (ps:Array Value)
 | ext (φ:Heap->Prop)
abbrev Hp:=Addr->Option HO
def upd(H:Hp)(a:Addr)(o:HO):Hp:=λb=>if b=a then some o else H b
def az{H:Hp}{a:Addr}{o:HO}:upd H a o a=some o:=by unfold upd;rw[YB rfl]
def ap{H:Hp}{a b:Addr}{o:HO}(h:b≠a):upd H a o b=H b:=by unfold upd;rw[YA h]
def Mq{H:Hp}{a b:Addr}{o u:HO}(h:H a=some o)(h':H b=some u)(d:o≠u):a≠b:=by
 intro e;subst e;rw[h]at h';exact d (Wt h')
def au{H:Hp}{a b:Addr}{o:HO}(h:H a=some o)(h':H b=none):a≠b:=by
 intro e;subst e;rw[h]at h';cases h'
section
variable (P:Program)(w:World)
def bw(H:Hp)(h:Heap)(a:Addr):HO->Prop
 | .lst xs=>xs.length<=sizeLine/\∃(b:List Value) (n:Nat),aA xs b/\h.get? a=some { cls:=.type "list",data:=.seq b.toArray n }
 | .tup xs=>xs.length<=sizeLine/\∃b:List Value,aA xs b/\IsTup h a b.toArray
 | .dK kvs=>kvs.length<=sizeLine/\(a == sysModules)=false/\∃vs,KV kvs vs/\h.DictOf (ci P w) a vs
 | .dT kvs=>kvs.length<=sizeLine/\(a == sysModules)=false/\∃xs:List (List aS × Addr × Value),
  Paired (λ(p:List aS × V) (q:List aS × Addr × Value)=>p.1=q.1/\H q.2.1=some (.tup (p.1.map kV))/\aN p.2 q.2.2) kvs xs /\
  ∃o es ep,h.get? a=some o/\o.ExactDict/\o.data=.dict es ep/\es.toList=xs.map (entryOfKey (tupleKind (ci P w)))/\(xs.map (·.1)).Nodup
 | .set S n=>h.SetOf (intKind P w) a S n
 | .ins C dx fs=>H dx=some (.own a)/\fs.length<=1000/\dx≠a/\h.get? a=some (W.instObj C dx) /\
  ∃mA,h.Ns1 dx mA/\(∀f,cM (fs.lookup f) (mA f))/\PySem.Within mA (fs.map (·.1))
 | .own _=>∃o,h.get? a=some o
 | .xd fs=>∃mA,h.Ns1 a mA/\∀f,cM (fs.lookup f) (mA f)
 | .rng lo hi=>∃t u v,h.get? a=some { cls:=.type "range",data:=.fields #[.int lo t,.int hi u,.int 1 v] }
 | .frz o u=>h.get? a=some o/\bw H h a u
 | .tbl ps=>h.get? a=some { cls:=.none,data:=.fields ps }
 | .met f x=>h.get? a=some (W.methodObj (.ref f) (.ref x))
 | .ext φ=>φ h/\(∃o,h.get? a=some o)/\∀h1 h2:Heap,φ h1->(∀o,h1.get? a=some o->h2.get? a=some o)->φ h2
def bz(H:Hp)(h:Heap):Prop:=∀a o,H a=some o->bw P w H h a o
end
section
variable {P:Program}{w:World}{H H':Hp}{h h':Heap}{a:Addr}{o:HO}
def bw.lt(x:bw P w H h a o):a<h.objs.size:=by
 cases o with
 | lst xs=>obtain⟨_,_,_,_,e⟩:=x;exact V7 e
 | tup xs=>obtain⟨_,_,_,p⟩:=x;exact p.lt
 | dK kvs=>obtain⟨_,_,_,_,o,_,_,e,_⟩:=x;exact V7 e
 | dT kvs=>obtain⟨_,_,_,_,o,_,_,e,_⟩:=x;exact V7 e
 | set S n=>obtain⟨o,_,_,_,e,_⟩:=x;exact V7 e
 | ins C dx fs=>obtain⟨_,_,_,e,_⟩:=x;exact V7 e
 | own y=>obtain⟨_,e⟩:=x;exact V7 e
 | xd fs=>obtain⟨_,⟨_,_,_,e,_⟩,_⟩:=x;exact V7 e
 | rng lo hi=>obtain⟨_,_,_,e⟩:=x;exact V7 e
 | frz ob u=>obtain⟨e,_⟩:=x;exact V7 e
 | tbl ps=>exact V7 (show h.get? a=some _ from x)
 | met f y=>exact V7 (show h.get? a=some _ from x)
 | ext φ=>obtain⟨_,⟨_,e⟩,_⟩:=x;exact V7 e
theorem Paired.mapP{α β:Type}{F G:α->β->Prop}:∀ {c:List α} {d:List β},Paired F c d->(∀a b,F a b->G a b)->Paired G c d
 | _,_,.nil,_=>.nil
 | _,_,.cons r t,f=>.cons (f _ _ r) (Paired.mapP t f)
def bw.stay(x:bw P w H h a o)(k:∀b u,(b=a\/H b=some (.own a))->h.get? b=some u->h'.get? b=some u)
 (s:∀b,H b=some (.own a)->H' b=some (.own a)) (ht:∀b xs,H b=some (.tup xs)->H' b=some (.tup xs)):bw P w H' h' a o:=by
 induction o with
 | lst xs=>obtain⟨z,l,n,r,e⟩:=x;exact⟨z,l,n,r,k _ _ (.inl Z) e⟩
 | tup xs=>obtain⟨z,l,r,g,e,c⟩:=x;exact⟨z,l,r,g,k _ _ (.inl Z) e,c⟩
 | dK kvs=>obtain⟨z,y,vs,r,g,i,j,e,c⟩:=x;exact⟨z,y,vs,r,g,i,j,k _ _ (.inl Z) e,c⟩
 | dT kvs =>
  obtain⟨z,y,xs,r,g,i,j,e,c⟩:=x;exact⟨z,y,xs,Paired.mapP r λp q z=>⟨z.1,ht _ _ z.2.1,z.2.2⟩,g,i,j,k _ _ (.inl Z) e,c⟩
 | set S n=>obtain⟨g,i,j,t,e,c⟩:=x;exact⟨g,i,j,t,k _ _ (.inl Z) e,c⟩
 | ins C dx fs =>
  obtain⟨d,z,ne,e,mA,⟨m,i,j,B,c⟩,r⟩:=x;exact⟨s _ d,z,ne,k _ _ (.inl Z) e,mA,⟨m,i,j,k _ _ (.inr d) B,c⟩,r⟩
 | own y=>obtain⟨g,e⟩:=x;exact⟨g,k _ _ (.inl Z) e⟩
 | xd fs=>obtain⟨mA,⟨m,i,j,e,c⟩,r⟩:=x;exact⟨mA,⟨m,i,j,k _ _ (.inl Z) e,c⟩,r⟩
 | rng lo hi=>obtain⟨t,u,v,e⟩:=x;exact⟨t,u,v,k _ _ (.inl Z) e⟩
 | frz g u ih=>obtain⟨e,q⟩:=x;exact⟨k _ _ (.inl Z) e,ih q⟩
 | tbl ps =>
  have e:h.get? a=some { cls:=.none,data:=.fields ps }:=x;show h'.get? a=some { cls:=.none,data:=.fields ps };exact k a _ (.inl Z) e
 | met f y =>
  have e:h.get? a=some (W.methodObj (.ref f) (.ref y)):=x;show h'.get? a=some (W.methodObj (.ref f) (.ref y));exact k a _ (.inl Z) e
 | ext φ=>obtain⟨p,⟨o,e⟩,st⟩:=x;exact⟨st _ _ p λo q=>k _ _ (.inl Z) q,⟨o,k _ _ (.inl Z) e⟩,st⟩
def bz.lt(x:bz P w H h)(e:H a=some o):a<h.objs.size:=(x a o e).lt
def bz.fresh(x:bz P w H h)(e:h.objs.size<=a):H a=none:=by
 cases q:H a with
 | none=>rfl
 | some u=>exact YC (V6 (x.lt q) e) (Wz _)
def bz.kept(x:bz P w H h)(k:∀b u,h.get? b=some u->h'.get? b=some u):bz P w H h':=λa o e =>
 (x a o e).stay (λb u _ q=>k b u q) (λ_ q=>q) λ_ _ q=>q
def bz.laid(x:bz P w H h)(k:∀b u,h.get? b=some u->h'.get? b=some u)(f:h.objs.size<=a)(new:bw P w (upd H a o) h' a o):bz P w (upd H a o) h':=λb u e=>by
 have d:=x.fresh f;by_cases hb:b=a
 ·subst hb;rw[az]at e;cases e;exact new
 ·rw[ap hb]at e;exact (x b u e).stay (λc v _ q=>k c v q) (λc q=>by rw[ap (au q d)];exact q) λc xs q=>by rw[ap (au q d)];exact q
end
def Rd(H:Hp)(a:Addr)(u:HO):Prop:=H a=some u\/∃o,H a=some (.frz o u)
def Rd.ok{P:Program}{w:World}{H:Hp}{h:Heap}{a:Addr}{u:HO}(r:Rd H a u)(x:bz P w H h):bw P w H h a u:=by
 rcases r with r|⟨o,r⟩
 ·exact x a u r
 ·obtain⟨_,q⟩:=x a _ r;exact q
def nX:Option HO->Prop
 | some (.lst _)=>True
 | some (.dK _)=>True
 | some (.dT _)=>True
 | some (.set _ _)=>True
 | some (.ins _ _ _)=>True
 | some (.ext _)=>True
 | _=>False
section
variable {P:Program}{w:World}{H:Hp}{h h':Heap}{x e:Addr}{o':HO}
def bz.write(ok:bz P w H h)(f:nX (H x))(l:e=x\/H e=some (.own x))(k:∀b u,b≠e->h.get? b=some u->h'.get? b=some u)(i:∃u,h'.get? e=some u)
 (new:bw P w (upd H x o') h' x o'):bz P w (upd H x o') h':=λb u q=>by
 have a:∀c y,H c=some (.own y)->c≠x:=λc y r z=>by subst z;rw[r]at f;exact f
 have d:∀c xs,H c=some (.tup xs)->c≠x:=λc xs r z=>by subst z;rw[r]at f;exact f
 by_cases hb:b=x
 ·subst hb;rw[az]at q;cases q;exact new
 ·rw[ap hb]at q;by_cases hbe:b=e
  ·have j:H b=some (.own x):=by
    rcases l with z|z
    ·exact YC (hbe.trans z) hb
    ·rw[hbe];exact z
   rw[q]at j;cases j;obtain⟨v,m⟩:=i;exact⟨v,by rw[hbe];exact m⟩
  ·refine (ok b u q).stay (λc v g r=>k c v ?_ r) (λc r=>by rw[ap (a c b r)];exact r) λc xs r=>by rw[ap (d c xs r)];exact r
   rcases g with rfl|g
   ·exact hbe
   ·rintro rfl;rcases l with z|z
    ·exact a c b g z
    ·rw[g]at z;cases z;exact hb Z
end
structure Un (fs ex:List Addr) (H H':Hp) (h h':Heap):Prop where
 keep:∀b o,h.get? b=some o->H b=none->b∉fs->b∉ex->h'.get? b=some o
 slot:∀b o,h.get? b=some o->H b=none->b∈fs->b∉ex->∃sl,h'.get? b=some { o with slots:=sl }
 free:∀b o,h.get? b=some o->H b=none->b∉ex->H' b=none
 there:∀b o,h.get? b=some o->b∉ex->∃o',h'.get? b=some o'
 tups:∀b xs,H b=some (.tup xs)->H' b=some (.tup xs)
 frzs:∀b o u,H b=some (.frz o u)->H' b=some (.frz o u)
 tbls:∀b ps,H b=some (.tbl ps)->∃more,H' b=some (.tbl (ps++more))
section
variable {fs fs' ex ex':List Addr}{H H1 H2:Hp}{h h1 h2 h':Heap}{a x e:Addr}{o:HO}
def Un.any(u:Un fs ex H H1 h h1){b:Addr}{a:Obj}(q:h.get? b=some a)(n:H b=none)(hx:b∉ex):∃sl,h1.get? b=some { a with slots:=sl }:=by
 by_cases hb:b∈fs
 ·exact u.slot b a q n hb hx
 ·exact⟨a.slots,u.keep b a q n hb hx⟩
def Un.kept(k:∀b u,h.get? b=some u->h'.get? b=some u):Un fs ex H H h h' :=
 ⟨λb a q _ _ _=>k b a q,λb a q _ _ _=>⟨a.slots,k b a q⟩,λ_ _ _ n _=>n,λb a q _=>⟨a,k b a q⟩,λ_ _ q=>q,λ_ _ _ q=>q,λ_ ps q=>⟨#[],by rw[q];simp⟩⟩
def Un.refl:Un fs ex H H h h:=Un.kept λ_ _ q=>q
def Un.laid(k:∀b u,h.get? b=some u->h'.get? b=some u)(d:h.objs.size<=a)(c:H a=none):Un fs ex H (upd H a o) h h' where
 keep:=λb u q _ _ _=>k b u q
 slot:=λb u q _ _ _=>⟨u.slots,k b u q⟩
 free:=λb u q n _=>by rw[ap (Wc (V6 (V7 q) d))];exact n
 there:=λb u q _=>⟨u,k b u q⟩
 tups:=λb xs q=>by rw[ap (au q c)];exact q
 frzs:=λb u xs q=>by rw[ap (au q c)];exact q
 tbls:=λb ps q=>⟨#[],by rw[ap (au q c),q];simp⟩
def Un.write(a:nX (H x))(d:e=x\/H e=some (.own x))(k:∀b u,b≠e->h.get? b=some u->h'.get? b=some u)(c:∃u,h'.get? e=some u):Un fs ex H (upd H x o) h h':=by
 have hx:∀b,H b=none->b≠x:=λb n z=>by subst z;rw[n]at a;exact a
 have hb:∀b,H b=none->b≠e:=λb n z=>by
  subst z;rcases d with r|r
  ·exact hx b n r
  ·rw[n]at r;cases r
 have hm:∀b u,H b=some u->¬nX (some u)->b≠x:=λb u q f z=>by subst z;rw[q]at a;exact f a
 refine⟨λb u q n _ _=>k b u (hb b n) q,λb u q n _ _=>⟨u.slots,k b u (hb b n) q⟩,λb u q n _=>by rw[ap (hx b n)];exact n,λb u q _=>?_,
  λb xs q=>by rw[ap (hm b _ q λz=>z)];exact q,λb u xs q=>by rw[ap (hm b _ q λz=>z)];exact q,λb ps q=>⟨#[],by rw[ap (hm b _ q λz=>z),q];simp⟩⟩
 by_cases hbe:b=e
 ·subst hbe;exact c
 ·exact⟨u,k b u hbe q⟩
end
def oz(h:Heap)(H:Hp):List Addr:=(List.range h.objs.size).filter λa=>(H a).isSome
def hV(h:Heap)(H:Hp):Heap:=W.hideAll h (oz h H)
def Ol(h:Heap)(H:Hp):(hV h H).objs.size=h.objs.size:=W.hideAll_size _ _
def Om{h:Heap}{H:Hp}{b:Addr}{o:Obj}(e:h.get? b=some o)(n:H b=none):(hV h H).get? b=some o :=
 W.hideAll_get _ e λhm=>by
  have q:(H b).isSome=true:=(List.mem_filter.mp hm).2;rw[n]at q;simp at q
def Mn{h:Heap}{H:Hp}{b:Addr}{o:Obj}(e:(hV h H).get? b=some o):h.get? b=some o/\H b=none:=by
 have e':h.get? b=some o:=W.of_hideAll (oz h H) e;refine⟨e',?_⟩;cases q:H b with
 | none=>rfl
 | some x =>
  have hm:b∈oz h H:=List.mem_filter.mpr ⟨List.mem_range.mpr (V7 e'),by simp[q]⟩;have z:(hV h H).get? b=none:=W.hideAll_none (oz h H) hm;rw[z]at e;cases e
def T9(g h:Heap)(L:Addr):List (Addr × Obj):=(List.range h.objs.size).filterMap λa=>if a=L\/(g.get? a).isSome=true then none else (h.get? a).map λo=>(a,o)
def bB(g h:Heap)(L d:Addr):List (Addr × Obj):=(T9 g h L).filter λp=>decide (p.1≠d)
structure Mod (K:W.Frag) (mg:Str->Option Value) (base:Heap):Prop where
 kin:K.In base
 glob:base.Ns mainGlobals mg
 blt:∃mb,base.Ns builtinsNs mb/\∀x:Str,x ≠ "__name__"->mb x=bootBuiltins x
 nolimit:base.NoLimit
structure Cx where
 prog:Program
 w:World
 K:W.Frag
 mg:Str->Option Value
 base:Heap
 A:Around
 N:List Str
 s₀:h6
 H₀:Hp
 env:Env
 outer:List Env
 stack:List Env
 ex:List Addr
 fn:Str->Bool
 calm:Bool
 pn:List (Addr × Obj)
 xe:Value->h6->Prop
def cw(l:List Env):List Addr:=l.filterMap (·.frame)
abbrev Cx.fs(X:Cx):List Addr:=cw X.outer
def sE(a:Scope)(x:Str):Prop:=a.names.lookup x=some .local\/a.names.lookup x=some .cell\/a.names.lookup x=some .free
def iF(a:Scope)(x:Str):Prop:=a.names.lookup x=some .local\/a.names.lookup x=some .cell
def Ue(env:Env)(h:Heap)(m:Str->Option Value)(x:Str)(u:Value):Prop :=
 (env.kindOf x=some .local/\m x=some u)\/((env.kindOf x=some .cell\/env.kindOf x=some .free)/\∃c,env.cells.lookup x=some c/\h.IsCell c (some u))
structure Cx.Ok (X:Cx):Prop where
 mod:Mod X.K X.mg X.base
 kind:X.env.scope.kind=.function
 glob:X.env.globals=mainGlobals
 blt:X.env.builtins=builtinsNs
 above:X.s₀.heap.objs.size<=X.env.locals
 inj:∀x y c,X.env.cells.lookup x=some c->X.env.cells.lookup y=some c->x=y
 has:∀x,(X.env.kindOf x=some .cell\/X.env.kindOf x=some .free)->∃c,X.env.cells.lookup x=some c
 cab:∀x c,X.fn x=true->X.env.cells.lookup x=some c->X.s₀.heap.objs.size<=c
 hd:X.calm=true->X.A.handled=none
 frames:X.A.frames=some X.stack
 stk:X.stack=X.outer\/(X.stack=X.env::X.outer/\X.env.frame=some X.env.locals)
 exf:∀b∈X.ex,b≠X.env.locals/\∀x c,X.env.cells.lookup x=some c->c≠b
 bs:∀b o,X.base.get? b=some o->X.s₀.heap.get? b=some o/\X.H₀ b=none
 bsz:X.base.objs.size<=X.s₀.heap.objs.size
 noex:∀b o,X.base.get? b=some o->b∉X.ex
 exfs:∀b∈X.ex,b∉X.fs
 funs:X.s₀.heap.FunFrames X.base X.outer
 frf:∀b∈X.fs,X.H₀ b=none
structure af (X:Cx) (pins:List (Addr × Obj)) (σ:List (Option V)) (H:Hp) (s:h6):Prop where
 ok:X.Ok
 os:s.os=X.s₀.os
 bare:AllBare s.gens
 base:Un X.fs X.ex X.H₀ H X.s₀.heap s.heap
 loc:∃m,s.heap.Ns X.env.locals m/\∀(i:Nat) (x:Str) (v:V),X.N[i]? = some x->σ[i]? = some (some v)->sE X.env.scope x->∃u,aN v u/\Ue X.env s.heap m x u
 cell:∀x c,X.env.cells.lookup x=some c->∃v,s.heap.IsCell c v
 free:H X.env.locals=none
 freeC:∀x c,X.env.cells.lookup x=some c->H c=none
 pin:∀p∈X.pn++pins,s.heap.get? p.1=some p.2/\H p.1=none/\p.1≠X.env.locals/\p.1∉X.fs/\∀v,p.2.data ≠ .cell v
 hok:bz X.prog X.w H s.heap
 len:σ.length=X.N.length
section
variable {X:Cx}{pins:List (Addr × Obj)}{σ:List (Option V)}{H H':Hp}{s:h6}{h':Heap}
def Cx.Ok.nofr(ok:X.Ok){b:Addr}{o:Obj}(e:X.base.get? b=some o):b∉X.fs:=λhb=>by
 have:=(ok.funs.mem hb).1;rw[e]at this;cases this
def af.bs(I:af X pins σ H s):∀b o,X.base.get? b=some o->s.heap.get? b=some o/\H b=none:=λb o e =>
 ⟨I.base.keep b o (I.ok.bs b o e).1 (I.ok.bs b o e).2 (I.ok.nofr e) (I.ok.noex b o e),I.base.free b o (I.ok.bs b o e).1 (I.ok.bs b o e).2 (I.ok.noex b o e)⟩
def af.bk(I:af X pins σ H s):∀b o,X.base.get? b=some o->s.heap.get? b=some o:=λb o e=>(I.bs b o e).1
def af.mod(I:af X pins σ H s):Mod X.K X.mg X.base:=I.ok.mod
def af.kIn(I:af X pins σ H s):X.K.In s.heap:=I.ok.mod.kin.keeps I.bk
def af.lt(I:af X pins σ H s):X.env.locals<s.heap.objs.size:=let ⟨_,hn,_⟩:=I.loc;hn.lt
def af.sz(I:af X pins σ H s):X.s₀.heap.objs.size<=s.heap.objs.size:=Wq I.ok.above (XI I.lt)
def af.nofs(I:af X pins σ H s){a:Addr}(h:s.heap.objs.size<=a):a∉X.fs:=λhb=>by
 obtain⟨_,o,b,_⟩:=I.ok.funs.mem hb;exact YC (V6 (V7 b) (Wq I.sz h)) (Wz _)
def af.cne(I:af X pins σ H s):∀x c,X.env.cells.lookup x=some c->c≠X.env.locals:=λx c e z=>by
 obtain⟨v,o,d,hd⟩:=I.cell x c e;obtain⟨m,⟨g,f,h,b,a,_⟩,_⟩:=I.loc;rw[z,b]at d;cases d;rw[a]at hd;cases hd
def af.funs(I:af X pins σ H s):s.heap.FunFrames X.base X.outer:=by
 have all:∀(l:List Env),(∀b∈cw l,b∈X.fs)->X.s₀.heap.FunFrames X.base l->s.heap.FunFrames X.base l:=by
  intro l
  induction l with
  | nil=>intro _ _;trivial
  | cons env r ih =>
   intro hs hl;obtain⟨d,⟨L,o,a,f,c,hd⟩,hr⟩:=hl;have hL:L∈X.fs:=hs L (by unfold cw;rw[Xy,a];exact WP);obtain⟨g,e⟩:=I.base.slot L o c (I.ok.frf L hL) hL λz=>I.ok.exfs L z hL;exact⟨d,⟨L,_,a,f,e,hd⟩,ih (λb hb=>hs b (by unfold cw;rw[Xy,a];exact WD _ hb)) hr⟩
 exact all X.outer (λ_ hb=>hb) I.ok.funs
def af.stack(I:af X pins σ H s):s.heap.FunFrames X.base X.stack:=by
 rcases I.ok.stk with e|⟨e,hf⟩
 ·rw[e];exact I.funs
 ·rw[e];obtain⟨m,a,_⟩:=I.loc;refine .cons (by rw[I.ok.kind];decide) hf a ?_ I.funs;exact Xh (Wq I.ok.bsz I.ok.above)
def af.stkSub(I:af X pins σ H s):∀b∈cw X.stack,b∈X.env.locals::X.fs:=λb hb=>by
 rcases I.ok.stk with e|⟨e,hf⟩
 ·rw[e]at hb;exact WD _ hb
 ·rw[e]at hb;unfold cw at hb;rw[Xy,hf]at hb;exact hb
def af.stkFree(I:af X pins σ H s):∀b∈cw X.stack,H b=none:=λb hb=>by
 rcases Wh.mp (I.stkSub b hb) with e|hb
 ·rw[e];exact I.free
 ·obtain⟨_,o,a,_⟩:=I.ok.funs.mem hb;exact I.base.free b o a (I.ok.frf b hb) λz=>I.ok.exfs b z hb
def af.step{g':Array GenState}{t':Nat}{d':Drawn}{ch:List Addr}(I:af X pins σ H s)
 (a:∀b∈ch,(b∈X.ex\/X.s₀.heap.objs.size<=b)/\b≠X.env.locals/\(∀x c,X.env.cells.lookup x=some c->c≠b)/\∀p∈X.pn++pins,p.1≠b)
 (keep:∀b o,b≠X.env.locals->b∉X.fs->b∉ch->s.heap.get? b=some o->H b=none->h'.get? b=some o)
 (slot:∀b o,b≠X.env.locals->b∈X.fs->b∉ch->s.heap.get? b=some o->H b=none->∃B,h'.get? b=some { o with slots:=B }) (free:∀b o,b∉ch->s.heap.get? b=some o->H b=none->H' b=none)
 (there:∀b o,b∉ch->s.heap.get? b=some o->∃j,h'.get? b=some j)
 (tups:∀b xs,H b=some (.tup xs)->H' b=some (.tup xs)) (frzs:∀b o u,H b=some (.frz o u)->H' b=some (.frz o u)) (tbls:∀b ps,H b=some (.tbl ps)->∃more,H' b=some (.tbl (ps++more)))
 (ns:∀m,s.heap.Ns X.env.locals m->h'.Ns X.env.locals m) (hok:bz X.prog X.w H' h') (J:AllBare g') :
 af X pins σ H' { s with heap:=h',gens:=g',drawn:=d',toks:=t' }:=by
 have neL:∀b o,X.s₀.heap.get? b=some o->b≠X.env.locals:=λb o e=>Wc (V6 (V7 e) I.ok.above);have neC:∀b o,X.s₀.heap.get? b=some o->b∉X.ex->b∉ch:=λb o e hx hb=>by
  rcases (a b hb).1 with z|z
  ·exact hx z
  ·exact YC (V6 (V7 e) z) (Wz _)
 have cellK:∀x c,X.env.cells.lookup x=some c->∀v,s.heap.IsCell c v->h'.IsCell c v:=λx c e v ⟨o,h,hd⟩=>by
  have f:c∉ch:=λz=>(a c z).2.2.1 x c e rfl;by_cases hc:c∈X.fs
  ·obtain⟨B,q⟩:=slot c o (I.cne x c e) hc f h (I.freeC x c e);exact⟨_,q,hd⟩
  ·exact⟨o,keep c o (I.cne x c e) hc f h (I.freeC x c e),hd⟩
 refine⟨I.ok,I.os,J,⟨λb o e n hb hx=>?_,λb o e n hb hx=>?_,λb o e n hx=>?_,λb o e hx=>?_,λb xs e=>tups b xs (I.base.tups b xs e),λb o xs e=>frzs b o xs (I.base.frzs b o xs e),λb ps e=>?_⟩,?_,λx c e=>?_,?_,λx c e=>?_,λp D=>?_,hok,I.len⟩
 ·exact keep b o (neL b o e) hb (neC b o e hx) (I.base.keep b o e n hb hx) (I.base.free b o e n hx)
 ·obtain⟨B,g⟩:=I.base.slot b o e n hb hx;obtain⟨C,y⟩:=slot b _ (neL b o e) hb (neC b o e hx) g (I.base.free b o e n hx);exact⟨C,y⟩
 ·obtain⟨j,g⟩:=I.base.there b o e hx;exact free b j (neC b o e hx) g (I.base.free b o e n hx)
 ·obtain⟨j,g⟩:=I.base.there b o e hx;exact there b j (neC b o e hx) g
 ·obtain⟨M,g⟩:=I.base.tbls b ps e;obtain⟨L,y⟩:=tbls b _ g;exact⟨M++L,by rw[y,Array.append_assoc]⟩
 ·obtain⟨m,N,hl⟩:=I.loc;refine⟨m,ns m N,λi x v g y G=>?_⟩;obtain⟨u,r,l⟩:=hl i x v g y G;refine⟨u,r,?_⟩;rcases l with l|⟨k,c,e,z⟩
  ·exact .inl l
  ·exact .inr ⟨k,c,e,cellK x c e _ z⟩
 ·obtain⟨v,z⟩:=I.cell x c e;exact⟨v,cellK x c e v z⟩
 ·obtain⟨m,⟨o,_,_,h,_⟩,_⟩:=I.loc;exact free _ o (λz=>(a _ z).2.1 Z) h I.free
 ·obtain⟨v,o,h,hd⟩:=I.cell x c e;exact free c o (λz=>(a c z).2.2.1 x c e Z) h (I.freeC x c e)
 ·obtain⟨e,n,ne,F,d⟩:=I.pin p D;have f:p.1∉ch:=λz=>(a p.1 z).2.2.2 p D rfl;exact⟨keep p.1 p.2 ne F f e n,free p.1 p.2 f e n,ne,F,d⟩
def af.un{t':Nat}(I:af X pins σ H s)(u:Un X.fs [] H H' s.heap h')(hok:bz X.prog X.w H' h'):af X pins σ H' { s with heap:=h',toks:=t' }:=by
 obtain⟨m,⟨o,h,j,f,r⟩,_⟩:=id I.loc;obtain⟨k,hL⟩:=u.any f I.free (by simp);exact I.step (g':=s.gens) (d':=s.drawn) (ch:=[]) (λ_ z=>nomatch z) (λb o _ hb _ e n=>u.keep b o e n hb (by simp)) (λb o _ hb _ e n=>u.slot b o e n hb (by simp)) (λb o _ e n=>u.free b o e n (by simp)) (λb o _ e=>u.there b o e (by simp)) u.tups u.frzs u.tbls (λm' hm=>by
  obtain⟨i,c,d,a,g⟩:=hm;rw[f]at a;cases a;exact⟨_,c,d,hL,g⟩) hok I.bare
def af.call{g':Array GenState}{t':Nat}{d':Drawn}{ch:List Addr}(I:af X pins σ H s)(u:Un (cw X.stack) ch H H' s.heap h')(hok:bz X.prog X.w H' h')(j:AllBare g')
 (d:∀b∈ch,(b∈X.ex\/X.s₀.heap.objs.size<=b)/\b≠X.env.locals/\(∀x c,X.env.cells.lookup x=some c->c≠b)/\∀p∈X.pn++pins,p.1≠b) :
 af X pins σ H' { s with heap:=h',gens:=g',drawn:=d',toks:=t' }:=by
 obtain⟨m,⟨o,l,v,i,r⟩,_⟩:=id I.loc;obtain⟨y,hL⟩:=u.any i I.free λz=>(d _ z).2.1 rfl;exact I.step (ch:=ch) d (λb o hL hb a e n=>u.keep b o e n (λz=>(Wh.mp (I.stkSub b z)).elim hL hb) a) (λb o _ _ a e n=>u.any e n a) (λb o a e n=>u.free b o e n a) (λb o a e=>u.there b o e a) u.tups u.frzs u.tbls (λm' hm=>by
  obtain⟨q,g,h,f,k⟩:=hm;rw[i]at f;cases f;exact⟨_,g,h,hL,k⟩) hok j
def af.turned{t':Nat}{it:Addr}(I:af X pins σ H s)(k:∀b o,b≠it->s.heap.get? b=some o->h'.get? b=some o)(y:H it=none)(hL:it≠X.env.locals)
 (j:it∈X.ex\/X.s₀.heap.objs.size<=it) (i:∀x c,X.env.cells.lookup x=some c->c≠it) (l:∀p∈X.pn++pins,p.1≠it):af X pins σ H { s with heap:=h',toks:=t' }:=by
 have d:∀b u,H b=some u->b≠it:=λb u e z=>by rw[z,y]at e;cases e
 refine I.step (g':=s.gens) (d':=s.drawn) (ch:=[it]) (λb hb=>?_) (λb o _ _ a e _=>k b o (λz=>a (by simp[z])) e) (λb o _ _ a e _=>⟨o.slots,k b o (λz=>a (by simp[z])) e⟩) (λ_ _ _ _ n=>n)
  (λb o a e=>⟨o,k b o (λz=>a (by simp[z])) e⟩) (λ_ _ e=>e) (λ_ _ _ e=>e) (λb ps e=>⟨#[],by rw[e];simp⟩) (λm hm=>?_) (λb u e=>?_) I.bare
 ·have e:b=it:=by simpa using hb
  subst e;exact⟨j,hL,i,l⟩
 ·obtain⟨o,f,g,h,r⟩:=hm;exact⟨o,f,g,k _ o (Ne.symm hL) h,r⟩
 ·refine (I.hok b u e).stay (λc v a q=>k c v ?_ q) (λ_ q=>q) λ_ _ q=>q;rcases a with z|z
  ·rw[z];exact d b u e
  ·exact d c _ z
def af.tok(I:af X pins σ H s)(t:Nat):af X pins σ H { s with toks:=t }:=I.un (h':=s.heap) (t':=t) Un.refl I.hok
def af.kept{t':Nat}(I:af X pins σ H s)(k:∀b u,s.heap.get? b=some u->h'.get? b=some u):af X pins σ H { s with heap:=h',toks:=t' }:=I.un (Un.kept k) (I.hok.kept k)
def af.laid{a:Addr}{o:HO}{t':Nat}(I:af X pins σ H s)(k:∀b u,s.heap.get? b=some u->h'.get? b=some u)(c:s.heap.objs.size<=a)(new:bw X.prog X.w (upd H a o) h' a o) :
 af X pins σ (upd H a o) { s with heap:=h',toks:=t' }:=I.un (Un.laid k c (I.hok.fresh c)) (I.hok.laid k c new)
def af.write{x e:Addr}{o:HO}{t':Nat}(I:af X pins σ H s)(c:nX (H x))(d:e=x\/H e=some (.own x))(k:∀b u,b≠e->s.heap.get? b=some u->h'.get? b=some u)(a:∃u,h'.get? e=some u)
 (new:bw X.prog X.w (upd H x o) h' x o):af X pins σ (upd H x o) { s with heap:=h',toks:=t' }:=I.un (Un.write c d k a) (I.hok.write c d k a new)
def af.pins_of{a:List (Addr × Obj)}(I:af X pins σ H s)(h:∀p∈a,s.heap.get? p.1=some p.2/\H p.1=none/\p.1≠X.env.locals/\p.1∉X.fs/\∀v,p.2.data ≠ .cell v):af X a σ H s :=
 ⟨I.ok,I.os,I.bare,I.base,I.loc,I.cell,I.free,I.freeC,λp b=>(Wi.mp b).elim (λz=>I.pin p (WQ _ z)) (h p),I.hok,I.len⟩
def Cs{N:List Str}(hN:N.Nodup){i j:Nat}{x:Str}(a:N[i]? = some x)(b:N[j]? = some x):i=j:=by
 obtain⟨f,c⟩:=V8.mp a;obtain⟨e,d⟩:=V8.mp b;exact (List.getElem_inj hN).mp (c.trans d.symm)
def A1{M:Model}{A:Around}{E:Value->h6->Prop}{i:Nat}{x:Str}{v:V}{u:Value}{Q:Unit->h6->Prop}(I:af X pins σ H s)(hN:X.N.Nodup)(R:X.N[i]? = some x)(hx:iF X.env.scope x)(r:aN v u)
 (h:∀s',af X pins (σ.set i (some v)) H s'->(∃a,Heap.SameBut a s.heap s'.heap/\(a=X.env.locals\/X.env.cells.lookup x=some a))->Q () s') (hf:X.fn x=true\/X.env.scope.names.lookup x=some .local:=by first|exact .inl rfl|exact .inr rfl|assumption):wpAny M A (storeName X.env x u) Q E s:=by
 obtain⟨m,hn,hl⟩:=id I.loc;have O:(X.env.scope.kind == .class || (X.env.scope.kind == .module && X.env.locals != X.env.globals))=false:=by rw[I.ok.kind];rfl
 have L:i<σ.length:=by rw[I.len];exact (V8.mp R).1
 have cne:=I.cne;have f:∀ {a:Addr} {h':Heap},(∃o,s.heap.get? a=some o/\H a=none)->Heap.SameBut a s.heap h'->bz X.prog X.w H h':=λ{a h'} ha hs b ob e=>by
  obtain⟨_,_,B⟩:=ha;refine (I.hok b ob e).stay (λc S l q=>(hs.2 c ?_).trans q) (λ_ q=>q) λ_ _ q=>q;rintro rfl;rcases l with rfl|l
  ·rw[B]at e;cases e
  ·rw[B]at l;cases l
 rcases hx with hk|hk
 ·refine wpAny_storeName_local hk hn (λh' W hs=>?_) O;obtain⟨oL,_,_,hoL,_⟩:=id hn;refine h _ ⟨I.ok,I.os,I.bare,⟨λb o e n hb hx=>?_,λb o e n hb hx=>?_,I.base.free,λb o e hx=>?_,I.base.tups,I.base.frzs,I.base.tbls⟩,⟨_,W,λj y v' g C e3=>?_⟩,λy c e=>?_,I.free,I.freeC,λp hp=>?_,f ⟨oL,hoL,I.free⟩ hs,by simpa using I.len⟩ ⟨_,hs,.inl rfl⟩
  ·exact (hs.2 b (Wc (V6 (V7 e) I.ok.above))).trans (I.base.keep b o e n hb hx)
  ·obtain⟨sl,g⟩:=I.base.slot b o e n hb hx;exact⟨sl,(hs.2 b (Wc (V6 (V7 e) I.ok.above))).trans g⟩
  ·obtain⟨Y,g⟩:=I.base.there b o e hx;exact⟨Y,(hs.2 b (Wc (V6 (V7 e) I.ok.above))).trans g⟩
  ·by_cases hj:j=i
   ·subst hj;rw[R]at g;cases g;rw[Yc L]at C;cases C;exact⟨u,r,.inl ⟨hk,by simp⟩⟩
   ·rw[Yd (Ne.symm hj)]at C;obtain⟨u',r',q⟩:=hl j y v' g C e3;refine⟨u',r',?_⟩;rcases q with ⟨k,e⟩|⟨k,c,e,z⟩
    ·refine .inl ⟨k,?_⟩;have:y≠x:=λe=>hj (Cs hN g (e ▸ R));simp[this,e]
    ·exact .inr ⟨k,c,e,z.sameBut hs (cne y c e)⟩
  ·obtain⟨S,z⟩:=I.cell y c e;exact⟨S,z.sameBut hs (cne y c e)⟩
  ·obtain⟨e,n,ne,nf,d⟩:=I.pin p hp;exact⟨(hs.2 p.1 ne).trans e,n,ne,nf,d⟩
 ·have D:X.fn x=true:=by
   rcases hf with z|z
   ·exact z
   ·rw[z]at hk;cases hk
  obtain⟨c,l⟩:=I.ok.has x (.inl hk);obtain⟨S,z⟩:=I.cell x c l;refine wpAny_storeName_cell I.ok.kind hk l z (λh' J hs=>?_);obtain⟨oc,F,G⟩:=id z;refine h { s with heap:=h' } ⟨I.ok,I.os,I.bare,⟨λb o e n hb hx=>?_,λb o e n hb hx=>?_,I.base.free,λb o e hx=>?_,I.base.tups,I.base.frzs,I.base.tbls⟩,⟨m,hn.sameBut hs (Ne.symm (cne x c l)),λj y v' g C e3=>?_⟩,λy U e=>?_,I.free,I.freeC,λp hp=>?_,f ⟨oc,F,I.freeC x c l⟩ hs,by simpa using I.len⟩ ⟨c,hs,.inr l⟩
  ·exact (hs.2 b (Wc (V6 (V7 e) (I.ok.cab x c D l)))).trans (I.base.keep b o e n hb hx)
  ·obtain⟨sl,g⟩:=I.base.slot b o e n hb hx;exact⟨sl,(hs.2 b (Wc (V6 (V7 e) (I.ok.cab x c D l)))).trans g⟩
  ·obtain⟨Y,g⟩:=I.base.there b o e hx;exact⟨Y,(hs.2 b (Wc (V6 (V7 e) (I.ok.cab x c D l)))).trans g⟩
  ·by_cases hj:j=i
   ·subst hj;rw[R]at g;cases g;rw[Yc L]at C;cases C;exact⟨u,r,.inr ⟨.inl hk,c,l,J⟩⟩
   ·rw[Yd (Ne.symm hj)]at C;obtain⟨u',r',q⟩:=hl j y v' g C e3;refine⟨u',r',?_⟩;rcases q with q|⟨k,U,e,z'⟩
    ·exact .inl q
    ·refine .inr ⟨k,U,e,z'.sameBut hs ?_⟩;rintro rfl;exact hj (Cs hN g (I.ok.inj _ _ _ e l ▸ R))
  ·by_cases hcc:U=c
   ·subst hcc;exact⟨_,J⟩
   ·obtain⟨w2,z2⟩:=I.cell y U e;exact⟨w2,z2.sameBut hs hcc⟩
  ·obtain⟨e,n,ne,nf,d⟩:=I.pin p hp;refine⟨(hs.2 p.1 ?_).trans e,n,ne,nf,d⟩;intro q;rw[q,F]at e;have q':oc=p.2:=Wt e;exact d S (by rw[<- q'];exact G)
def A2{M:Model}{A:Around}{E:Value->h6->Prop}{i:Nat}{x:Str}{v:V}{u:Value}{Q:Unit->h6->Prop}(I:af X pins σ H s)(hN:X.N.Nodup)(b:X.N[i]? = some x)(hx:iF X.env.scope x)(r:aN v u)
 (h:∀a,af X pins (σ.set i (some v)) H a->Q () a) (c:X.fn x=true\/X.env.scope.names.lookup x=some .local:=by first|exact .inl rfl|exact .inr rfl|assumption):wpAny M A (storeName X.env x u) Q E s :=
 A1 I hN b hx r (λa d _=>h a d) c
def af.call'{a:h6}{ch:List Addr}(I:af X pins σ H s)(g:a.os=s.os)(u:Un (cw X.stack) ch H H' s.heap a.heap)(hok:bz X.prog X.w H' a.heap)(h:AllBare a.gens)
 (d:∀b∈ch,(b∈X.ex\/X.s₀.heap.objs.size<=b)/\b≠X.env.locals/\(∀x c,X.env.cells.lookup x=some c->c≠b)/\∀p∈X.pn++pins,p.1≠b):af X pins σ H' a:=by
 obtain⟨h',g',d',t',f⟩:=a;have e:f=s.os:=g;subst e;exact I.call (g':=g') (t':=t') (d':=d') u hok h d
end
abbrev XK:=Value->Option Addr->Hp->Prop
abbrev St:=List (Option V)
abbrev VK:=V->Hp->Prop
abbrev TE:=St->Hp->VK->Prop
abbrev TT:=St->Hp->(Bool->Hp->Prop)->Prop
abbrev TA:=St->Hp->(List V->Hp->Prop)->Prop
structure fX where
 nx:St->Hp->Prop
 rt:VK
 bk:St->Hp->Prop:=λ_ _=>False
 ct:St->Hp->Prop:=λ_ _=>False
abbrev TS:=fX->St->Hp->Prop
def EP(X:Cx)(a:List (Addr × Obj))(σ:St)(Q:VK)(u:Value)(b:h6):Prop:=∃v H',af X a σ H' b/\aN v u/\Q v H'
def TP(X:Cx)(a:List (Addr × Obj))(σ:St)(Q:Bool->Hp->Prop)(b:Bool)(c:h6):Prop:=∃H',af X a σ H' c/\Q b H'
def AP(X:Cx)(a:List (Addr × Obj))(σ:St)(Q:List V->Hp->Prop)(us:List Value)(b:h6):Prop:=∃vs H',af X a σ H' b/\aA vs us/\Q vs H'
def SP(X:Cx)(a:List (Addr × Obj))(D:fX)(f:Flow)(b:h6):Prop :=
 match f with
 | .next=>∃σ' H',af X a σ' H' b/\D.nx σ' H'
 | .brk=>∃σ' H',af X a σ' H' b/\D.bk σ' H'
 | .cont=>∃σ' H',af X a σ' H' b/\D.ct σ' H'
 | .ret u=>∃v σ' H',af X a σ' H' b/\aN v u/\D.rt v H'
def PE(X:Cx)(e:Expr)(t:TE):Prop :=
 ∀(a:List (Addr × Obj)) (s:h6) (σ:St) (H:Hp) (Q:VK),af X a σ H s->t σ H Q->wpAny (model X.prog X.w) X.A (eval e X.env) (EP X a σ Q) X.xe s
def PT(X:Cx)(e:Expr)(t:TT):Prop :=
 ∀(a:List (Addr × Obj)) (s:h6) (σ:St) (H:Hp) (Q:Bool->Hp->Prop),af X a σ H s->t σ H Q->wpAny (model X.prog X.w) X.A (isTrue e X.env (eval e X.env)) (TP X a σ Q) X.xe s
def PW(X:Cx)(e:Expr)(t:TT):Prop :=
 ∀(b:Sem Value) (a:List (Addr × Obj)) (s:h6) (σ:St) (H:Hp) (Q:Bool->Hp->Prop),af X a σ H s->t σ H Q->wpAny (model X.prog X.w) X.A (isTrue e X.env b) (TP X a σ Q) X.xe s
def PW.pt{X:Cx}{e:Expr}{t:TT}(h:PW X e t):PT X e t:=h _
def PA(X:Cx)(b:List Expr)(t:TA):Prop :=
 ∀(pos:Pos) (a:List (Addr × Obj)) (s:h6) (σ:St) (H:Hp) (Q:List V->Hp->Prop),af X a σ H s->t σ H Q->wpAny (model X.prog X.w) X.A (spliced (backTo pos (starEach b X.env))) (AP X a σ Q) X.xe s
def PS(X:Cx)(st:Stmt)(t:TS):Prop :=
 ∀(a:List (Addr × Obj)) (s:h6) (σ:St) (H:Hp) (D:fX),af X a σ H s->t D σ H->wpAny (model X.prog X.w) X.A (exec st X.env) (SP X a D) X.xe s
def eg(X:Cx)(st:List Stmt)(t:TS):Prop :=
 ∀(a:List (Addr × Obj)) (s:h6) (σ:St) (H:Hp) (D:fX),af X a σ H s->t D σ H->wpAny (model X.prog X.w) X.A (execs st X.env) (SP X a D) X.xe s
def av{α:Type}{t:Sem α}{Q b:α->h6->Prop}{M:Model}{A:Around}{E:Value->h6->Prop}{s:h6}(h:wpAny M A t Q E s)(hQ:∀a s,Q a s->b a s):wpAny M A t b E s:=wpAny_mono h hQ λ_ _ x=>x
section
variable {X:Cx}
def GX(i:Nat):TE:=λσ H Q=>∃v,σ[i]? = some (some v)/\Q v H
def tC(v:V):TE:=λ_ H Q=>Q v H
def Ll {i:Nat} {x:Str} {pos:Pos} (hN:X.N[i]? = some x) (f:sE X.env.scope x) (hd:(x == ("__debug__" : Str))=false:=by decide) (d:(x == ("__classdict__" : Str))=false:=by decide):PE X (.Name x pos) (GX i):=by
 intro b s σ H Q I h;obtain⟨v,e,h⟩:=h;obtain⟨m,g,hl⟩:=I.loc;obtain⟨u,r,l⟩:=hl i x v hN e f;have a:EP X b σ Q u s:=⟨v,H,I,r,h⟩;rcases l with ⟨hk,hm⟩|⟨hk,c,hc,hcell⟩
 ·exact wpAny_Name (wpAny_loadName_local I.ok.kind hk g hm a) hd
 ·rcases hk with hk|hk
  ·exact wpAny_Name (wpAny_loadName_cell I.ok.kind hk hc hcell a) hd
  ·exact wpAny_Name (wpAny_loadName_free I.ok.kind hk hc hcell a d) hd
def mC{i j pos}:PE X (.Constant (.int i) j pos) (tC (.int i)):=λ_ _ _ H _ I h=>wpAny_Constant_int ⟨.int i,H,I.tok _,⟨_,rfl⟩,h⟩
def Ce{b j pos}:PE X (.Constant (.bool b) j pos) (tC (.bl b)):=λ_ _ _ H _ I h=>Constant_bool ⟨.bl b,H,I,rfl,h⟩
def Cb{j pos}:PE X (.Constant .none j pos) (tC .non):=λ_ _ _ H _ I h=>Constant_none ⟨.non,H,I,rfl,h⟩
def Ca{x j pos}:PE X (.Constant (.str x) j pos) (tC (.str x)):=λ_ _ _ H _ I h=>Calls.Constant_str ⟨.str x,H,I.tok _,⟨_,rfl⟩,h⟩
def Gl(X:Cx)(x:Str):Prop:=X.env.kindOf x=some .globalImplicit
def hG{E:Value->h6->Prop}{a:List (Addr × Obj)}{s:h6}{σ:St}{H:Hp}{x:Str}{u:Value}{pos:Pos}{Q:Value->h6->Prop}(I:af X a σ H s)(b:Gl X x)(hm:X.mg x=some u)(h:Q u s)
 (hd:(x == ("__debug__" : Str))=false:=by decide):wpAny (model X.prog X.w) X.A (eval (.Name x pos) X.env) Q E s :=
 Calls.Name_function_global I.ok.kind b (Calls.loadGlobal_global (by rw[I.ok.glob];exact I.mod.glob.keeps I.bk) hm h) hd
def gk{E:Value->h6->Prop}{a:List (Addr × Obj)}{s:h6}{σ:St}{H:Hp}{x:Str}{u:Value}{pos:Pos}{Q:Value->h6->Prop}(I:af X a σ H s)(c:Gl X x)(hm:X.mg x=none)(b:bootBuiltins x=some u)(h:Q u s)
 (f:x ≠ "__name__":=by decide) (hd:(x == ("__debug__" : Str))=false:=by decide):wpAny (model X.prog X.w) X.A (eval (.Name x pos) X.env) Q E s:=by
 obtain⟨g,e,d⟩:=I.mod.blt;exact Calls.Name_function_global I.ok.kind c (Calls.loadGlobal_builtin (by rw[I.ok.glob];exact I.mod.glob.keeps I.bk) hm (by rw[I.ok.blt];exact e.keeps I.bk) ((d x f).trans b) h) hd
def Cd {x:Str} {v:V} {u:Value} {pos:Pos} (a:Gl X x) (hm:X.mg x=some u) (r:aN v u) (hd:(x == ("__debug__" : Str))=false:=by decide):PE X (.Name x pos) (tC v) :=
 λ_ _ _ H _ I h=>hG I a hm ⟨v,H,I,r,h⟩ hd
def LK {x:Str} {v:V} {u:Value} {pos:Pos} (a:Gl X x) (hm:X.mg x=none) (b:bootBuiltins x=some u) (r:aN v u) (c:x ≠ "__name__":=by decide) (hd:(x == ("__debug__" : Str))=false:=by decide):PE X (.Name x pos) (tC v) :=
 λ_ _ _ H _ I h=>gk I a hm b ⟨v,H,I,r,h⟩ c hd
variable {a b:Expr}{ta tb:TE}{pos:Pos}
variable {tA tB':TT}{bB:List Expr}
def AZ(t u:TT):TT:=λσ H Q=>t σ H λc a=>if c=true then u σ a Q else Q false a
def tD(t u:TT):TT:=λσ H Q=>t σ H λc a=>if c=true then Q true a else u σ a Q
def AI(t:TT):TT:=λσ H Q=>t σ H λc a=>Q (!c) a
def KC(d:PT X a tA):PW X (.BoolOp .And [a] pos) tA:=by
 intro f b s σ H Q I h;refine isTrue_and (av (d b s σ H Q I h) λc s1 e=>?_);cases c with
 | true=>exact isTrue_and_nil e
 | false=>exact e
def KA(d:PT X a tA):PW X (.BoolOp .Or [a] pos) tA:=by
 intro f b s σ H Q I h;refine isTrue_or (av (d b s σ H Q I h) λc s1 e=>?_);cases c with
 | false=>exact isTrue_or_nil e
 | true=>exact e
def KD(i:PT X a tA)(hb:PW X (.BoolOp .And (b::bB) pos) tB'):PW X (.BoolOp .And (a::b::bB) pos) (AZ tA tB'):=by
 intro j d s σ H Q I h;refine isTrue_and (av (i d s σ H _ I h) λc s1 ⟨g,e,f⟩=>?_);cases c with
 | true=>exact hb j d s1 σ g Q e f
 | false=>exact⟨g,e,f⟩
def KB(i:PT X a tA)(hb:PW X (.BoolOp .Or (b::bB) pos) tB'):PW X (.BoolOp .Or (a::b::bB) pos) (tD tA tB'):=by
 intro j d s σ H Q I h;refine isTrue_or (av (i d s σ H _ I h) λc s1 ⟨g,e,f⟩=>?_);cases c with
 | true=>exact⟨g,e,f⟩
 | false=>exact hb j d s1 σ g Q e f
def KH(d:PT X a tA):PT X (.UnaryOp .Not a pos) (AI tA):=by
 intro b s σ H Q I h;exact isTrue_not (d b s σ H (λc e=>Q (!c) e) I h)
def Lp{op}{t:TE}(h:PE X a t):PE X (.BoolOp op [a] pos) t:=λb s σ H Q I hw=>BoolOp_one (h b s σ H Q I hw)
def AO(t:TT)(b tb:TE):TE:=λσ H Q=>t σ H λc a=>if c=true then b σ a Q else tb σ a Q
def Lu{c:Expr}(k:PT X c tA)(j:PE X a ta)(hb:PE X b tb):PE X (.IfExp c a b pos) (AO tA ta tb):=by
 intro e s σ H Q I h;refine wpAny_IfExp (av (k e s σ H _ I h) λd s1 ⟨i,f,g⟩=>?_);cases d with
 | true=>exact j e s1 σ i Q f g
 | false=>exact hb e s1 σ i Q f g
end
def aI(K:W.Frag)(H:Hp)(a:Addr)(xs:List V):Prop :=
 Rd H a (.lst xs) \/
  ∃(o:Obj) (b:Array Value) (n:Nat),K.lookup a=some o/\o.cls=.type "list"/\o.dict=none/\o.data=.seq b n/\b.size<=sizeLine/\aA xs b.toList
def be(K:W.Frag)(H:Hp)(a:Addr)(xs:List V):Prop :=
 Rd H a (.tup xs) \/
  ∃(o:Obj) (b:Array Value) (n:Nat),K.lookup a=some o/\o.cls=.type "tuple"/\o.data=.seq b n/\b.size<=sizeLine/\aA xs b.toList
def Ub:Value->Option V
 | .none=>some .non
 | .bool b=>some (.bl b)
 | .int i _=>some (.int i)
 | .str x _=>some (.str x)
 | .bytes b _=>some (.byt b)
 | .float b _=>some (.flt b)
 | .ref a=>some (.ref a)
 | .type n=>some (.ty n)
 | _=>none
def aN.abs{x:V}{u:Value}(r:aN x u):Ub u=some x:=by
 cases x with
 | non=>cases r;rfl
 | bl _=>cases r;rfl
 | int _=>obtain⟨t,rfl⟩:=r;rfl
 | str _=>obtain⟨t,rfl⟩:=r;rfl
 | byt _=>obtain⟨t,rfl⟩:=r;rfl
 | flt _=>obtain⟨t,rfl⟩:=r;rfl
 | ref _=>cases r;rfl
 | ty _=>cases r;rfl
def aN.inj{x y:V}{u:Value}(r:aN x u)(q:aN y u):x=y:=Wt (r.abs.symm.trans q.abs)
theorem aA.inj:∀ {xs a:List V} {us:List Value},aA xs us->aA a us->xs=a
 | _,_,_,.nil,.nil=>rfl
 | _,_,_,.cons r t,.cons r' t'=>by rw[r.inj r',aA.inj t t']
section
variable {X:Cx}{pins:List (Addr × Obj)}{σ:St}{H:Hp}{s:h6}{a:Addr}{xs ys:List V}
def aI.of{K:W.Frag}(h:H a=some (.lst xs)):aI K H a xs:=.inl (.inl h)
def be.of{K:W.Frag}(h:H a=some (.tup xs)):be K H a xs:=.inl (.inl h)
def af.list(I:af X pins σ H s)(h:aI X.K H a xs):∃b:List Value,aA xs b/\PlainL s.heap a b.toArray/\xs.length<=sizeLine:=by
 rcases h with h|⟨o,b,n,hk,hc,hd,hs,hz,r⟩
 ·obtain⟨z,b,n,r,e⟩:=h.ok I.hok;exact⟨b,r,⟨_,n,e,Z,Z,Z⟩,z⟩
 ·refine⟨b.toList,r,⟨o,n,I.kIn a o hk,hc,hd,by simpa using hs⟩,?_⟩;have e:=r.length;simp only [Xz]at e;omega
def af.tuple(I:af X pins σ H s)(h:be X.K H a xs):∃b:List Value,aA xs b/\IsTup s.heap a b.toArray/\xs.length<=sizeLine:=by
 rcases h with h|⟨o,b,n,hk,hc,hs,hz,r⟩
 ·obtain⟨z,b,r,p⟩:=h.ok I.hok;exact⟨b,r,p,z⟩
 ·refine⟨b.toList,r,⟨o,I.kIn a o hk,hc,n,by simpa using hs⟩,?_⟩;have e:=r.length;simp only [Xz]at e;omega
def af.list_inj(I:af X pins σ H s)(h:aI X.K H a xs)(h':aI X.K H a ys):xs=ys:=by
 obtain⟨b,r,⟨o,n,e,_,_,d⟩,_⟩:=I.list h;obtain⟨its',c,⟨g,f,e',_,_,d'⟩,_⟩:=I.list h';rw[e]at e';cases e';rw[d]at d'
 injection d' with d1 _
 have:b=its':=by simpa using congrArg Array.toList d1
 subst this;exact r.inj c
def af.tuple_inj(I:af X pins σ H s)(h:be X.K H a xs)(h':be X.K H a ys):xs=ys:=by
 obtain⟨b,r,⟨o,e,_,n,d⟩,_⟩:=I.tuple h;obtain⟨its',c,⟨g,e',_,f,d'⟩,_⟩:=I.tuple h';rw[e]at e';cases e';rw[d]at d'
 injection d' with d1 _
 have:b=its':=by simpa using congrArg Array.toList d1
 subst this;exact r.inj c
end
abbrev Cx.wish(X:Cx)(E:Value->h6->Prop):Cx:={ X with xe:=E }
abbrev Cx.nox(X:Cx):Cx:=X.wish λ_ _=>False
def Cx.Ok.wish{X:Cx}(ok:X.Ok)(E:Value->h6->Prop):(X.wish E).Ok :=
 ⟨ok.mod,ok.kind,ok.glob,ok.blt,ok.above,ok.inj,ok.has,ok.cab,ok.hd,ok.frames,ok.stk,ok.exf,ok.bs,ok.bsz,ok.noex,ok.exfs,ok.funs,ok.frf⟩
def Cx.Ok.unwish{X:Cx}{E:Value->h6->Prop}(ok:(X.wish E).Ok):X.Ok :=
 ⟨ok.mod,ok.kind,ok.glob,ok.blt,ok.above,ok.inj,ok.has,ok.cab,ok.hd,ok.frames,ok.stk,ok.exf,ok.bs,ok.bsz,ok.noex,ok.exfs,ok.funs,ok.frf⟩
section
variable {X:Cx}{pins:List (Addr × Obj)}{σ:St}{H:Hp}{s:h6}{E:Value->h6->Prop}
def af.wish(I:af X pins σ H s)(E:Value->h6->Prop):af (X.wish E) pins σ H s:=⟨I.ok.wish E,I.os,I.bare,I.base,I.loc,I.cell,I.free,I.freeC,I.pin,I.hok,I.len⟩
def af.unwish(I:af (X.wish E) pins σ H s):af X pins σ H s:=⟨I.ok.unwish,I.os,I.bare,I.base,I.loc,I.cell,I.free,I.freeC,I.pin,I.hok,I.len⟩
def SP.unwish{D:fX}{f:Flow}{c:h6}(h:SP (X.wish E) pins D f c):SP X pins D f c:=by
 cases f with
 | next=>obtain⟨a,b,I,q⟩:=h;exact⟨a,b,I.unwish,q⟩
 | brk=>obtain⟨a,b,I,q⟩:=h;exact⟨a,b,I.unwish,q⟩
 | cont=>obtain⟨a,b,I,q⟩:=h;exact⟨a,b,I.unwish,q⟩
 | ret u=>obtain⟨v,a,b,I,r,q⟩:=h;exact⟨v,a,b,I.unwish,r,q⟩
def eg.nox{st:List Stmt}{t:TS}(h:eg X.nox st t):eg X st t:=λa s σ H D I hw =>
 wpAny_mono (h a s σ H D (I.wish _) hw) (λ_ _ q=>q.unwish) λ_ _ z=>False.elim z
end
section
variable {X:Cx}{st:Stmt}{bB:List Stmt}{t u:TS}{e:Expr}{te:TE}{pos:Pos}
def AK:TS:=λD σ H=>D.nx σ H
def tB(t u:TS):TS:=λD σ H=>t { D with nx:=u D } σ H
def KJ:eg X [] AK:=λ_ _ σ H _ I h=>wpAny_execs_nil ⟨σ,H,I,h⟩
def KK(e:PS X st t)(d:eg X bB u):eg X (st::bB) (tB t u):=by
 intro a s σ H D I h;refine wpAny_execs_cons (av (e a s σ H { D with nx:=u D } I h) λf s1 q=>?_);cases f with
 | next =>
  obtain⟨c,b,g,q⟩:=q;exact d a s1 c b D g q
 | ret v=>exact q
 | brk=>exact q
 | cont=>exact q
def KI(b:PS X st t):eg X [st] t:=by
 intro a s σ H D I h;refine wpAny_execs_cons (av (b a s σ H D I h) λf s1 q=>?_);cases f with
 | next=>exact wpAny_execs_nil q
 | ret v=>exact q
 | brk=>exact q
 | cont=>exact q
def AX:TS:=λD σ H=>D.bk σ H
def KY:PS X (.Break pos) AX:=λ_ _ σ H _ I h=>wpAny_Break ⟨σ,H,I,h⟩
def af.quiet{a:List (Addr × Obj)}{σ:St}{H:Hp}{s:h6}(I:af X a σ H s):interactive X.env=false:=by simp[interactive,I.ok.kind]
def AS(a:TE):TS:=λD σ H=>a σ H λ_ b=>D.nx σ b
def KU(d:PE X e te)(hs:swapsWith e none pos.line X.env=pure false:=by rfl):PS X (.Expr e pos) (AS te):=by
 intro a s σ H D I h;exact wpAny_Expr_any (av (d a s σ H _ I h) λv s1 ⟨x,f,b,g,c⟩=>⟨σ,f,b,c⟩) I.quiet hs
def AG(a:TE):TS:=λD σ H=>a σ H D.rt
def KN(f:PE X e te):PS X (.Return (some e) pos) (AG te):=by
 intro a s σ H D I h;exact wpAny_Return_some (av (f a s σ H _ I h) λv s1 ⟨x,g,c,b,d⟩=>⟨x,σ,g,c,b,d⟩)
def ma(c:TT)(t u:TS):TS:=λD σ H=>c σ H λb a=>if b=true then t D σ a else u D σ a
def KP{c:Expr}{a b:List Stmt}{g:TT}(l:PT X c g)(k:eg X a t)(hb:eg X b u):PS X (.If c a b pos) (ma g t u):=by
 intro e s σ H D I h;refine wpAny_If (av (l e s σ H _ I h) λd s1 ⟨j,f,i⟩=>?_);cases d with
 | true=>exact k e s1 σ j D f i
 | false=>exact hb e s1 σ j D f i
def AL:TS:=λ_ _ _=>False
def KO:PS X st AL:=λ_ _ _ _ _ _ h=>h.elim
end
abbrev TG:=V->St->Hp->(St->Hp->Prop)->Prop
abbrev gF:=List V->St->Hp->(St->Hp->Prop)->Prop
def PG(X:Cx)(a:Expr)(t:TG):Prop :=
 ∀(b:List (Addr × Obj)) (s:h6) (σ:St) (H:Hp) (v:V) (u:Value) (Q:St->Hp->Prop),af X b σ H s->aN v u->t v σ H Q ->
  wpAny (model X.prog X.w) X.A (assign a X.env u) (λ_ c=>∃σ' H',af X b σ' H' c/\Q σ' H') X.xe s
def nW(X:Cx)(ts:List Expr)(t:gF):Prop :=
 ∀(a:List (Addr × Obj)) (s:h6) (σ:St) (H:Hp) (vs:List V) (us:List Value) (Q:St->Hp->Prop),af X a σ H s->aA vs us->t vs σ H Q ->
  wpAny (model X.prog X.w) X.A (assignInOrder ((assignEach ts X.env).map (·.2)) us) (λ_ b=>∃σ' H',af X a σ' H' b/\Q σ' H') X.xe s
abbrev sH:=V->V->V->Hp->(Hp->Prop)->Prop
def Ag(X:Cx)(t:sH):Prop :=
 ∀(a:List (Addr × Obj)) (s:h6) (σ:St) (H:Hp) (o i v:V) (c b u:Value) (Q:Hp->Prop),af X a σ H s->aN o c->aN i b->aN v u->t o i v H Q ->
  wpAny (model X.prog X.w) X.A (setItem c b u) (λ_ d=>∃H',af X a σ H' d/\Q H') X.xe s
section
variable {X:Cx}{pos:Pos}
def cK(i:Nat):TG:=λv σ H Q=>Q (σ.set i (some v)) H
def Lk{i:Nat}{x:Str}(hN:X.N.Nodup)(b:X.N[i]? = some x)(hx:iF X.env.scope x)(c:X.fn x=true\/X.env.scope.names.lookup x=some .local:=by first|exact .inl rfl|exact .inr rfl|assumption):PG X (.Name x pos) (cK i):=by
 intro a s σ H v u Q I r h;exact wpAny_assign_Name (A2 I hN b hx r (λe d=>⟨_,H,d,h⟩) c)
def pX:gF:=λvs σ H Q=>vs=[]/\Q σ H
def lN(t:TG)(u:gF):gF:=λvs σ H Q=>∃v r,vs=v::r/\t v σ H λa b=>u r a b Q
def Lg:nW X [] pX:=by
 intro a s σ H vs us Q I r h;obtain⟨e,h⟩:=h;subst e;cases r;exact assignInOrder_nil ⟨σ,H,I,h⟩
def Lh{e:Expr}{b:List Expr}{t:TG}{u:gF}(i:PG X e t)(g:nW X b u)
 (hs:(assignEach (e::b) X.env).map (·.2)=assign e X.env::(assignEach b X.env).map (·.2):=by rfl):nW X (e::b) (lN t u):=by
 intro a s σ H vs us Q I r h;obtain⟨v,l,k,h⟩:=h;subst k;cases r with
 | cons r rr =>
  rw[hs];refine assignInOrder_cons (av (i a s σ H _ _ _ I r h) λ_ s1 ⟨d,j,c,f⟩=>?_);exact g a s1 d j _ _ Q c rr f
def mR(K:W.Frag)(n:Nat)(t:gF):TG:=λv σ H Q=>∃a xs,v=.ref a/\be K H a xs/\xs.length=n/\t xs σ H Q
def Li{d:List Expr}{k:Nat}{t:gF}{n:Nat}(j:X.calm=true)(h:nW X d t)
 (m:(assignEach d X.env).length=n:=by rfl) (hst:(assignEach d X.env).findIdx? (·.1)=none:=by rfl):PG X (.Tuple d k pos) (mR X.K n t):=by
 intro c s σ H v u Q I r hw;obtain⟨a,xs,p,l,hl,hw⟩:=hw;subst p;cases r;obtain⟨i,f,ht,hz⟩:=I.tuple l;refine assign_Tuple_tuple (I.ok.hd j) ht (by simp[m,<- hl,f.length]) hst λh' hx=>?_;have g:af X c σ H { s with heap:=h' }:=I.kept (t':=s.toks) λb o e=>hx b o (Wc (V7 e)) e;exact h c _ σ H xs _ Q g (by simpa using f) hw
def DV(to a:TE)(t:sH):TG:=λv σ H Q=>to σ H λo d=>a σ d λi c=>t o i v c λb=>Q σ b
def Lj{o i:Expr}{to d:TE}{t:sH}(m:PE X o to)(D:PE X i d)(hs:Ag X t)
 (e:∀v,assign (.Subscript o i pos) X.env v=(do
   let b <- holding [v] (eval o X.env)
   let c <- holding [v,b] (eval i X.env)
   standAt pos
   holding [v,b,c] (setItem b c v)
   release [v,b,c] []):=by intro _;rfl):PG X (.Subscript o i pos) (DV to d t):=by
 intro a s σ H v u Q I r h;rw[e];refine kb (wpAny_holding (av (m a s σ H _ I h) λb s1 ⟨x,p,f,q,B⟩=>?_));refine kb (wpAny_holding (av (D a s1 σ p _ f B) λc F ⟨y,z,n,C,k⟩=>?_));refine kb (wpAny_standAt (kb (wpAny_holding (av (hs a F σ z x y v b c u _ n q C r k) λ_ G ⟨j,g,l⟩=>?_))));exact wpAny_release ⟨σ,j,g,l⟩
def jp(a:TE)(g:TG):TS:=λD σ H=>a σ H λx b=>g x σ b D.nx
def KZ{tg e:Expr}{b:TE}{g:TG}(j:PE X e b)(f:PG X tg g)(hs:swapsWithSole [tg] e pos.line X.env=pure false:=by rfl)(hw:swappedStores [tg] e X.env=pure none:=by rfl)
 (k:(assignEach [tg] X.env).map (·.2)=[assign tg X.env]:=by rfl):PS X (.Assign [tg] e pos) (jp b g):=by
 intro a s σ H D I h;refine wpAny_Assign_stores (av (j a s σ H _ I h) λv s1 ⟨x,l,d,c,i⟩=>?_) hs hw;rw[k];exact av (f a s1 σ l x v _ d c i) λ_ m q=>q
def KM{i:Nat}{x:Str}{e:Expr}{c:TE}{a:Pos}(hN:X.N.Nodup)(g:X.N[i]? = some x)(hx:iF X.env.scope x)(l:PE X e c)(hs:swapsWith e (some (.Name x a)) pos.line X.env=pure false:=by rfl)(n:X.fn x=true\/X.env.scope.names.lookup x=some .local:=by first|exact .inl rfl|exact .inr rfl|assumption) :
 PS X (.Assign [.Name x a] e pos) (jp c (cK i)):=by
 intro b s σ H D I h;refine wpAny_Assign_Name (av (l b s σ H _ I h) λv s1 ⟨y,j,f,d,k⟩=>?_) hs;exact A2 f hN g hx d (λo m=>⟨_,j,m,k⟩) n
end
structure It where
 go:Nat->Hp->Prop
 yld:Nat->Hp->V->Hp->Prop
 stop:Nat->Hp->Prop
def eU(X:Cx)(a:List (Addr × Obj))(H:Hp)(b:Addr):Prop :=
 H b=none/\b≠X.env.locals/\b∉X.fs/\(b∈X.ex\/X.s₀.heap.objs.size<=b)/\(∀x c,X.env.cells.lookup x=some c->c≠b)/\∀p∈X.pn++a,p.1≠b
def af.fpOk{X:Cx}{a:List (Addr × Obj)}{σ:St}{H d:Hp}{s:h6}{b:Addr}(I:af X a σ H s)(hb:s.heap.objs.size<=b)(g:d b=none):eU X a d b:=by
 refine⟨g,Xi (V6 I.lt hb),I.nofs hb,.inr (Wq I.sz hb),λx c e z=>?_,λp f z=>?_⟩
 ·obtain⟨v,q⟩:=I.cell x c e;exact YC (V6 q.lt (by rw[z];exact hb)) (Wz _)
 ·exact YC (V6 (V7 (I.pin p f).1) (by rw[z];exact hb)) (Wz _)
structure je (P:Program) (w:World) (K:W.Frag) (tg:Expr) (J:It) (fp:List Addr) (it:Addr) (tn:Nat->Heap->Prop):Prop where
 mem:it∈fp
 obj:∀i h,tn i h->∀b∈fp,∃o,h.get? b=some o/\∀v,o.data ≠ .cell v
 keep:∀i h h',tn i h->(∀b∈fp,∀o,h.get? b=some o->h'.get? b=some o)->tn i h'
 item:∀(X:Cx),X.prog=P->X.w=w->X.K=K->X.calm=true->∀(i:Nat) (pins:List (Addr × Obj)) (s:h6) (σ:St) (H:Hp) (E:Value->h6->Prop),af X pins σ H s->(∀b∈fp,eU X pins H b)->tn i s.heap->J.go i H ->
  wpAny (model P w) X.A (pyNext (.ref it)) (λr s1=>∃u,r=some u /\
   wpAny (model P w) X.A (letOwnedTupleGo tg (.ref it) u) (λ_ s2=>∃x H',af X pins σ H' s2/\aN x u/\J.yld i H x H'/\tn (i+1) s2.heap/\∀b∈fp,H' b=none) E s1) E s
 done:∀(X:Cx),X.prog=P->X.w=w->X.K=K->X.calm=true->∀(i:Nat) (pins:List (Addr × Obj)) (s:h6) (σ:St) (H:Hp) (E:Value->h6->Prop),af X pins σ H s->(∀b∈fp,eU X pins H b)->tn i s.heap->J.stop i H ->
  wpAny (model P w) X.A (pyNext (.ref it)) (λr s1=>r=none/\af X pins σ H s1) E s
 self:∀(A:Around) (i:Nat) (s:h6) (Q:Value->h6->Prop) (E:Value->h6->Prop),tn i s.heap->Q (.ref it) s->wpAny (model P w) A (pyIter (.ref it)) Q E s
abbrev TI:=St->Hp->(It->Hp->Prop)->Prop
def E1(X:Cx)(a:List (Addr × Obj))(σ:St)(tg:Expr)(R:It->Hp->Prop)(c:Value)(e:h6):Prop :=
 ∃(it:Addr) (fp:List Addr) (tn:Nat->Heap->Prop) (J:It) (d:Hp),c=.ref it/\af X a σ d e/\je X.prog X.w X.K tg J fp it tn/\tn 0 e.heap/\(∀b∈fp,eU X a d b)/\R J d
def PI(X:Cx)(tg b:Expr)(c:TI):Prop :=
 ∀(a:List (Addr × Obj)) (s:h6) (σ:St) (H:Hp) (R:It->Hp->Prop),af X a σ H s->c σ H R ->
  wpAny (model X.prog X.w) X.A (eval b X.env) (λv s1=>wpAny (model X.prog X.w) X.A (pyIter v) (E1 X a σ tg R) X.xe s1) X.xe s
def pT{M:Model}{A:Around}{E:Value->h6->Prop}{s:h6}{tg:Expr}{it:Addr}{u:Value}{o:Obj}{n:String}{vs:Array Value}{Q:Unit->h6->Prop}(a:s.heap.get? it=some o)(b:o.cls=.type n)(hd:o.data=.fields vs)
 (c:["enumerate", "zip", "dict_itemiterator", "dict_reverseitemiterator", "odict_iterator", "itertools.zip_longest", "itertools.pairwise"].contains n=false) (hQ:Q () s):wpAny M A (letOwnedTupleGo tg (.ref it) u) Q E s:=by
 unfold letOwnedTupleGo;cases tg<;>first
  | exact on hQ
  | (cases u<;>first
      | exact on hQ
      | (refine kb (wpAny_load a ?_)
         rw[b,hd];show wpAny M A (if (["enumerate", "zip", "dict_itemiterator", "dict_reverseitemiterator", "odict_iterator", "itertools.zip_longest", "itertools.pairwise"].contains n && vs[0]? == some (rawInt _))=true then _ else _) Q E s;rw[YA (by intro h;rw[c,Bool.false_and]at h;cases h)];exact on hQ))
def ji(K:W.Frag)(a:Addr):It :=
 ⟨λi H=>∃xs x,aI K H a xs/\xs[i]? = some x,λi H x b=>b=H/\∀xs,aI K H a xs->xs[i]? = some x,λi H=>∃xs,aI K H a xs/\xs.length<=i⟩
def nY(K:W.Frag)(a:Addr):It :=
 ⟨λi H=>∃xs x,be K H a xs/\xs[i]? = some x,λi H x b=>b=H/\∀xs,be K H a xs->xs[i]? = some x,λi H=>∃xs,be K H a xs/\xs.length<=i⟩
def ig(lo:Int)(n:Nat):It:=⟨λi _=>i<n,λi H x a=>a=H/\x=.int (lo+i),λi _=>n<=i⟩
def GP{P:Program}{w:World}{K:W.Frag}{tg:Expr}(a it:Addr):je P w K tg (ji K a) [it] it (λi h=>h.IsListIter it a i) where
 mem:=by simp
 obj:=λi h st b hb=>by
  have e:b=it:=by simpa using hb
  subst e;obtain⟨o,e,c,d⟩:=st;exact⟨o,e,λv z=>by rw[d]at z;cases z⟩
 keep:=λi h h' st k=>st.at λo e=>k it (by simp) o e
 item:=by
  intro X hP hw hK F i f s σ H E I l st n;subst hP hw hK;obtain⟨xs,x,j,hx⟩:=n;obtain⟨D,q,p,hz⟩:=I.list j;obtain⟨u,L,O⟩:=q.get hx;obtain⟨r,y,M,B,m,C⟩:=l it (by simp);refine wpAny_pyNext_list_item st p.isList (x:=u) (by simpa using L) λh' g sb=>?_;have G:af X f σ H { s with heap:=h' }:=I.turned (t':=s.toks) (λb o hb e=>(sb.2 b hb).trans e) r y B m C;obtain⟨o,e,c,d⟩:=id g;exact⟨u,rfl,pT (s:={ s with heap:=h' }) e c d (by decide) ⟨x,H,G,O,⟨rfl,λR N=>by rw[I.list_inj N j];exact hx⟩,g,λb hb=>(l b hb).1⟩⟩
 done:=by
  intro X hP hw hK F i f s σ H E I l st n;subst hP hw hK;obtain⟨xs,j,hx⟩:=n;obtain⟨D,q,p,hz⟩:=I.list j;obtain⟨r,y,M,B,m,C⟩:=l it (by simp);have hl:=q.length;exact wpAny_pyNext_list_end (I.ok.hd F) st p.isList (by simp;omega) λh' J=>⟨rfl,I.turned (t':=s.toks) (λb o hb e=>J b o hb e) r y B m C⟩
 self:=λ_ _ _ _ _ st h=>wpAny_pyIter_listiter st h
def GM{P:Program}{w:World}{K:W.Frag}{tg:Expr}(a it:Addr):je P w K tg (nY K a) [it] it (λi h=>h.IsTupleIter it a i) where
 mem:=by simp
 obj:=λi h st b hb=>by
  have e:b=it:=by simpa using hb
  subst e;obtain⟨o,e,c,d⟩:=st;exact⟨o,e,λv z=>by rw[d]at z;cases z⟩
 keep:=λi h h' st k=>st.at λo e=>k it (by simp) o e
 item:=by
  intro X hP hw hK F i f s σ H E I m st q;subst hP hw hK;obtain⟨xs,x,l,hx⟩:=q;obtain⟨g,r,p,hz⟩:=I.tuple l;obtain⟨u,L,O⟩:=r.get hx;obtain⟨y,B,M,C,n,D⟩:=m it (by simp);refine wpAny_pyNext_tuple_item st (show s.heap.IsTuple a g.toArray from p) (x:=u) (by simpa using L) λh' j sb=>?_;have G:af X f σ H { s with heap:=h' }:=I.turned (t':=s.toks) (λb o hb e=>(sb.2 b hb).trans e) y B C n D;obtain⟨o,e,c,d⟩:=id j;exact⟨u,rfl,pT (s:={ s with heap:=h' }) e c d (by decide) ⟨x,H,G,O,⟨rfl,λR N=>by rw[I.tuple_inj N l];exact hx⟩,j,λb hb=>(m b hb).1⟩⟩
 done:=by
  intro X hP hw hK F i f s σ H E I m st q;subst hP hw hK;obtain⟨xs,l,hx⟩:=q;obtain⟨g,r,p,hz⟩:=I.tuple l;obtain⟨y,B,M,C,n,D⟩:=m it (by simp);have hl:=r.length;exact wpAny_pyNext_tuple_end (I.ok.hd F) st (show s.heap.IsTuple a g.toArray from p) (by simp;omega) λh' J=>⟨rfl,I.turned (t':=s.toks) (λb o hb e=>J b o hb e) y B C n D⟩
 self:=λ_ _ _ _ _ st h=>wpAny_pyIter_tupleiter st h
def GO{P:Program}{w:World}{K:W.Frag}{tg:Expr}(it:Addr)(lo:Int)(n:Nat):je P w K tg (ig lo n) [it] it (λi h=>IsRangeIter h it (lo+(i:Nat)*1) ((n:Int)-(i:Nat)) 1) where
 mem:=by simp
 obj:=λi h st b hb=>by
  have e:b=it:=by simpa using hb
  subst e;exact⟨_,st,λv z=>by
   have C:Data.fields _=Data.cell v:=z;cases C⟩
 keep:=λi h h' st k=>k it (by simp) _ st
 item:=by
  intro X hP hw hK l i a s σ H E I d st g;subst hP hw hK;obtain⟨j,m,x,p,f,q⟩:=d it (by simp);have W:=Walks.range (prog:=X.prog) (w:=X.w) (I.ok.hd l) it lo 1 n;refine W.item i s _ _ g st λv h' r D c y=>?_;obtain⟨t,rfl⟩:=D;have u:af X a σ H { s with heap:=h',toks:=r }:=I.turned (λb o hb e=>y b o (by simpa using hb) e) j m p f q;refine⟨_,rfl,pT (s:={ s with heap:=h',toks:=r }) (n := "range_iterator") c rfl rfl (by decide) ⟨.int (lo+i),H,u,⟨t,?_⟩,⟨rfl,rfl⟩,c,λb hb=>(d b hb).1⟩⟩;rw[Int.mul_one]
 done:=by
  intro X hP hw hK l i a s σ H E I d st g;subst hP hw hK;obtain⟨j,m,x,p,f,q⟩:=d it (by simp);exact wpAny_pyNext_range_end (I.ok.hd l) st (by have:n<=i:=g;omega) λh' B=>⟨rfl,I.turned (t':=s.toks) (λb o hb e=>B b o hb e) j m p f q⟩
 self:=λ_ _ _ _ _ st h=>wpAny_pyIter_rangeiter st h
section
variable {X:Cx}{tg:Expr}
def ux(K:W.Frag)(c:TE):TI:=λσ H R=>c σ H λx b=>∃a,x=.ref a/\(∃xs,aI K b a xs)/\R (ji K a) b
def uw(K:W.Frag)(c:TE):TI:=λσ H R=>c σ H λx b=>∃a,x=.ref a/\(∃xs,be K b a xs)/\R (nY K a) b
def Le{l:Expr}{f:TE}(hl:PE X l f):PI X tg l (ux X.K f):=by
 intro c s σ H R I h;refine av (hl c s σ H _ I h) λv s1 ⟨x,m,d,g,j⟩=>?_;obtain⟨a,e,⟨xs,k⟩,q⟩:=j;subst e;cases g;obtain⟨i,n,p,hz⟩:=d.list k;refine wpAny_pyIter_list p.isList ?_;refine⟨s1.heap.objs.size,[s1.heap.objs.size],_,_,m,Z,d.kept (t':=s1.toks) λb o e=>V9 _ e,GP a _,⟨_,Ws _ Z,Z,Z⟩,λb hb=>?_,q⟩;have e:b=s1.heap.objs.size:=by simpa using hb
 subst e;exact d.fpOk (V5 _) (d.hok.fresh (V5 _))
def La{l:Expr}{g:TE}(hl:PE X l g):PI X tg l (uw X.K g):=by
 intro c s σ H R I h;refine av (hl c s σ H _ I h) λv s1 ⟨x,m,d,i,j⟩=>?_;obtain⟨a,e,⟨xs,k⟩,q⟩:=j;subst e;cases i;obtain⟨f,n,p,hz⟩:=d.tuple k;refine wpAny_pyIter_tuple (show s1.heap.IsTuple a f.toArray from p) ?_;refine⟨s1.heap.objs.size,[s1.heap.objs.size],_,_,m,Z,d.kept (t':=s1.toks) λb o e=>V9 _ e,GM a _,⟨_,Ws _ Z,Z,Z⟩,λb hb=>?_,q⟩;have e:b=s1.heap.objs.size:=by simpa using hb
 subst e;exact d.fpOk (V5 _) (d.hok.fresh (V5 _))
def BS{c:List (Addr × Obj)}{σ:St}{H:Hp}{s:h6}{R:It->Hp->Prop}{E:Value->h6->Prop}{lo a:Int}{t u v:Tok}{f:Nat}(I:af X c σ H s)(j : -(2 ^ 62)<=lo)(i:lo<2 ^ 62)(k : -(2 ^ 62)<=a)(g:a<2 ^ 62)
 (q:R (ig lo (a-lo).toNat) H):wpAny (model X.prog X.w) X.A (pyIter (.ref s.heap.objs.size)) (E1 X c σ tg R) E { s with heap:=s.heap.push { cls:=.type "range",data:=.fields #[.int lo t,.int a u,.int 1 v] },toks:=f }:=by
 refine wpAny_pyIter_range (IsRange.new ..) (small_one j i k g) ?_;have d:af X c σ H { s with heap:=s.heap.push { cls:=.type "range",data:=.fields #[.int lo t,.int a u,.int 1 v] },toks:=f }:=I.kept λb o e=>V9 _ e;refine⟨(s.heap.push { cls:=.type "range",data:=.fields #[.int lo t,.int a u,.int 1 v] }).objs.size,[(s.heap.push { cls:=.type "range",data:=.fields #[.int lo t,.int a u,.int 1 v] }).objs.size],_,_,H,Z,
  d.kept (t':=f) λb o e=>V9 _ e,GO _ lo (a-lo).toNat,?_,λb hb=>?_,q⟩
 ·have l:lo+((0:Nat):Int)*1=lo:=by simp
  have h:(((a-lo).toNat:Nat):Int)-((0:Nat):Int)=Builtin.Range.rangeSize lo a 1:=by rw[rangeSize_one];split<;>omega
  show IsRangeIter _ _ (lo+((0:Nat):Int)*1) ((((a-lo).toNat:Nat):Int)-((0:Nat):Int)) 1;rw[l,h];exact Ws _ Z
 ·have e:b=(s.heap.push { cls:=.type "range",data:=.fields #[.int lo t,.int a u,.int 1 v] }).objs.size:=by simpa using hb
  subst e;exact d.fpOk (V5 _) (d.hok.fresh (V5 _))
def Dk(a:TA):TI:=λσ H R=>a σ H λvs b=>∃j:Int,vs=[.int j]/\-(2 ^ 62)<=j/\j<2 ^ 62/\R (ig 0 j.toNat) b
def Dj(a:TA):TI:=λσ H R=>a σ H λvs b=>∃i j:Int,vs=[.int i,.int j]/\(-(2 ^ 62)<=i/\i<2 ^ 62/\-(2 ^ 62)<=j/\j<2 ^ 62)/\R (ig i (j-i).toNat) b
def Ld {a:Expr} {d:TA} {p pos:Pos} (k:Gl X "range") (hm:X.mg "range" = none) (f:PA X [a] d) (hs:starEach [a] X.env=[(false,eval a X.env)]:=by rfl):PI X tg (.Call (.Name "range" p) [a] [] pos) (Dk d):=by
 intro b s σ H R I h;refine Call_ (gk I k hm boot_range (WT (av (f pos b s σ H _ I h) λus s1 ⟨vs,m,i,g,c⟩=>?_) hs Z));obtain⟨j,e,c,l,q⟩:=c;subst e;cases g with
 | cons r rr =>
  cases rr;obtain⟨t,rfl⟩:=r;exact call_range_1 (BS i (by omega) (by omega) c l (by simpa using q))
def Lc {a b:Expr} {g:TA} {p pos:Pos} (n:Gl X "range") (hm:X.mg "range" = none) (k:PA X [a,b] g) (hs:starEach [a,b] X.env=[(false,eval a X.env),(false,eval b X.env)]:=by rfl) (d:starEach [b] X.env=[(false,eval b X.env)]:=by rfl) :
 PI X tg (.Call (.Name "range" p) [a,b] [] pos) (Dj g):=by
 intro c s σ H R I h;refine Call_ (gk I n hm boot_range (WT (av (k pos c s σ H _ I h) λus s1 ⟨vs,x,m,l,f⟩=>?_) (by rw[hs,d]) (by rw[d];rfl)));obtain⟨i,j,e,⟨f,u,v,o⟩,q⟩:=f;subst e;cases l with
 | cons r rr =>
  cases rr with
  | cons r' rr =>
   cases rr;obtain⟨t,rfl⟩:=r;obtain⟨t',rfl⟩:=r';exact call_range_2 (BS m f u v o q)
def AQ(b:TI)(g:TG)(tb:TS):TS:=λD σ H=>b σ H λJ d=>∃W:Nat->Nat->St->Hp->Prop,(∃m,W 0 m σ d)/\∀i m σ H,W i m σ H ->
 (J.stop i H/\D.nx σ H)\/(J.go i H/\∃N:St->Hp->Prop,(∀σ' H',N σ' H'->∃m',m'<m/\W (i+1) m' σ' H')/\∀x H',J.yld i H x H'->g x σ H' λa c=>tb { D with nx:=N,ct:=N,bk:=D.nx } a c)
def mz(fp:List Addr)(h:Heap):List (Addr × Obj):=fp.filterMap λb=>(h.get? b).map λo=>(b,o)
def pG{fp:List Addr}{h:Heap}{b:Addr}{o:Obj}(hb:b∈fp)(e:h.get? b=some o):(b,o)∈mz fp h:=List.mem_filterMap.mpr ⟨b,hb,by rw[e];rfl⟩
def Mm{fp:List Addr}{h:Heap}{p:Addr × Obj}(a:p∈mz fp h):p.1∈fp/\h.get? p.1=some p.2:=by
 obtain⟨b,hb,e⟩:=List.mem_filterMap.mp a;cases q:h.get? b with
 | none=>rw[q]at e;cases e
 | some o =>
  rw[q]at e;have e':(b,o)=p:=Wt e;subst e';exact⟨hb,q⟩
def af.pinned{a:List (Addr × Obj)}{σ:St}{H:Hp}{s:h6}{fp:List Addr}(I:af X a σ H s)(j:∀b∈fp,eU X a H b)(c:∀b∈fp,∃o,s.heap.get? b=some o/\∀v,o.data ≠ .cell v):af X (a++mz fp s.heap) σ H s :=
 I.pins_of λp h=>(Wi.mp h).elim (λz=>I.pin p (Wx _ z)) λz=>by
  obtain⟨hb,e⟩:=Mm z;obtain⟨g,i,f,_⟩:=j p.1 hb;obtain⟨o,e',d⟩:=c p.1 hb;rw[e]at e';cases e';exact⟨e,g,i,f,d⟩
def af.unpinned{a pl:List (Addr × Obj)}{σ:St}{H:Hp}{s:h6}(I:af X (a++pl) σ H s):af X a σ H s:=I.pins_of λp b=>I.pin p (Wx _ (WQ _ b))
def KQ{j:Expr}{body:List Stmt}{wi:TI}{g:TG}{tb:TS}{pos:Pos}(M:PassesOwn (model X.prog X.w) X.A X.env X.xe)(hc:X.calm=true)(hi:PI X tg j wi)(hg:PG X tg g)(hb:eg X body tb)
 (hs:∀x,foldedSetIterable j X.env x=pure x:=by intro _;rfl):PS X (.For tg j body [] pos) (AQ wi g tb):=by
 intro a s σ H D I h;refine wpAny_For (av (hi a s σ H _ I h) λv s1 h1=>av h1 λaa s2 h2=>?_) hs;obtain⟨it,fp,tn,J,H2,e,I2,T,V,f2,W,⟨m0,w0⟩,B⟩:=h2;subst e;have c:∀ {q:Hp},(∀b∈fp,q b=none)->∀b∈fp,eU X a q b:=λhn b hb=>⟨hn b hb,(f2 b hb).2⟩;refine codeAny_forLoop_any (λn s'=>∃i σ' q,af X a σ' q s'/\tn i s'.heap/\(∀b∈fp,q b=none)/\W i n σ' q) ?_ m0 ⟨0,σ,H2,I2,V,λb hb=>(f2 b hb).1,w0⟩;rintro n s3 ⟨i,F,O,Y,L,C,w3⟩;rcases B i n F O w3 with ⟨stop,qn⟩|⟨go,N,hN,step⟩
 ·refine wpAny_passesOwn M (av (T.done X Z Z Z hc i a s3 F O X.xe Y (c C) L stop) λr s4 ⟨hr,I4⟩=>?_);subst hr;exact wpAny_execs_nil ⟨F,O,I4,qn⟩
 ·refine wpAny_passesOwn M (av (T.item X Z Z Z hc i a s3 F O X.xe Y (c C) L go) λr s4 ⟨u,hr,h4⟩=>?_);subst hr;refine wpAny_passesOwn M (av h4 λ_ s5 ⟨x,H5,I5,r5,y5,z,R⟩=>?_);have S:=I5.pinned (c R) (T.obj _ _ z);refine wpAny_passesOwn M (av (hg _ s5 F H5 x u _ S r5 (step x H5 y5)) λ_ s6 ⟨σ6,H6,I6,q6⟩=>?_);refine wpAny_passesOwn M (av (hb _ s6 σ6 H6 _ I6 q6) λf U y=>?_);have again:∀ {p:St} {l:Hp},af X (a++mz fp s5.heap) p l U->N p l->∃m,m<n/\∃i σ' q,af X a σ' q U/\tn i U.heap/\(∀b∈fp,q b=none)/\W i m σ' q:=λ{p l} k G=>by
   obtain⟨m',hm,w7⟩:=hN p l G;refine⟨m',hm,i+1,p,l,k.unpinned,T.keep _ _ _ z λb hb o e=>(k.pin (b,o) (Wx _ (Wx _ (pG hb e)))).1,λb hb=>?_,w7⟩;obtain⟨o,e,d⟩:=T.obj _ _ z b hb;exact (k.pin (b,o) (Wx _ (Wx _ (pG hb e)))).2.1
  cases f with
  | next=>obtain⟨p,l,k,G⟩:=y;exact again k G
  | cont=>obtain⟨p,l,k,G⟩:=y;exact again k G
  | brk=>obtain⟨p,l,k,y⟩:=y;exact⟨p,l,k.unpinned,y⟩
  | ret v=>obtain⟨x7,p,l,k,r7,y⟩:=y;exact⟨x7,p,l,k.unpinned,r7,y⟩
end
def fP{K:W.Frag}{a:Addr}{xs:List V}{g:TG}{tb:TS}{D:fX}{σ:St}{H:Hp}(b:Nat->St->Hp->Prop)(k:b 0 σ H)(hl:∀i σ H,i<=xs.length->b i σ H->aI K H a xs)
 (hs:∀i x σ H,xs[i]? = some x->b i σ H->g x σ H λh f=>tb { D with nx:=b (i+1),ct:=b (i+1),bk:=D.nx } h f) (hd:∀σ H,b xs.length σ H->D.nx σ H) :
 ∃W:Nat->Nat->St->Hp->Prop,(∃m,W 0 m σ H)/\∀i m σ H,W i m σ H ->
  ((ji K a).stop i H/\D.nx σ H)\/((ji K a).go i H/\∃N:St->Hp->Prop,(∀d c,N d c->∃m',m'<m/\W (i+1) m' d c)/\∀x c,(ji K a).yld i H x c->g x σ c λh f=>tb { D with nx:=N,ct:=N,bk:=D.nx } h f):=by
 refine⟨λi m σ H=>m=xs.length-i/\i<=xs.length/\b i σ H,⟨xs.length,by simp,Wu _,k⟩,?_⟩;rintro i m σ H ⟨rfl,j,p⟩;have q:=hl i σ H j p;by_cases hlt:i<xs.length
 ·refine .inr ⟨⟨xs,xs[i],q,by simp[hlt]⟩,b (i+1),λd c l=>⟨xs.length-(i+1),by omega,rfl,hlt,l⟩,λx c y=>?_⟩;obtain⟨e,y⟩:=y;subst e;exact hs i x σ _ (y xs q) p
 ·have e:i=xs.length:=by omega
  subst e;exact .inl ⟨⟨xs,q,V5 _⟩,hd σ H p⟩
def QX{K:W.Frag}{a:Addr}{xs:List V}{g:TG}{tb:TS}{D:fX}{σ:St}{H:Hp}(b:Nat->St->Hp->Prop)(k:b 0 σ H)(hl:∀i σ H,i<=xs.length->b i σ H->be K H a xs)
 (hs:∀i x σ H,xs[i]? = some x->b i σ H->g x σ H λh f=>tb { D with nx:=b (i+1),ct:=b (i+1),bk:=D.nx } h f) (hd:∀σ H,b xs.length σ H->D.nx σ H) :
 ∃W:Nat->Nat->St->Hp->Prop,(∃m,W 0 m σ H)/\∀i m σ H,W i m σ H ->
  ((nY K a).stop i H/\D.nx σ H)\/((nY K a).go i H/\∃N:St->Hp->Prop,(∀d c,N d c->∃m',m'<m/\W (i+1) m' d c)/\∀x c,(nY K a).yld i H x c->g x σ c λh f=>tb { D with nx:=N,ct:=N,bk:=D.nx } h f):=by
 refine⟨λi m σ H=>m=xs.length-i/\i<=xs.length/\b i σ H,⟨xs.length,by simp,Wu _,k⟩,?_⟩;rintro i m σ H ⟨rfl,j,p⟩;have q:=hl i σ H j p;by_cases hlt:i<xs.length
 ·refine .inr ⟨⟨xs,xs[i],q,by simp[hlt]⟩,b (i+1),λd c l=>⟨xs.length-(i+1),by omega,rfl,hlt,l⟩,λx c y=>?_⟩;obtain⟨e,y⟩:=y;subst e;exact hs i x σ _ (y xs q) p
 ·have e:i=xs.length:=by omega
  subst e;exact .inl ⟨⟨xs,q,V5 _⟩,hd σ H p⟩
def iy{lo:Int}{n:Nat}{g:TG}{tb:TS}{D:fX}{σ:St}{H:Hp}(b:Nat->St->Hp->Prop)(h:b 0 σ H)
 (hs:∀i σ H,i<n->b i σ H->g (.int (lo+i)) σ H λf d=>tb { D with nx:=b (i+1),ct:=b (i+1),bk:=D.nx } f d) (hd:∀σ H,b n σ H->D.nx σ H) :
 ∃W:Nat->Nat->St->Hp->Prop,(∃m,W 0 m σ H)/\∀i m σ H,W i m σ H ->
  ((ig lo n).stop i H/\D.nx σ H)\/((ig lo n).go i H/\∃N:St->Hp->Prop,(∀c a,N c a->∃m',m'<m/\W (i+1) m' c a)/\∀x a,(ig lo n).yld i H x a->g x σ a λf d=>tb { D with nx:=N,ct:=N,bk:=D.nx } f d):=by
 refine⟨λi m σ H=>m=n-i/\i<=n/\b i σ H,⟨n,by simp,Wu _,h⟩,?_⟩;rintro i m σ H ⟨rfl,k,p⟩;by_cases hlt:i<n
 ·refine .inr ⟨hlt,b (i+1),λc a j=>⟨n-(i+1),by omega,rfl,hlt,j⟩,λx a y=>?_⟩;obtain⟨e,y⟩:=y;subst e y;exact hs i σ _ hlt p
 ·have e:i=n:=by omega
  subst e;exact .inl ⟨V5 _,hd σ H p⟩
abbrev R2:=V->V->Hp->VK->Prop
def aV(X:Cx)(f:Value->Value->Sem Value)(r:R2):Prop :=
 ∀(a:List (Addr × Obj)) (s:h6) (σ:St) (H:Hp) (x y:V) (v u:Value) (Q:VK),af X a σ H s->aN x v->aN y u->r x y H Q ->
  wpAny (model X.prog X.w) X.A (f v u) (EP X a σ Q) X.xe s
def nU(X:Cx)(f:Value->Sem Value)(r:V->Hp->VK->Prop):Prop :=
 ∀(a:List (Addr × Obj)) (s:h6) (σ:St) (H:Hp) (x:V) (v:Value) (Q:VK),af X a σ H s->aN x v->r x H Q ->
  wpAny (model X.prog X.w) X.A (f v) (EP X a σ Q) X.xe s
def cB(X:Cx)(f:Value)(r:List V->Hp->VK->Prop):Prop :=
 ∀(a:List (Addr × Obj)) (s:h6) (σ:St) (H:Hp) (xs:List V) (us:List Value) (Q:VK),af X a σ H s->aA xs us->r xs H Q ->
  wpAny (model X.prog X.w) X.A (call f us) (EP X a σ Q) X.xe s
def Ud(X:Cx)(r:V->Hp->(Bool->Hp->Prop)->Prop):Prop :=
 ∀(a:List (Addr × Obj)) (s:h6) (σ:St) (H:Hp) (x:V) (v:Value) (Q:Bool->Hp->Prop),af X a σ H s->aN x v->r x H Q ->
  wpAny (model X.prog X.w) X.A (truthy v) (TP X a σ Q) X.xe s
def fH(r:R2)(a tb:TE):TE:=λσ H Q=>a σ H λx c=>tb σ c λy b=>r x y b Q
def AC(r:V->Hp->VK->Prop)(a:TE):TE:=λσ H Q=>a σ H λx b=>r x b Q
def rI(C:Int->Int->Prop)(g:Int->Int->V):R2:=λx y H Q=>∃i j,x=.int i/\y=.int j/\C i j/\Q (g i j) H
def gM(g:Int->Int->V):R2:=λx y H Q=>∃i j,x=.int i/\y=.int j/\Q (g i j) H
def rU(g:Int->V):V->Hp->VK->Prop:=λx H Q=>∃i,x=.int i/\Q (g i) H
section
variable {X:Cx}{a b c:Expr}{ta tb tc:TE}{pos:Pos}
def yK(i:PE X a ta)(hb:PE X b tb){c:List (Addr × Obj)}{s:h6}{σ:St}{H:Hp}{R:V->V->Hp->Prop}(I:af X c σ H s)
 (h:ta σ H λx g=>tb σ g λy d=>R x y d) {Q:Value->h6->Prop} {f:Value->Value->Sem Value}
 (n:∀v u e x y d,af X c σ d e->aN x v->aN y u->R x y d->wpAny (model X.prog X.w) X.A (f v u) Q X.xe e) :
 wpAny (model X.prog X.w) X.A (eval a X.env) (λv o=>wpAny (model X.prog X.w) X.A (eval b X.env) (λu j=>wpAny (model X.prog X.w) X.A (f v u) Q X.xe j) X.xe o) X.xe s:=by
 refine av (i c s σ H _ I h) λv s1 ⟨x,g,l,k,m⟩=>?_;refine av (hb c s1 σ g _ l m) λu e ⟨y,d,r,q,p⟩=>?_;exact n v u e x y d r k q p
def Lo{d:Operator}{r:R2}(f:aV X (binaryOp d) r)(e:PE X a ta)(hb:PE X b tb):PE X (.BinOp a d b pos) (fH r ta tb):=by
 intro c s σ H Q I h;exact wpAny_BinOp (yK e hb I h λv u j x y g k i l q=>f c j σ g x y v u Q k i l q)
def Lm{c:UnaryOp}{r:V->Hp->VK->Prop}(g:nU X (unaryOp c) r)(d:PE X a ta):PE X (.UnaryOp c a pos) (AC r ta):=by
 intro b s σ H Q I h;exact UnaryOp_ (av (d b s σ H _ I h) λv s1 ⟨x,j,f,e,i⟩=>g b s1 σ j x v Q f e i)
def mD{f:Value->Value->Sem Value}{C:Int->Int->Prop}{g:Int->Int->Int}
 (a:∀(i j:Int) (t u:Tok) (s:h6) (Q:Value->h6->Prop) (E:Value->h6->Prop),C i j->Q (.int (g i j) s.toks) { s with toks:=s.toks+1 }->wpAny (model X.prog X.w) X.A (f (.int i t) (.int j u)) Q E s) :
 aV X f (rI C λi j=>.int (g i j)):=by
 intro b s σ H x y v u Q I c e h;obtain⟨i,j,rfl,rfl,d,q⟩:=h;obtain⟨t,rfl⟩:=c;obtain⟨t',rfl⟩:=e;exact a i j t t' s _ _ d ⟨.int (g i j),H,I.tok _,⟨_,Z⟩,q⟩
def Cp{f:Value->Value->Sem Value}{g:Int->Int->Int}
 (a:∀(i j:Int) (t u:Tok) (s:h6) (Q:Value->h6->Prop) (E:Value->h6->Prop),Q (.int (g i j) s.toks) { s with toks:=s.toks+1 }->wpAny (model X.prog X.w) X.A (f (.int i t) (.int j u)) Q E s) :
 aV X f (gM λi j=>.int (g i j)):=by
 intro b s σ H x y v u Q I c d h;obtain⟨i,j,rfl,rfl,q⟩:=h;obtain⟨t,rfl⟩:=c;obtain⟨t',rfl⟩:=d;exact a i j t t' s _ _ ⟨.int (g i j),H,I.tok _,⟨_,Z⟩,q⟩
def pz{f:Value->Value->Sem Value}{g:Int->Int->Bool}
 (a:∀(i j:Int) (t u:Tok) (s:h6) (Q:Value->h6->Prop) (E:Value->h6->Prop),Q (.bool (g i j)) s->wpAny (model X.prog X.w) X.A (f (.int i t) (.int j u)) Q E s) :
 aV X f (gM λi j=>.bl (g i j)):=by
 intro b s σ H x y v u Q I c d h;obtain⟨i,j,rfl,rfl,q⟩:=h;obtain⟨t,rfl⟩:=c;obtain⟨t',rfl⟩:=d;exact a i j t t' s _ _ ⟨.bl (g i j),H,I,Z,q⟩
def Gd(i j:Int):Prop:=0<j/\j<1073741824
def sU(i j:Int):Prop:=(-(2 ^ 64)<i/\i<2 ^ 64)\/(-(2 ^ 64)<j/\j<2 ^ 64)
def sU.ok{i j:Int}(h:sU i j):IntMulOk i j:=by
 rcases h with ⟨h1,h2⟩|⟨h1,h2⟩
 ·exact .of_left (intBits_le_64 h1 h2)
 ·exact .of_right (intBits_le_64 h1 h2)
def GK(k:Nat):(0:Int)<=2 ^ k:=by
 rw[two_pow_cast];exact Int.natCast_nonneg _
def L1:aV X (binaryOp .Add) (gM λi j=>.int (i+j)):=Cp λ_ _ _ _ _ _ _ q=>add_int q
def LP:aV X (binaryOp .Sub) (gM λi j=>.int (i-j)):=Cp λ_ _ _ _ _ _ _ q=>sub_int q
def Cl:aV X (binaryOp .Mult) (rI sU λi j=>.int (i*j)):=mD λ_ _ _ _ _ _ _ a q=>mul_int q a.ok
def Cn:aV X (binaryOp .FloorDiv) (rI Gd λi j=>.int (i/j)):=mD λi j _ _ _ _ _ a q=>by
 have c:(0:Int)<j:=a.1;have b:j<1073741824:=a.2;exact floordiv_int (by omega) (by rw[Ye i (by omega)];exact q) (.inl (Yf (by omega)))
def Cm:aV X (binaryOp .Mod) (rI (λ_ j=>0<j) λi j=>.int (i%j)):=mD λi j _ _ _ _ _ a q=>by
 have b:(0:Int)<j:=a;exact mod_int' (by omega) (by rw[Int.fmod_eq_emod_of_nonneg i (by omega)];exact q)
def LQ:aV X (binaryOp .RShift) (rI (λ_ j=>0<=j) λi j=>.int (i/2 ^ j.toNat)):=mD λi j _ _ _ _ _ a q =>
 rshift_int a (by rw[Ye i (GK _)];exact q)
def Gr{f:Value->Sem Value}{g:Int->Int}
 (a:∀(i:Int) (t:Tok) (s:h6) (Q:Value->h6->Prop) (E:Value->h6->Prop),Q (.int (g i) s.toks) { s with toks:=s.toks+1 }->wpAny (model X.prog X.w) X.A (f (.int i t)) Q E s) :
 nU X f (rU λi=>.int (g i)):=by
 intro b s σ H x v Q I c h;obtain⟨i,rfl,q⟩:=h;obtain⟨t,rfl⟩:=c;exact a i t s _ _ ⟨.int (g i),H,I.tok _,⟨_,Z⟩,q⟩
def Gq:nU X (unaryOp .USub) (rU λi=>.int (-i)):=Gr λ_ _ _ _ _ q=>neg_int q
end
def Br:V->V->Bool
 | .non,.non=>true|.non,.int _=>true|.int _,.non=>true|.non,.bl _=>true|.bl _,.non=>true|.non,.str _=>true|.str _,.non=>true
 | .int _,.int _=>true|.bl _,.bl _=>true|.str _,.str _=>true|.byt _,.byt _=>true
 | .int _,.str _=>true|.str _,.int _=>true|.bl _,.str _=>true|.str _,.bl _=>true
 | _,_=>false
def Ke:R2:=λx y H Q=>Br x y=true/\Q (.bl (decide (x=y))) H
def Ka:R2:=λx y H Q=>Br x y=true/\Q (.bl (!decide (x=y))) H
def Ef{i j:Int}:decide (V.int i=V.int j)=(i == j):=by
 rw[W1];simp
def qv{i j:Bool}:decide (V.bl i=V.bl j)=(i == j):=by
 rw[W1];simp
def Ed{i j:Str}:decide (V.str i=V.str j)=(i == j):=by
 rw[W1];simp
def Eg{i j:Array UInt8}:decide (V.byt i=V.byt j)=(i.toList == j.toList):=by
 rw[W1];cases i;cases j;simp
section
variable {X:Cx}{a b c:Expr}{ta tb tc:TE}{pos:Pos}
def bN{a:List (Addr × Obj)}{σ:St}{H:Hp}{s:h6}{Q:VK}{k k':Bool}(I:af X a σ H s)(q:Q (.bl k) H)(e:k=k'):EP X a σ Q (.bool k') s:=by
 subst e;exact⟨.bl k,H,I,Z,q⟩
def Co:aV X (compareOp .Eq) Ke:=by
 intro c s σ H x y v u Q I b a h;obtain⟨hs,q⟩:=h;cases x with
 | non =>
  cases b;cases y with
  | non=>cases a;exact PySem.EqNone.eq_none_none (bN I q (by simp))
  | bl j=>cases a;exact PySem.EqNone.eq_none_bool (bN I q (by simp))
  | int j=>obtain⟨t',rfl⟩:=a;exact PySem.EqNone.eq_none_int (bN I q (by simp))
  | str j=>obtain⟨t',rfl⟩:=a;exact PySem.EqNone.eq_none_str (bN I q (by simp))
  | _=>exact YC (show false=true from hs) Wk
 | bl i =>
  cases b;cases y with
  | non=>cases a;exact PySem.EqNone.eq_bool_none (bN I q (by simp))
  | bl j=>cases a;exact eq_bool (bN I q qv)
  | str j=>obtain⟨t',rfl⟩:=a;exact PySem.EqMixed.eq_bool_str (bN I q (by simp))
  | _=>exact YC (show false=true from hs) Wk
 | int i =>
  obtain⟨t,rfl⟩:=b;cases y with
  | non=>cases a;exact PySem.EqNone.eq_int_none (bN I q (by simp))
  | int j=>obtain⟨t',rfl⟩:=a;exact eq_int (bN I q Ef)
  | str j=>obtain⟨t',rfl⟩:=a;exact PySem.EqMixed.eq_int_str (bN I q (by simp))
  | _=>exact YC (show false=true from hs) Wk
 | str i =>
  obtain⟨t,rfl⟩:=b;cases y with
  | non=>cases a;exact PySem.EqNone.eq_str_none (bN I q (by simp))
  | bl j=>cases a;exact PySem.EqMixed.eq_str_bool (bN I q (by simp))
  | int j=>obtain⟨t',rfl⟩:=a;exact PySem.EqMixed.eq_str_int (bN I q (by simp))
  | str j=>obtain⟨t',rfl⟩:=a;exact eq_str (bN I q Ed)
  | _=>exact YC (show false=true from hs) Wk
 | byt i =>
  obtain⟨t,rfl⟩:=b;cases y with
  | byt j=>obtain⟨t',rfl⟩:=a;exact W.eq_bytes (bN I q Eg)
  | _=>exact YC (show false=true from hs) Wk
 | _=>cases y<;>exact YC (show false=true from hs) Wk
def Ck:aV X (compareOp .NotEq) Ka:=by
 intro c s σ H x y v u Q I b a h;obtain⟨hs,q⟩:=h;cases x with
 | non =>
  cases b;cases y with
  | non=>cases a;exact PySem.EqNone.ne_none_none (bN I q (by simp))
  | bl j=>cases a;exact PySem.EqNone.ne_none_bool (bN I q (by simp))
  | int j=>obtain⟨t',rfl⟩:=a;exact PySem.EqNone.ne_none_int (bN I q (by simp))
  | str j=>obtain⟨t',rfl⟩:=a;exact PySem.EqNone.ne_none_str (bN I q (by simp))
  | _=>exact YC (show false=true from hs) Wk
 | bl i =>
  cases b;cases y with
  | non=>cases a;exact PySem.EqNone.ne_bool_none (bN I q (by simp))
  | bl j=>cases a;exact ne_bool (bN I q (congrArg not qv))
  | str j=>obtain⟨t',rfl⟩:=a;exact PySem.EqMixed.ne_bool_str (bN I q (by simp))
  | _=>exact YC (show false=true from hs) Wk
 | int i =>
  obtain⟨t,rfl⟩:=b;cases y with
  | non=>cases a;exact PySem.EqNone.ne_int_none (bN I q (by simp))
  | int j=>obtain⟨t',rfl⟩:=a;exact ne_int (bN I q (congrArg not Ef))
  | str j=>obtain⟨t',rfl⟩:=a;exact PySem.EqMixed.ne_int_str (bN I q (by simp))
  | _=>exact YC (show false=true from hs) Wk
 | str i =>
  obtain⟨t,rfl⟩:=b;cases y with
  | non=>cases a;exact PySem.EqNone.ne_str_none (bN I q (by simp))
  | bl j=>cases a;exact PySem.EqMixed.ne_str_bool (bN I q (by simp))
  | int j=>obtain⟨t',rfl⟩:=a;exact PySem.EqMixed.ne_str_int (bN I q (by simp))
  | str j=>obtain⟨t',rfl⟩:=a;exact ne_str (bN I q (congrArg not Ed))
  | _=>exact YC (show false=true from hs) Wk
 | byt i =>
  obtain⟨t,rfl⟩:=b;cases y with
  | byt j=>obtain⟨t',rfl⟩:=a;exact W.ne_bytes (bN I q (congrArg not Eg))
  | _=>exact YC (show false=true from hs) Wk
 | _=>cases y<;>exact YC (show false=true from hs) Wk
def LV:aV X (compareOp .Lt) (gM λi j=>.bl (decide (i<j))):=pz λ_ _ _ _ _ _ _ q=>lt_int q
def LW:aV X (compareOp .LtE) (gM λi j=>.bl (decide (i<=j))):=pz λ_ _ _ _ _ _ _ q=>le_int q
def LZ:aV X (compareOp .Gt) (gM λi j=>.bl (decide (j<i))):=pz λ_ _ _ _ _ _ _ q=>gt_int q
def L0:aV X (compareOp .GtE) (gM λi j=>.bl (decide (j<=i))):=pz λ_ _ _ _ _ _ _ q=>ge_int q
def LX:aV X (compareOp .Is) (λx y H Q=>y=.non/\Q (.bl (decide (x=.non))) H):=by
 intro a s σ H x y v u Q I b c h;obtain⟨rfl,q⟩:=h;cases c;refine is_none_gen (bN I q ?_);cases x<;>first
  | (cases b;rfl)
  | (obtain⟨t,rfl⟩:=b;rfl)
def LS:aV X (compareOp .IsNot) (λx y H Q=>y=.non/\Q (.bl (!decide (x=.non))) H):=by
 intro a s σ H x y v u Q I b c h;obtain⟨rfl,q⟩:=h;cases c;refine isnot_none_gen (bN I q ?_);cases x<;>first
  | (cases b;rfl)
  | (obtain⟨t,rfl⟩:=b;rfl)
def aM(b:Expr){a:CmpOp}(h:a ≠ .In:=by decide)(d:a ≠ .NotIn:=by decide):behindInMarks a b=false:=by
 have e:(a == CmpOp.In)=false:=by cases a<;>first|rfl|exact YC rfl h
 have c:(a == CmpOp.NotIn)=false:=by cases a<;>first|rfl|exact YC rfl d
 cases b<;>simp[behindInMarks,e,c]
def LC{d:CmpOp}{r:R2}(f:aV X (compareOp d) r)(e:PE X a ta)(hb:PE X b tb)(hm:behindInMarks d b=false):PE X (.Compare a [d] [b] pos) (fH r ta tb):=by
 intro c s σ H Q I h;exact wpAny_Compare1 (yK e hb I h λv u j x y g k i l q=>f c j σ g x y v u Q k i l q) hm
def Uc(K:W.Frag)(x:V)(H:Hp)(k:Bool):Prop :=
 match x with
 | .non=>k=false
 | .bl b=>k=b
 | .int i=>k=(i != 0)
 | .str y=>y.length<=sizeLine/\k=((y.length:Int) != 0)
 | .byt y=>y.size<=sizeLine/\k=((y.size:Int) != 0)
 | .ref p=>(∃xs,aI K H p xs/\k = !xs.isEmpty)\/(∃xs,be K H p xs/\k = !xs.isEmpty)\/∃kvs,H p=some (.dK kvs)/\k = !kvs.isEmpty
 | _=>False
def N7{κ:Type}{a:List (κ × V)}{vs:List (κ × Value)}(r:KV a vs):(!vs.isEmpty) = !a.isEmpty:=by
 cases r<;>rfl
def Df{xs:List V}{a:List Value}(r:aA xs a):(!a.toArray.isEmpty) = !xs.isEmpty:=by
 cases r<;>simp
def mI:(sizeLine:Nat)<2 ^ 63:=by rw[sizeLine_eq];decide
def l9:Ud X (λx H Q=>∃k,Uc X.K x H k/\Q k H):=by
 intro f s σ H x v Q I c h;obtain⟨k,e,q⟩:=h;have hl:=mI;have hs:sizeLine=16777216:=sizeLine_eq;cases x with
 | non =>
  cases c;have e':k=false:=e;subst e';exact truthy_none ⟨H,I,q⟩
 | bl b =>
  cases c;have e':k=b:=e;subst e';exact wpAny_truthy_bool ⟨H,I,q⟩
 | int i =>
  obtain⟨t,rfl⟩:=c;have e':k=(i != 0):=e;subst e';exact PySem.P.truthy_int ⟨H,I,q⟩
 | str y =>
  obtain⟨t,rfl⟩:=c;obtain⟨g,e'⟩:y.length<=sizeLine/\k=((y.length:Int) != 0):=e;subst e';exact PySem.P.truthy_str (by omega) ⟨H,I.tok _,q⟩
 | byt y =>
  obtain⟨t,rfl⟩:=c;obtain⟨g,e'⟩:y.size<=sizeLine/\k=((y.size:Int) != 0):=e;subst e';exact W.truthy_bytes (by omega) ⟨H,I.tok _,q⟩
 | ref p =>
  cases c;have e':(∃xs,aI X.K H p xs/\k = !xs.isEmpty)\/(∃xs,be X.K H p xs/\k = !xs.isEmpty)\/∃kvs,H p=some (.dK kvs)/\k = !kvs.isEmpty:=e;rcases e' with ⟨xs,hx,e'⟩|⟨xs,hx,e'⟩|⟨kvs,hx,e'⟩
  ·subst e';obtain⟨d,r,pl,hz⟩:=I.list hx;have a:=r.length;exact wpAny_truthy_list pl.isList (by simp only [Wd];omega) ⟨H,I.tok _,by rw[Df r];exact q⟩
  ·subst e';obtain⟨d,r,pl,hz⟩:=I.tuple hx;have a:=r.length;exact truthy_tuple pl (by simp only [Wd];omega) ⟨H,I.tok _,by rw[Df r];exact q⟩
  ·subst e';obtain⟨hz,hS,vs,r,m⟩:kvs.length<=sizeLine/\(p == sysModules)=false/\∃vs,KV kvs vs/\s.heap.DictOf (ci X.prog X.w) p vs:=I.hok p _ hx;have a:kvs.length=vs.length:=Paired.length r;exact wpAny_truthy_dict hS m (by omega) ⟨H,I.tok _,by rw[N7 r];exact q⟩
 | _=>exact (show False from e).elim
def jk{x:V}{us:List Value}(r:aA [x] us):∃u,us=[u]/\aN x u:=by
 cases r with
 | cons r1 r2=>cases r2;exact⟨_,Z,r1⟩
def tj{x y:V}{us:List Value}(r:aA [x,y] us):∃u w',us=[u,w']/\aN x u/\aN y w':=by
 cases r with
 | cons r1 r2 =>
  cases r2 with
  | cons r3 r4=>cases r4;exact⟨_,_,Z,r1,r3⟩
def RF (b:X.calm=true):cB X (.builtin "min") (λxs H Q=>∃i j,xs=[.int i,.int j]/\Q (.int (if j<i then j else i)) H):=by
 intro a s σ H xs us Q I r h;obtain⟨i,j,rfl,q⟩:=h;obtain⟨u,d,rfl,⟨t,rfl⟩,⟨t',rfl⟩⟩:=tj r;refine min_two_ints (I.ok.hd b) λh' c k=>⟨_,H,I.kept k,?_,q⟩;by_cases hj:j<i
 ·rw[YB hj,YB hj];exact⟨_,Z⟩
 ·rw[YA hj,YA hj];exact⟨_,Z⟩
def RI:cB X (.type "int") (λxs H Q=>(∃i,xs=[.int i]/\Q (.int i) H)\/∃k,xs=[.bl k]/\Q (.int (if k then 1 else 0)) H):=by
 intro a s σ H xs us Q I r h;rcases h with ⟨i,rfl,q⟩|⟨k,rfl,q⟩
 ·obtain⟨u,rfl,t,rfl⟩:=jk r;exact call_int_int ⟨.int i,H,I,⟨_,Z⟩,q⟩
 ·obtain⟨u,rfl,b⟩:=jk r;cases b;exact call_int_bool ⟨.int (if k then 1 else 0),H,I.tok _,⟨_,Z⟩,q⟩
end
structure jh (h:Heap) (x dx C:Addr) (mA:Str->Option Value):Prop where
 obj:h.get? x=some (W.instObj C dx)
 ns:h.Ns1 dx mA
 ne:dx≠x
def NK{h:Heap}{dx:Addr}{mA:Str->Option Value}(n:h.Ns1 dx mA):∃od,h.get? dx=some od/\∀name,W.lookIn name od=some (mA name):=by
 obtain⟨o,c,i,d,hd,f,_,hm⟩:=n;refine⟨o,d,λname=>?_⟩;have e:=hm name;unfold nsFind findBy at e;rw[<- Array.find?_toList]at e;unfold W.lookIn;rw[hd];dsimp only
 split
 ·rename_i y q;rw[q]at e;exact congrArg some e
 ·rename_i q;rw[q]at e;have a:c.toList.any (·.refKey)=false:=by
   rw[List.any_eq_false];intro y g;obtain⟨z,t,b⟩:=f y (Yq.mp g);simp[DictEntry.refKey,b]
  have a':¬c.toList.any (·.refKey)=true:=by rw[a];exact Wk
  rw[YA a'];exact congrArg some e
def jh.look{h:Heap}{x dx C:Addr}{mA:Str->Option Value}(I:jh h x dx C mA):∃od,W.InstAt h x (W.instObj C dx) C (some od)/\∀name,W.lookIn name od=some (mA name) :=
 let ⟨od,ho,hl⟩:=NK I.ns
 ⟨od,⟨I.obj,rfl,rfl,ho⟩,hl⟩
section
variable {prog:Program}{w:World}{A:Around}{E:Value->h6->Prop}{s:h6}{K:W.Frag}{x dx C f:Addr}{mA:Str->Option Value}{name:Str}{v:Value}
def Pt{a:Bool}{Q:Value->h6->Prop}(X:K.In s.heap)(I:jh s.heap x dx C mA)(e:W.plainGet K C name=true)(f:W.hasDictIn K C=true)
 (c:W.findIn K (.ref C) name=some none) (d:mA name=some v) (b:W.handedIn v=true) (h:Q v { s with toks:=s.toks+1 }) :
 wpAny (model prog w) A (getAttr (.ref x) name a) Q E s:=by
 obtain⟨g,J,hl⟩:=I.look;exact W.get_value X J (W.plainGet_of e).1 (W.findObj_own f c rfl (by rw[hl,d])) b h
def Ps{pl:Sem Bool}{Q:Value × List Value->h6->Prop}(X:K.In s.heap)(I:jh s.heap x dx C mA)(a:W.plainGet K C name=true)
 (d:W.findIn K (.ref C) name=some (some (.ref f))) (ht:W.isFn K (.ref f)=true) (c:mA name=none) (h:Q (.ref f,[.ref x]) s) :
 wpAny (model prog w) A (getMethod (.ref x) name pl) Q E s:=by
 obtain⟨b,J,hl⟩:=I.look;exact W.method_fn X J (W.plainGet_of a).1 (W.plainGet_of a).2 d (beq_iff_eq.mp ht) (by show (W.lookIn name b).map (·.isSome)=some false;rw[hl,c];rfl) h
def IL{ns:List Str}{Q:Unit->h6->Prop}(X:K.In s.heap)(I:jh s.heap x dx C mA)
 (hs:W.findIn K (.ref C) "__setattr__" = some (some (.builtin "object.__setattr__"))) (f:W.plainOver K C=true) (ht:W.takerIn K C name=some none) (i:W.hasDictIn K C=true)
 (hw:PySem.Within mA ns) (hsz:ns.length<=sizeLine)
 (h:∀h',jh h' x dx C (λy=>if y=name then some v else mA y)->Heap.SameBut dx s.heap h'->Q () { s with heap:=h',toks:=s.toks+2 }) :
 wpAny (model prog w) A (setAttr (.ref x) name v) Q E s:=by
 obtain⟨j,J,hl⟩:=I.look;refine W.set_plain X J hs (W.osa_open (s:={ s with toks:=s.toks+1 }) (r:=none) X J f ht λb=>?_);obtain⟨cd,g,e⟩:=W.any_some i;have hx:s.heap.get? x=some ⟨.ref C,some dx,.plain,#[]⟩:=I.obj;refine kb (on (kb (kb (wpAny_loadPart hx (kb (W.Looks.here (s:={ s with toks:=s.toks+1 }) (W.looks_clsIn X g) ?_))))));rw[e];refine on (a:=some dx) (kb (on (kb ?_)));refine wpAny_nsSet1 (s:={ s with toks:=s.toks+1 }) I.ns λh' c d=>?_;obtain⟨oD,esD,epD,hoD,hdD,hcD⟩:=c.count (PySem.Within.cons name v hw);refine kb (wpAny_lookBehind hoD (by rw[hdD];exact pastItsLine_dict (Wq hcD (by rw[WE];omega))) ?_);exact on (h _ ⟨(d.2 _ (Ne.symm I.ne)).trans I.obj,c,I.ne⟩ d)
def NH{R:Result->h6->Prop}{vs:List Value}{a:List (Str × Value)}(X:K.In s.heap)(hm:W.makesIn K C=true)
 (b:W.findIn K (.ref C) "__init__" = some (some (.ref f))) (c:W.typeIn K (.ref f)=some (.type "function"))
 (h:codeAny (model prog w) (A.under (.builtin "type.__call__" ⟨.ref C::vs,a⟩)) (.call (.ref f) ⟨.ref (s.heap.objs.size+1)::vs,a⟩) (W.InitBack (s.heap.objs.size+1) R)
   { s with heap:=(s.heap.push W.emptyDict).push (W.instObj C s.heap.objs.size) }) :
 codeAny (model prog w) A (.call (.ref C) ⟨vs,a⟩) R s:=by
 obtain⟨e,g,d,t,os⟩:=s;exact W.make_core (W.makes_of X hm) (W.looks_findIn X b) (λself=>W.bind_fn X self c) (.inl Z) h
def NG{R:Result->h6->Prop}(X:K.In s.heap)(hm:W.makesIn K C=true)
 (a:W.findIn K (.ref C) "__init__" = some (some (.builtin "object.__init__")))
 (hb:∀self,W.Looks (model prog w) s.heap (bindSpecial (.builtin "object.__init__") self) (.builtin "object.__init__",[self]))
 (h:codeAny (model prog w) (A.under (.builtin "type.__call__" ⟨[.ref C],[]⟩)) (.call (.builtin "object.__init__") ⟨[.ref (s.heap.objs.size+1)],[]⟩) (W.InitBack (s.heap.objs.size+1) R)
   { s with heap:=(s.heap.push W.emptyDict).push (W.instObj C s.heap.objs.size) }) :
 codeAny (model prog w) A (.call (.ref C) ⟨[],[]⟩) R s:=by
 obtain⟨b,g,d,t,os⟩:=s;exact W.make_core (W.makes_of X hm) (W.looks_findIn X a) hb (.inr ⟨rfl,rfl⟩) h
end
def bX(f:Str)(v:V):List (Str × V)->List (Str × V)
 | []=>[(f,v)]
 | (g,x)::r=>if g=f then (g,v)::r else (g,x)::bX f v r
theorem uk(f g:Str)(v:V):∀fs:List (Str × V),(bX f v fs).lookup g=if g=f then some v else fs.lookup g
 | []=>by
  show List.lookup g [(f,v)]=_;by_cases h:g=f
  ·have hb:(g == f)=true:=beq_iff_eq.mpr h;simp only [List.lookup,hb,YB h]
  ·have hb:(g == f)=false:=beq_eq_false_iff_ne.mpr h;simp only [List.lookup,hb,YA h]
 | (k,x)::r=>by
  have ih:=uk f g v r;rw[show bX f v ((k,x)::r)=(if k=f then (k,v)::r else (k,x)::bX f v r) from rfl];by_cases hk:k=f
  ·rw[YB hk];by_cases h:g=k
   ·have hb:(g == k)=true:=beq_iff_eq.mpr h;simp only [List.lookup,hb,YB (h.trans hk)]
   ·have hb:(g == k)=false:=beq_eq_false_iff_ne.mpr h;simp only [List.lookup,hb,YA (λe:g=f=>h (e.trans hk.symm))]
  ·rw[YA hk];by_cases h:g=k
   ·have hb:(g == k)=true:=beq_iff_eq.mpr h;simp only [List.lookup,hb,YA (λe:g=f=>hk (h.symm.trans e))]
   ·have hb:(g == k)=false:=beq_eq_false_iff_ne.mpr h;simp only [List.lookup,hb];exact ih
theorem ur(f:Str)(v:V):∀fs:List (Str × V),f∈(bX f v fs).map (·.1)/\∀g,g∈fs.map (·.1)->g∈(bX f v fs).map (·.1)
 | []=>⟨by simp[bX],λg h=>by simp at h⟩
 | (k,x)::r=>by
  obtain⟨a,b⟩:=ur f v r;rw[show bX f v ((k,x)::r)=(if k=f then (k,v)::r else (k,x)::bX f v r) from rfl];by_cases hk:k=f
  ·rw[YB hk];subst hk;exact⟨by simp,λg h=>by simpa using h⟩
  ·rw[YA hk];refine⟨?_,λg h=>?_⟩
   ·rw[WA];exact WD _ a
   ·rw[WA]at h ⊢;rcases Wh.mp h with e|e
    ·exact Wh.mpr (.inl e)
    ·exact WD _ (b g e)
theorem C6(f:Str)(v:V):∀fs:List (Str × V),(bX f v fs).length<=fs.length+1
 | []=>by simp[bX]
 | (k,x)::r=>by
  have ih:=C6 f v r;rw[show bX f v ((k,x)::r)=(if k=f then (k,v)::r else (k,x)::bX f v r) from rfl];by_cases hk:k=f
  ·rw[YB hk,WE,WE];omega
  ·rw[YA hk,WE,WE];omega
def cM.some_of{v:V}{o:Option Value}(r:cM (some v) o):∃u,o=some u/\aN v u:=by
 cases o with
 | none=>exact (show False from r).elim
 | some u=>exact⟨u,rfl,r⟩
def cM.none_of{o:Option Value}(r:cM none o):o=none:=by
 cases o with
 | none=>rfl
 | some u=>exact (show False from r).elim
def Ot{v:V}{u:Value}(r:aN v u):W.handedIn u=true:=by
 cases v with
 | non=>cases (show u=Value.none from r);rfl
 | bl b=>cases (show u=Value.bool b from r);rfl
 | int i=>obtain⟨t,e⟩:=(show ∃t,u=Value.int i t from r);cases e;rfl
 | str x=>obtain⟨t,e⟩:=(show ∃t,u=Value.str x t from r);cases e;rfl
 | byt b=>obtain⟨t,e⟩:=(show ∃t,u=Value.bytes b t from r);cases e;rfl
 | flt b=>obtain⟨t,e⟩:=(show ∃t,u=Value.float b t from r);cases e;rfl
 | ref a=>cases (show u=Value.ref a from r);rfl
 | ty n=>cases (show u=Value.type n from r);rfl
section
variable {P:Program}{w:World}{H H':Hp}{h h':Heap}{a C dx:Addr}{fs fs':List (Str × V)}
def pO(hok:bz P w H h)(e:H a=some (.ins C dx fs)):∃mA,jh h a dx C mA/\(∀f,cM (fs.lookup f) (mA f))/\PySem.Within mA (fs.map (·.1))/\fs.length<=1000/\H dx=some (.own a):=by
 obtain⟨d,z,ne,b,mA,n,r,q⟩:=(show bw P w H h a (.ins C dx fs) from hok a _ e);exact⟨mA,⟨b,n,ne⟩,r,q,z,d⟩
end
structure cA (K:W.Frag) (C:Addr):Prop where
 pg:W.plainGet K C Str.empty=true
 hd:W.hasDictIn K C=true
 po:W.plainOver K C=true
 sa:W.findIn K (.ref C) "__setattr__" = some (some (.builtin "object.__setattr__"))
def cA.get{K:W.Frag}{C:Addr}(c:cA K C)(f:Str):W.plainGet K C f=true:=c.pg
def bL(K:W.Frag)(C:Addr)(f:Str):Prop:=W.findIn K (.ref C) f=some none
def bL.taker{K:W.Frag}{C:Addr}{f:Str}(n:bL K C f):W.takerIn K C f=some none:=by
 unfold W.takerIn;rw[show W.findIn K (.ref C) f=some none from n]
 rfl
structure VP (K:W.Frag) (C:Addr) (f:Str) (v:V) (u:Value):Prop where
 at_:W.findIn K (.ref C) f=some (some u)
 rel:aN v u
 get:W.specialIn K u "__get__" = some none
 cp:W.copiedNames.contains f=false
structure aW (K:W.Frag) (C:Addr) (m:Str) (f:Addr):Prop where
 at_:W.findIn K (.ref C) m=some (some (.ref f))
 fn:W.isFn K (.ref f)=true
 kp:W.keepIn K (.ref f)=true
section
variable {X:Cx}{pins:List (Addr × Obj)}{σ:St}{H:Hp}{s:h6}{a C dx:Addr}{fs:List (Str × V)}{f:Str}{v:V}{A:Around}{E:Value->h6->Prop}
def DN{b:Bool}{Q:Value->h6->Prop}(I:af X pins σ H s)(e:H a=some (.ins C dx fs))(c:cA X.K C)(n:bL X.K C f)(l:fs.lookup f=some v)
 (h:∀u s',af X pins σ H s'->aN v u->Q u s'):wpAny (model X.prog X.w) A (getAttr (.ref a) f b) Q E s:=by
 obtain⟨mA,O,r,_,_,_⟩:=pO I.hok e;obtain⟨u,g,d⟩:=cM.some_of (v:=v) (o:=mA f) (by rw[<- l];exact r f);exact Pt I.kIn O (c.get f) c.hd n g (Ot d) (h u _ (I.tok _) d)
def pU{m:Str}{g:Addr}{pl:Sem Bool}{Q:Value × List Value->h6->Prop}(I:af X pins σ H s)(e:H a=some (.ins C dx fs))(c:cA X.K C)(k:aW X.K C m g)(l:fs.lookup m=none)
 (h:Q (.ref g,[.ref a]) s):wpAny (model X.prog X.w) A (getMethod (.ref a) m pl) Q E s:=by
 obtain⟨mA,O,r,_,_,_⟩:=pO I.hok e;have b:mA m=none:=cM.none_of (by rw[<- l];exact r m);exact Ps I.kIn O (c.get m) k.at_ k.fn b h
def Bo{y:V}{u:Value}{Q:Unit->h6->Prop}(I:af X pins σ H s)(e:H a=some (.ins C dx fs))(c:cA X.K C)(n:bL X.K C f)(hl:fs.length<1000)(l:aN y u)
 (h:∀s',af X pins σ (upd H a (.ins C dx (bX f y fs))) s'->Q () s'):wpAny (model X.prog X.w) A (setAttr (.ref a) f u) Q E s:=by
 obtain⟨mA,O,r,j,_,i⟩:=pO I.hok e;have hz:(fs.map (·.1)).length<=sizeLine:=by rw[V4,sizeLine_eq];omega
 refine IL I.kIn O c.sa c.po n.taker c.hd j hz λh' d sb=>h _ ?_;have hd:∃o,h'.get? dx=some o:=let ⟨o,_,_,e',_⟩:=d.ns;⟨o,e'⟩
 refine I.write (x:=a) (e:=dx) (by rw[e];exact True.intro) (.inr i) (λb q hb z=>(sb.2 b hb).trans z) hd ?_;refine⟨by rw[ap O.ne];exact i,?_,O.ne,d.obj,_,d.ns,λg=>?_,λg k=>?_⟩
 ·have:=C6 f y fs;omega
 ·show cM ((bX f y fs).lookup g) (if g=f then some u else mA g);rw[uk];by_cases q:g=f
  ·rw[YB q,YB q];exact l
  ·rw[YA q,YA q];exact r g
 ·by_cases q:g=f
  ·rw[q];exact (ur f y fs).1
  ·refine (ur f y fs).2 g (j g λz=>k ?_);show (if g=f then some u else mA g)=none;rw[YA q];exact z
def af.made(I:af X pins σ H s):af X pins σ (upd (upd H s.heap.objs.size (.own (s.heap.objs.size+1))) (s.heap.objs.size+1) (.ins C s.heap.objs.size []))
 { s with heap:=(s.heap.push W.emptyDict).push (W.instObj C s.heap.objs.size) }:=by
 have c:(s.heap.push W.emptyDict).get? s.heap.objs.size=some W.emptyDict:=Ws s.heap rfl;have g:((s.heap.push W.emptyDict).push (W.instObj C s.heap.objs.size)).get? (s.heap.objs.size+1)=some (W.instObj C s.heap.objs.size):=by
  have:=Ws (s.heap.push W.emptyDict) (o:=W.instObj C s.heap.objs.size) rfl
  rwa [WZ]at this
 have d:(s.heap.push W.emptyDict).Ns s.heap.objs.size (λ_=>none):=⟨W.emptyDict,#[],_,c,rfl,(λe h=>YC h (by simp)),λ_=>rfl⟩;have f:=I.laid (a:=s.heap.objs.size) (o:=.own (s.heap.objs.size+1)) (h':=s.heap.push W.emptyDict) (t':=s.toks) (λb u q=>V9 _ q) (V5 _) ⟨_,c⟩;refine f.laid (a:=s.heap.objs.size+1) (o:=.ins C s.heap.objs.size []) (t':=s.toks) (λb u q=>V9 _ q) (W4 (WZ _ _)) ?_;have ne:s.heap.objs.size≠s.heap.objs.size+1:=Wc (Wn _);refine⟨by rw[ap ne,az],Wu _,ne,g,λ_=>none,(Heap.Ns1.of_empty d).at λo q=>V9 _ q,λ_=>True.intro,λy i=>YC rfl i⟩
def T7{prog:Program}{w:World}{env:Env}{e:Expr}{f:Str}{pos:Pos}{s:h6}{Q:Value->h6->Prop}(hb:attributeBase e f env (eval e env)=eval e env)
 (h:wpAny (model prog w) A (eval e env) (λo a=>wpAny (model prog w) A (getAttr o f true) Q E a) E s):wpAny (model prog w) A (eval (.Attribute e f pos) env) Q E s :=
 Attribute_any_ h (by rw[arm_eval_Attribute,hb])
end
def AR(K:W.Frag)(c:TE)(f:Str):TE:=λσ H Q=>c σ H λx b=>∃a C dx fs v,x=.ref a/\b a=some (.ins C dx fs)/\cA K C/\bL K C f/\fs.lookup f=some v/\Q v b
def BK(K:W.Frag)(d c:TE)(f:Str):TS:=λD σ H=>c σ H λy e=>d σ e λx b=>∃a C dx fs,x=.ref a/\b a=some (.ins C dx fs)/\cA K C/\bL K C f/\fs.length<1000 /\
 D.nx σ (upd b a (.ins C dx (bX f y fs)))
def E5(X:Cx)(b:Operator)(rd:V->V->Hp->VK->Prop):Prop :=
 ∀(a:List (Addr × Obj)) (s:h6) (σ:St) (H:Hp) (x y:V) (u v:Value) (Q:VK),af X a σ H s->aN x u->aN y v->rd x y H Q->wpAny (model X.prog X.w) X.A (inplaceOp b u v) (EP X a σ Q) X.xe s
def BJ(K:W.Frag)(g d:TE)(rd:V->V->Hp->VK->Prop)(f:Str):TS:=λD σ H=>g σ H λx c=>∃a C dx fs v,x=.ref a/\c a=some (.ins C dx fs)/\cA K C/\bL K C f/\fs.lookup f=some v /\
 d σ c λy e=>rd v y e λz b=>∃dx' fs',b a=some (.ins C dx' fs')/\fs'.length<1000/\D.nx σ (upd b a (.ins C dx' (bX f z fs')))
section
variable {X:Cx}{o e value:Expr}{f:Str}{pos pos' tpos:Pos}{ta tv:TE}
def Lv(k:PE X e ta)(hb:attributeBase e f X.env (eval e X.env)=eval e X.env):PE X (.Attribute e f pos) (AR X.K ta f):=by
 intro b s σ H Q I h;refine T7 hb (av (k b s σ H _ I h) λu s1 ⟨x,o,d,j,a,C,dx,fs,v,ex,i,c,n,l,q⟩=>?_);subst ex;obtain rfl:u=Value.ref a:=j;exact DN d i c n l λp r m g=>⟨v,o,m,g,q⟩
def KS(d:PE X o ta)(j:PE X value tv)(hs:swapsWith value (some (.Attribute o f pos')) pos.line X.env=pure false):PS X (.Assign [.Attribute o f pos'] value pos) (BK X.K ta tv f):=by
 intro b s σ H D I h;refine plainObj_wpAny_Assign_Attribute (av (j b s σ H _ I h) λu s1 ⟨y,m,g,z,q⟩=>av (d b s1 σ m _ g q) λe F ⟨x,B,r,p,a,C,dx,fs,ex,k,c,n,l,v⟩=>?_) hs;subst ex;obtain rfl:e=Value.ref a:=p;exact Bo r k c n l z λG i=>⟨σ,_,i,v⟩
def KR{g:Operator}{rd:V->V->Hp->VK->Prop}(i:PE X o ta)(Y:PE X value tv)(e:E5 X g rd):PS X (.AugAssign (.Attribute o f tpos) g value pos) (BJ X.K ta tv rd f):=by
 intro b s σ H D I h;refine wpAny_AugAssign_AttributeAny (av (i b s σ H _ I h) λN s1 ⟨x,L,j,rx,a,C,dx,fs,v,ex,ea,c,n,l,q⟩=>?_);subst ex;obtain rfl:N=Value.ref a:=rx;refine DN j ea c n l λu s2 F W=>av (Y b s2 σ L _ F q) λp S ⟨y,O,k,M,B⟩=>av (e b S σ O v y u p _ k W M B) λw4 s4 ⟨z,H3,J,r,a3,m,d,G,R⟩=>?_;exact Bo J d c n G r λs5 U=>⟨σ,_,U,R⟩
def BU:V->V->Hp->VK->Prop:=λx y H Q=>∃i j,x=.int i/\y=.int j/\Q (.int (i+j)) H
def Ob:E5 X .Add BU:=by
 rintro a s σ H x y u v Q I b c ⟨i,j,rfl,rfl,q⟩;obtain⟨t,rfl⟩:=(show ∃t,u=Value.int i t from b);obtain⟨t',rfl⟩:=(show ∃t',v=Value.int j t' from c);exact PyProof.Rows.iadd_int ⟨.int (i+j),H,I.tok _,⟨_,Z⟩,q⟩
end
section
variable {X:Cx}{pins:List (Addr × Obj)}{σ:St}{H:Hp}{s:h6}{A:Around}{E:Value->h6->Prop}{Q:Value->h6->Prop}{c:Value}{b:Bool}
inductive cj (K:W.Frag) (H:Hp):V->Value->Prop where
 | non:cj K H .non (.type "NoneType")
 | bl (x:Bool):cj K H (.bl x) (.type "bool")
 | int (i:Int):cj K H (.int i) (.type "int")
 | str (x:Str):cj K H (.str x) (.type "str")
 | flt (x:UInt64):cj K H (.flt x) (.type "float")
 | lst {a:Addr} {xs:List V} (e:H a=some (.lst xs)):cj K H (.ref a) (.type "list")
 | frz {a:Addr} {o:Obj} {xs:List V} (e:H a=some (.frz o (.lst xs))):cj K H (.ref a) (.type "list")
 | tup {a:Addr} {xs:List V} (e:H a=some (.tup xs)):cj K H (.ref a) (.type "tuple")
 | dK {a:Addr} {kvs:List (aS × V)} (e:H a=some (.dK kvs)):cj K H (.ref a) (.type "dict")
 | dT {a:Addr} {kvs:List (List aS × V)} (e:H a=some (.dT kvs)):cj K H (.ref a) (.type "dict")
 | ins {a C dx:Addr} {fs:List (Str × V)} (e:H a=some (.ins C dx fs)) (cl:cA K C) (ha:W.findIn K (.ref C) "__class__" = some (some (.builtin "object.__class__")))
  (hn:W.specialIn K (.builtin "object.__class__") "__get__" = some (some (.builtin "getset_descriptor.__get__"))) (htk:W.takesIn K (.builtin "object.__class__")=some true)
  (hm:W.mroIn K C (.type "object")=some true):cj K H (.ref a) (.ref C)
def De{x:V}{u t:Value}(I:af X pins σ H s)(d:aN x u)(ty:cj X.K H x t)(e:W.kitOne X.K t c=some b)(h:∀tk,Q (.bool b) { s with toks:=tk }) :
 wpAny (model X.prog X.w) A (call (.builtin "isinstance") [u,c]) Q E s:=by
 cases ty with
 | non=>cases (show u=Value.none from d);exact W.kia_one W.kitx_none I.kIn True.intro e (λz=>nomatch z) h
 | bl y=>cases (show u=Value.bool y from d);exact W.kia_one W.kitx_bool I.kIn True.intro e (λz=>nomatch z) h
 | int i=>obtain⟨t,q⟩:=(show ∃t,u=Value.int i t from d);cases q;exact W.kia_one W.kitx_int I.kIn True.intro e (λz=>nomatch z) h
 | str y=>obtain⟨t,q⟩:=(show ∃t,u=Value.str y t from d);cases q;exact W.kia_one W.kitx_str I.kIn True.intro e (λz=>nomatch z) h
 | flt y=>obtain⟨t,q⟩:=(show ∃t,u=Value.float y t from d);cases q;exact W.kia_one W.kitx_float I.kIn True.intro e (λz=>nomatch z) h
 | @lst a xs ea =>
  cases (show u=Value.ref a from d);obtain⟨_,_,n,_,f⟩:=(show bw X.prog X.w H s.heap a (.lst xs) from I.hok a _ ea);exact W.kia_one W.kitx_list I.kIn ⟨_,f,rfl⟩ e (λz=>nomatch z) h
 | @frz a ob xs ea =>
  cases (show u=Value.ref a from d);obtain⟨_,_,_,n,_,f⟩:=(show bw X.prog X.w H s.heap a (.frz ob (.lst xs)) from I.hok a _ ea);exact W.kia_one W.kitx_list I.kIn ⟨_,f,rfl⟩ e (λz=>nomatch z) h
 | @tup a xs ea =>
  cases (show u=Value.ref a from d);obtain⟨_,_,_,p⟩:=(show bw X.prog X.w H s.heap a (.tup xs) from I.hok a _ ea);obtain⟨o,f,g,_⟩:=p;exact W.kia_one W.kitx_tuple I.kIn ⟨o,f,g⟩ e (λz=>nomatch z) h
 | @dK a kvs ea =>
  cases (show u=Value.ref a from d);obtain⟨_,_,vs,_,p⟩:=(show bw X.prog X.w H s.heap a (.dK kvs) from I.hok a _ ea);obtain⟨o,j,k,f,g,_⟩:=p;exact W.kia_one W.kitx_dict I.kIn ⟨o,f,g.1⟩ e (λz=>nomatch z) h
 | @dT a kvs ea =>
  cases (show u=Value.ref a from d);obtain⟨_,_,xs,_,o,j,k,f,g,_⟩:=(show bw X.prog X.w H s.heap a (.dT kvs) from I.hok a _ ea);exact W.kia_one W.kitx_dict I.kIn ⟨o,f,g.1⟩ e (λz=>nomatch z) h
 | @ins a C dx fs ea cl ha hn htk hm =>
  cases (show u=Value.ref a from d);obtain⟨mA,O,_⟩:=pO I.hok ea;obtain⟨l,J,_⟩:=O.look;exact W.kia_one (W.kitx_own (cl.get _) cl.hd ha hn htk hm) I.kIn J e (λz=>nomatch z) h
end
structure bt (k:Nat) (A:Around):Prop where
 hd:A.handled=none
 dp:A.depth+3*k+5<recursionLimit
 un:A.units+16*k+200<cLine
def bt.mono{j k:Nat}{A:Around}(r:bt k A)(h:j<=k):bt j A:=⟨r.hd,by have:=r.dp;omega,by have:=r.un;omega⟩
def bt.deeper{k:Nat}{A:Around}(r:bt (k+1) A)(env:Env):bt k (A.deeper env) :=
 ⟨r.hd,by have:=r.dp;show A.depth+1+3*k+5<_;omega,by have:=r.un;show A.units+3+16*k+200<_;omega⟩
def CK {A:Around} {C:Addr} {us:List Value} {a:List (Str × Value)}:(A.under (.builtin "type.__call__" ⟨.ref C::us,a⟩)).depth=A.depth+1:=by
 first|rfl|simp[Around.under,Code.weight,Code.isCreation,Code.isGuard,Code.isCaller,Code.frames,Code.isFrame,guardIds]
def CJ {A:Around} {C:Addr} {us:List Value} {a:List (Str × Value)}:(A.under (.builtin "type.__call__" ⟨.ref C::us,a⟩)).units=A.units+1:=by
 first|rfl|simp[Around.under,Code.cUnits,Code.frames,Code.isFrame]
def bt.make {k:Nat} {A:Around} (r:bt (k+1) A) (C:Addr) (us:List Value) (a:List (Str × Value)):bt k (A.under (.builtin "type.__call__" ⟨.ref C::us,a⟩)) :=
 ⟨r.hd,by have:=r.dp;rw[CK];omega,by have:=r.un;rw[CJ];omega⟩
def bt.depth{k:Nat}{A:Around}(r:bt k A):A.depth<recursionLimit:=by have:=r.dp;omega
def bt.units{k:Nat}{A:Around}(r:bt k A):A.units+64<cLine:=by have:=r.un;omega
def oB:TA:=λ_ H Q=>Q [] H
def tE(b:TE)(a:TA):TA:=λσ H Q=>b σ H λx d=>a σ d λxs c=>Q (x::xs) c
section
variable {X:Cx}{e:Expr}{es:List Expr}{te:TE}{t:TA}{pos:Pos}
def Cg:PA X [] oB:=λ_ _ _ _ H Q I h=>Calls.spliced_nil ⟨[],H,I,.nil,h⟩
def LM(b:PE X e te)(hr:PA X es t)(hs:starEach (e::es) X.env=(false,eval e X.env)::starEach es X.env:=by rfl):PA X (e::es) (tE te t):=by
 intro pos a s σ H Q I h;rw[hs];show wpAny _ _ (spliced ((false,eval e X.env)::backTo pos (starEach es X.env))) _ _ s;refine Calls.spliced_cons (av (b a s σ H _ I h) λu s1 ⟨x,l,d,c,i⟩=>?_);exact av (hr pos a s1 σ l _ d i) λus m ⟨xs,f,j,k,g⟩=>⟨x::xs,f,j,.cons c k,g⟩
end
abbrev Sp:=List V->Hp->VK->XK->Prop
abbrev fE:=List Env->Hp->h6->XK->Value->h6->Prop
structure gH (P:Program) (w:World) (K:W.Frag) (mg:Str->Option Value) (base:Heap) (A:Around) (outer:List Env) (s:h6) (H:Hp):Prop where
 frames:A.frames=some outer
 mod:Mod K mg base
 bs:∀b o,base.get? b=some o->s.heap.get? b=some o/\H b=none
 bsz:base.objs.size<=s.heap.objs.size
 funs:s.heap.FunFrames base outer
 frf:∀b∈cw outer,H b=none
 hok:bz P w H s.heap
 bare:AllBare s.gens
def CE(outer:List Env)(P:Program)(w:World)(H:Hp)(s:h6)(Q:VK)(u:Value)(a:h6):Prop :=
 ∃v H',a.os=s.os/\AllBare a.gens/\Un (cw outer) [] H H' s.heap a.heap/\bz P w H' a.heap/\aN v u/\Q v H'
def CR(CX:fE)(outer:List Env)(P:Program)(w:World)(H:Hp)(s:h6)(Q:VK)(E:XK)(r:Result)(a:h6):Prop :=
 match r with
 | .ok (.ret u)=>CE outer P w H s Q u a
 | .ok _=>False
 | .error e=>CX outer H s E e a
structure bn (P:Program) (w:World) (K:W.Frag) (mg:Str->Option Value) (base:Heap) (CX:fE) (k:Nat) (f:Addr) (fd:FuncData) (ps:List Str) (sp:Sp):Prop where
 len:∀vs H Q E,sp vs H Q E->vs.length=ps.length
 run:∀(A:Around) (outer:List Env) (s:h6) (H:Hp) (args:Args) (us:List Value) (vs:List V) (Q:VK) (E:XK),bt k A->gH P w K mg base A outer s H->BindsTo s fd args (ps.zip us)->aA vs us->sp vs H Q E ->
  codeAny (model P w) A (.call (.ref f) args) (CR CX outer P w H s Q E) s
def gH.make{P:Program}{w:World}{K:W.Frag}{mg:Str->Option Value}{base:Heap}{A:Around}{outer:List Env}{s:h6}{H:Hp}(e:gH P w K mg base A outer s H)(C:Addr)(us:List Value)(a:List (Str × Value)) :
 gH P w K mg base (A.under (.builtin "type.__call__" ⟨.ref C::us,a⟩)) outer s H:=⟨by first|exact e.frames|(simpa [Around.under,Code.envs,Code.isFrame,pushEnvs] using e.frames),e.mod,e.bs,e.bsz,e.funs,e.frf,e.hok,e.bare⟩
section
variable {X:Cx}{pins:List (Addr × Obj)}{σ:St}{H:Hp}{s s':h6}
def af.env0(I:af X pins σ H s):gH X.prog X.w X.K X.mg X.base X.A X.stack s H :=
 ⟨I.ok.frames,I.ok.mod,I.bs,Wq I.ok.bsz I.sz,I.stack,I.stkFree,I.hok,I.bare⟩
def af.after{Q:VK}{u:Value}(I:af X pins σ H s)(h:CE X.stack X.prog X.w H s Q u s'):EP X pins σ Q u s':=by
 obtain⟨v,c,os,bare,un,hok,r,q⟩:=h;obtain⟨e,g,d,t,a⟩:=s';obtain rfl:a=s.os:=os;exact⟨v,c,I.call (h':=e) (g':=g) (d':=d) (t':=t) (ch:=[]) un hok bare (λb z=>YC z (by simp)),r,q⟩
end
def jn(sp:Sp)(a:List V)(E:XK)(t:TA):TE:=λσ H Q=>t σ H λvs b=>sp (vs++a) b Q E
def jm(C:Addr)(m:Str)(sp:Sp)(b:List V)(E:XK)(d:TE)(t:TA):TE:=λσ H Q=>d σ H λx c=>∃a dx fs,x=.ref a/\c a=some (.ins C dx fs)/\fs.lookup m=none /\
 t σ c λvs e=>sp (x::(vs++b)) e Q E
def AN(C:Addr)(sp:Sp)(b:List V)(E:XK)(t:TA):TE:=λσ H Q=>t σ H λvs a=>∀x dx,a x=none->a dx=none->dx≠x ->
 sp (.ref x::(vs++b)) (upd (upd a dx (.own x)) x (.ins C dx [])) (λv c=>v=.non/\Q (.ref x) c) E
def ao(K:W.Frag)(a:FuncData)(ps:List Str)(ds:List Value):Prop :=
 ∀(s:h6) (us:List Value),K.In s.heap->(us++ds).length=ps.length->BindsTo s a ⟨us,[]⟩ (ps.zip (us++ds))
def ao.all{K:W.Frag}{a:FuncData}{ps:List Str}(h:∀us:List Value,us.length=ps.length->bindArgs a ⟨us,[]⟩=pure (ps.zip us)):ao K a ps []:=λs us _ hl=>by
 rw[Wv]at hl ⊢;exact .of_eq (h us hl)
def iE(CX:fE)(X:Cx)(E:XK):Prop:=∀(a:List (Addr × Obj)) (σ:St) (H:Hp) (s:h6) (e:Value) (b:h6),af X a σ H s->CX X.stack H s E e b->X.xe e b
section
variable {X:Cx}{CX:fE}{k:Nat}{f C:Addr}{fd:FuncData}{ps:List Str}{sp:Sp}{dvs:List V}{ds:List Value}{E:XK}{x m:Str}{p pos apos:Pos}{e o:Expr}{es:List Expr}{ta:TE}{t:TA}
def oR{a:List (Addr × Obj)}{σ:St}{H:Hp}{s:h6}{Q:VK}{us:List Value}{vs:List V}(F:bn X.prog X.w X.K X.mg X.base CX k f fd ps sp)(hr:bt k X.A)(hb:ao X.K fd ps ds)(hd:aA dvs ds)(hx:iE CX X E)
 (I:af X a σ H s) (r:aA vs us) (h:sp (vs++dvs) H Q E):wpAny (model X.prog X.w) X.A (call (.ref f) us) (EP X a σ Q) X.xe s:=by
 have c:aA (vs++dvs) (us++ds):=r.append hd;have hl:(us++ds).length=ps.length:=by rw[<- c.length];exact F.len _ _ _ _ h
 refine wpAny_call (codeAny_mono (F.run X.A X.stack s H ⟨us,[]⟩ (us++ds) (vs++dvs) Q E hr I.env0 (hb s us I.kIn hl) c h) λr d b=>?_);cases r with
 | error e=>exact hx a σ H s e d I b
 | ok fl =>
  cases fl with
  | ret u=>exact I.after b
  | next=>exact False.elim b
  | brk=>exact False.elim b
  | cont=>exact False.elim b
def LF(F:bn X.prog X.w X.K X.mg X.base CX k f fd ps sp)(hr:bt k X.A)(j:Gl X x)(hm:X.mg x=some (.ref f))(i:W.keepIn X.K (.ref f)=true)(hb:ao X.K fd ps ds)(hd:aA dvs ds)(hx:iE CX X E)
 (g:PA X (e::es) t) (b:(x == ("__debug__" : Str))=false:=by decide) (l:starEach (e::es) X.env=(false,eval e X.env)::starEach es X.env:=by rfl) (c:(backTo pos (starEach es X.env)).any (·.1)=false:=by rfl) :
 PE X (.Call (.Name x p) (e::es) [] pos) (jn sp dvs E t):=by
 intro a s σ H Q I h;refine wpAny_Call_Name_kw (hG I j hm ?_ b);refine W.callWith_K (h₀:=X.base) I.ok.mod.kin i (av (g pos a s σ H _ I h) λus s1 ⟨vs,m,d,r,q⟩=>⟨d.kIn,?_⟩) l c;exact oR F hr hb hd hx d r q
def Cc{pl:Sem Bool}(y:PE X o ta)(c:cA X.K C)(hm:aW X.K C m f)(F:bn X.prog X.w X.K X.mg X.base CX k f fd ps sp)(hr:bt k X.A)(hb:ao X.K fd ps ds)(hd:aA dvs ds)(hx:iE CX X E)(j:PA X (e::es) t)
 (hst:starEach (e::es) X.env=(false,eval e X.env)::starEach es X.env:=by rfl) (d:(backTo pos (starEach es X.env)).any (·.1)=false:=by rfl)
 (ht:eval (.Call (.Attribute o m apos) (e::es) [] pos) X.env=(do
   let ov <- eval o X.env
   standAt apos.atName
   let (f,first) <- holding [ov] (getMethod ov m pl)
   callWith pos f first (backTo pos (starEach (e::es) X.env)) (backToKw pos (keywordEach [] X.env))):=by rfl) :
 PE X (.Call (.Attribute o m apos) (e::es) [] pos) (jm C m sp dvs E ta t):=by
 intro b s σ H Q I h;refine W.methodCall_KW (pl:=pl) (av (y b s σ H _ I h) λu s1 ⟨x,z,g,v,a,dx,fs,ex,n,l,q⟩=>?_) ht;subst ex;obtain rfl:u=Value.ref a:=v;refine pU g n c hm l ?_;refine W.callWith_K (first:=[.ref a]) (h₀:=X.base) I.ok.mod.kin hm.kp (av (j pos b s1 σ z _ g q) λus D ⟨vs,B,i,r,p⟩=>⟨i.kIn,?_⟩) hst d;exact oR (us:=.ref a::us) (vs:=.ref a::vs) F hr hb hd hx i (.cons Z r) p
def Lq{pl:Sem Bool}(i:PE X o ta)(c:cA X.K C)(hm:aW X.K C m f)(F:bn X.prog X.w X.K X.mg X.base CX k f fd ps sp)(hr:bt k X.A)(hb:ao X.K fd ps ds)(hd:aA dvs ds)(hx:iE CX X E)
 (ht:eval (.Call (.Attribute o m apos) [] [] pos) X.env=(do
   let ov <- eval o X.env
   standAt apos.atName
   let (f,first) <- holding [ov] (getMethod ov m pl)
   callWith pos f first (backTo pos (starEach [] X.env)) (backToKw pos (keywordEach [] X.env))):=by rfl) :
 PE X (.Call (.Attribute o m apos) [] [] pos) (jm C m sp dvs E ta oB):=by
 intro b s σ H Q I h;refine W.methodCall_KW (pl:=pl) (av (i b s σ H _ I h) λu s1 ⟨x,j,d,g,a,dx,fs,ex,e,l,q⟩=>?_) ht;subst ex;obtain rfl:u=Value.ref a:=g;refine pU d e c hm l ?_;exact W.callWith_K0 (first:=[.ref a]) d.kIn hm.kp (oR (us:=[.ref a]) (vs:=[.ref a]) F hr hb hd hx d (.cons rfl .nil) q)
structure Mk (K:W.Frag) (C f:Addr):Prop where
 makes:W.makesIn K C=true
 init:W.findIn K (.ref C) "__init__" = some (some (.ref f))
 fn:W.isFn K (.ref f)=true
 kp:W.keepIn K (.ref C)=true
def JX{b:List (Addr × Obj)}{σ:St}{H:Hp}{s:h6}{Q:VK}{us:List Value}{vs:List V}(M:Mk X.K C f)(F:bn X.prog X.w X.K X.mg X.base CX k f fd ps sp)(hr:bt (k+1) X.A)(hb:ao X.K fd ps ds)(hd:aA dvs ds)
 (hx:iE CX X E) (I:af X b σ H s) (r:aA vs us)
 (h:∀x dx,H x=none->H dx=none->dx≠x->sp (.ref x::(vs++dvs)) (upd (upd H dx (.own x)) x (.ins C dx [])) (λv m=>v=.non/\Q (.ref x) m) E) :
 wpAny (model X.prog X.w) X.A (call (.ref C) us) (EP X b σ Q) X.xe s:=by
 have d:=h (s.heap.objs.size+1) s.heap.objs.size (I.hok.fresh (WU _)) (I.hok.fresh (V5 _)) (Wc (Wn _));have c:=af.made (C:=C) I;have g:aA (V.ref (s.heap.objs.size+1)::(vs++dvs)) (Value.ref (s.heap.objs.size+1)::(us++ds)):=.cons rfl (r.append hd);have hl:(Value.ref (s.heap.objs.size+1)::us++ds).length=ps.length:=by
  have e:=g.length;rw[F.len _ _ _ _ d]at e;exact e.symm
 refine wpAny_call (NH (f:=f) I.kIn M.makes M.init (beq_iff_eq.mp M.fn) (codeAny_mono (F.run _ X.stack _ _ ⟨Value.ref (s.heap.objs.size+1)::us,[]⟩ (Value.ref (s.heap.objs.size+1)::(us++ds)) _ _ E (hr.make C us [])
  (c.env0.make C us []) (hb _ (Value.ref (s.heap.objs.size+1)::us) c.kIn hl) g d) λr o a=>?_))
 cases r with
 | error e=>exact hx b σ _ _ e o c a
 | ok fl =>
  cases fl with
  | ret u =>
   obtain⟨v,j,l,p,i,n⟩:=c.after a;subst i;exact⟨p,⟨V.ref (s.heap.objs.size+1),j,l,Z,n⟩⟩
  | next=>exact False.elim a
  | brk=>exact False.elim a
  | cont=>exact False.elim a
def Lr(M:Mk X.K C f)(F:bn X.prog X.w X.K X.mg X.base CX k f fd ps sp)(hr:bt (k+1) X.A)(i:Gl X x)(hm:X.mg x=some (.ref C))(hb:ao X.K fd ps ds)(hd:aA dvs ds)(hx:iE CX X E)
 (g:PA X (e::es) t) (b:(x == ("__debug__" : Str))=false:=by decide) (j:starEach (e::es) X.env=(false,eval e X.env)::starEach es X.env:=by rfl) (c:(backTo pos (starEach es X.env)).any (·.1)=false:=by rfl) :
 PE X (.Call (.Name x p) (e::es) [] pos) (AN C sp dvs E t):=by
 intro a s σ H Q I h;refine wpAny_Call_Name_kw (hG I i hm ?_ b);refine W.callWith_K (h₀:=X.base) I.ok.mod.kin M.kp (av (g pos a s σ H _ I h) λus s1 ⟨vs,l,d,r,q⟩=>⟨d.kIn,?_⟩) j c;exact JX M F hr hb hd hx d r q
end
section
variable {X:Cx}{CX:fE}{k:Nat}{f C:Addr}{fd:FuncData}{ps ks:List Str}{sp:Sp}{E:XK}{x m:Str}{p pos apos kpos:Pos}{e o:Expr}{es:List Expr}{kws:List Keyword}{te ta:TE}{t tk:TA}{nm:Option Str}
structure VH (K:W.Frag) (fd:FuncData) (ps ks:List Str) (g:List Value->List Value->List Value) (gV:List V->List V->List V):Prop where
 to:∀(s:h6) (us ws:List Value),K.In s.heap->(g us ws).length=ps.length->BindsTo s fd ⟨us,ks.zip ws⟩ (ps.zip (g us ws))
 rel:∀ {vs:List V} {us:List Value} {zs:List V} {ws:List Value},aA vs us->aA zs ws->aA (gV vs zs) (g us ws)
variable {g:List Value->List Value->List Value}{gV:List V->List V->List V}
end
structure ay (N P:List Str) (sc:Scope):Prop where
 kind:sc.kind=.function
 co:sc.isCoroutine=false
 gen:sc.isGenerator=false
 nd:N.Nodup
 pre:N.take P.length=P
 par:∀x∈P,sc.names.lookup x=some .local\/sc.names.lookup x=some .cell
 nofree:∀y∈sc.names,y.2 ≠ .free
theorem EK{kindOf:Str->Option NameKind}{x:Str}:∀ {binds:List (Str × Value)} {m:Str->Option Value},(∀v,(x,v)∉binds)->bindL kindOf binds m x=m x
 | [],_,_=>rfl
 | (n,v)::r,m,h=>by
  unfold bindL;rw[EK λw hw=>h w (WD _ hw)]
  split
  ·have:x≠n:=by rintro rfl;exact h v WP
   simp[this]
  ·rfl
theorem EM{kindOf:Str->Option NameKind}{x:Str}:∀ {binds:List (Str × Value)} {m:Str->Option Value},(∀v,(x,v)∉binds)->bindC kindOf binds m x=m x
 | [],_,_=>rfl
 | (n,v)::r,m,h=>by
  unfold bindC;rw[EM λw hw=>h w (WD _ hw)]
  split
  ·rfl
  ·have:x≠n:=by rintro rfl;exact h v WP
   simp[this]
theorem EL{kindOf:Str->Option NameKind}{x:Str}{v:Value}:∀ {P:List Str} {vs:List Value} {i:Nat} {m:Str->Option Value},P.Nodup->P[i]? = some x->vs[i]? = some v->kindOf x=some .local ->
 bindL kindOf (P.zip vs) m x=some v
 | [],_,_,_,_,h,_,_=>by simp at h
 | _::_,[],_,_,_,_,h,_=>by simp at h
 | p::P,w::vs,0,m,nd,h1,h2,hk=>by
  simp at h1 h2;subst h1;subst h2;show bindL kindOf ((p,w)::P.zip vs) m p=_;unfold bindL;rw[EK λv a=>(Xj.mp nd).1 (Xk a).1,YB hk];simp
 | p::P,w::vs,i+1,m,nd,h1,h2,hk=>by
  show bindL kindOf ((p,w)::P.zip vs) m x=_;unfold bindL;exact EL (i:=i) (Xj.mp nd).2 (by simpa using h1) (by simpa using h2) hk
theorem EN{kindOf:Str->Option NameKind}{x:Str}{v:Value}:∀ {P:List Str} {vs:List Value} {i:Nat} {m:Str->Option Value},P.Nodup->P[i]? = some x->vs[i]? = some v->kindOf x≠some .local ->
 bindC kindOf (P.zip vs) m x=some v
 | [],_,_,_,_,h,_,_=>by simp at h
 | _::_,[],_,_,_,_,h,_=>by simp at h
 | p::P,w::vs,0,m,nd,h1,h2,hk=>by
  simp at h1 h2;subst h1;subst h2;show bindC kindOf ((p,w)::P.zip vs) m p=_;unfold bindC;rw[EM λv a=>(Xj.mp nd).1 (Xk a).1,YA hk];simp
 | p::P,w::vs,i+1,m,nd,h1,h2,hk=>by
  show bindC kindOf ((p,w)::P.zip vs) m x=_;unfold bindC;exact EN (i:=i) (Xj.mp nd).2 (by simpa using h1) (by simpa using h2) hk
def cU(N:List Str)(vs:List V):St:=vs.map some++List.replicate (N.length-vs.length) none
def d7(CX:fE)(P:Program)(w:World)(K:W.Frag)(mg:Str->Option Value)(base:Heap)(N:List Str)(qual:Str)(scope:Scope)(f:Addr)(cd:Value)(A:Around)(outer:List Env)(s:h6)(H:Hp)(E:XK):Cx where
 prog:=P
 w:=w
 K:=K
 mg:=mg
 base:=base
 A:=A.deeper (envOfC qual scope s.heap.objs.size f cd)
 N:=N
 s₀:=s
 H₀:=H
 env:=envOfC qual scope s.heap.objs.size f cd
 outer:=outer
 stack:=envOfC qual scope s.heap.objs.size f cd::outer
 ex:=[]
 calm:=true
 fn:=λ_=>true
 pn:=[]
 xe:=λe b=>wpAny (model P w) (A.deeper (envOfC qual scope s.heap.objs.size f cd)) (leaving (envOfC qual scope s.heap.objs.size f cd) e) (λ_ a=>CX outer H s E e a) (λe' a=>CX outer H s E e' a) b
def Ez{a:Scope}{n:Nat}{x:Str}(h:a.names.lookup x=some .cell):∃c,(cellsFrom n a.names []).lookup x=some c:=by
 have q:=W.cellsFrom_some a.names n [] (.inl h);exact Yg.mp q
def Dh{CX:fE}{P:Program}{w:World}{K:W.Frag}{mg:Str->Option Value}{base:Heap}{N ps:List Str}{qual:Str}{scope:Scope}{f:Addr}{cd:Value}{A:Around}{outer:List Env}{s s1:h6}{H:Hp}{E:XK}{us:List Value}{vs:List V}
 (S:ay N ps scope) (hd:A.handled=none) (g:gH P w K mg base A outer s H) (hl:vs.length=ps.length) (r:aA vs us)
 (x:InCallC s s.heap.objs.size (bindL (envOfC qual scope s.heap.objs.size f cd).kindOf (ps.zip us) λ_=>none) (cellsFrom (s.heap.objs.size+1) scope.names []) (bindC (envOfC qual scope s.heap.objs.size f cd).kindOf (ps.zip us) λ_=>none) s1) :
 af (d7 CX P w K mg base N qual scope f cd A outer s H E) [] (cU N vs) H s1:=by
 have F:ps.length<=N.length:=by have:=congrArg List.length S.pre;rw[Wa]at this;omega
 obtain⟨o,I,rfl,C⟩:=x.done;have noA:∀b:Addr,b∉(d7 CX P w K mg base N qual scope f cd A outer s H E).ex:=λb z=>YC (show b∈([]:List Addr) from z) (by simp);refine⟨⟨g.mod,S.kind,rfl,rfl,V5 _,λy z c o d=>?_,λy j=>?_,λy c _ h=>?_,λ_=>hd,Around.frames_deeper g.frames,.inr ⟨rfl,rfl⟩,λb z=>YC z (noA b),g.bs,g.bsz,λb _ _=>noA b,λb z=>YC z (noA b),g.funs,g.frf⟩,
  rfl,g.bare,Un.kept C,⟨_,x.toInCall.ns,λi y v o d J=>?_⟩,λy c h=>⟨_,x.cell y c h⟩,g.hok.fresh (V5 _),λy c h=>?_,λp l=>YC (show p∈([]:List (Addr × Obj)) from l) (by simp),g.hok.kept C,?_⟩
 ·exact name_of_addr x.apart (Xl o) (Xl d)
 ·have j:scope.names.lookup y=some .cell\/scope.names.lookup y=some .free:=j;rcases j with j|j
  ·exact Ez j
  ·exact YC Z (S.nofree _ (Xl j))
 ·exact XI (x.above y c (Xl h))
 ·have m:i<vs.length:=by
   unfold cU at d;by_cases m:i<vs.length
   ·exact m
   ·rw[W5 (by simpa using m)]at d;rw[Yh]at d
    split at d<;>cases d
  have D:vs[i]? = some v:=by
   unfold cU at d;rw[W6 (by simpa using m),We]at d;cases e:vs[i]? with
   | none=>rw[e]at d;cases d
   | some a=>rw[e]at d;cases d;rfl
  obtain⟨u,B,G⟩:=r.get D;have l:ps[i]? = some y:=by
   rw[<- S.pre,XA (by omega)];exact o
  have ndP:ps.Nodup:=by rw[<- S.pre];exact S.nd.sublist (List.take_sublist _ _)
  refine⟨u,G,?_⟩;rcases S.par y (Wo l) with k|k
  ·exact .inl ⟨k,EL ndP l B k⟩
  ·obtain⟨c,e⟩:=Ez (n:=s.heap.objs.size+1) k;refine .inr ⟨.inl k,c,e,?_⟩;have q:=x.cell y c e;rw[EN ndP l B (by show scope.names.lookup y≠_;rw[k];decide)]at q;exact q
 ·exact g.hok.fresh (XI (x.above y c (Xl h)))
 ·unfold cU;show _=N.length;rw[Wb,V4,XJ];omega
def p7{CX:fE}{P:Program}{w:World}{K:W.Frag}{mg:Str->Option Value}{base:Heap}{k:Nat}{f:Addr}{name qual:Str}{params:Arguments}{body:List Stmt}{scope:Scope}{dV kV i L a ct M:Value}{G Y:Option Addr}
 {B:Array (Option Value)} {N ps:List Str} {sp:Sp} (lk:K.lookup f=some ⟨M,Y,.func (W.fnOf name qual params body scope dV kV i L G a ct),B⟩) (p:W.codeIn K a qual=true) (S:ay N ps scope)
 (len:∀vs H Q E,sp vs H Q E->vs.length=ps.length)
 (d:∀(A:Around) (outer:List Env) (s:h6) (H:Hp) (vs:List V) (Q:VK) (E:XK),bt k (A.deeper (envOfC qual scope s.heap.objs.size f a))->sp vs H Q E ->
   ∃t,eg (d7 CX P w K mg base N qual scope f a A outer s H E) body t/\t { nx:=λ_ c=>Q .non c,rt:=Q } (cU N vs) H) :
 bn P w K mg base CX (k+1) f (W.fnOf name qual params body scope dV kV i L G a ct) ps sp:=by
 refine⟨len,λA outer s H args us vs Q E hr j hb r h=>?_⟩;have hl:=len _ _ _ _ h;have F:K.In s.heap:=j.mod.kin.keeps λb o e=>(j.bs b o e).1;have D:s.heap.NoLimit:=j.mod.nolimit.keeps λb o e=>(j.bs b o e).1;have g:∀y∈ps.zip us,scope.names.lookup y.1=some .local\/(scope.names.lookup y.1=some .cell/\((cellsFrom (s.heap.objs.size+1) scope.names []).lookup y.1).isSome=true):=λ⟨n,v⟩ U=>by
  rcases S.par n (Xk U).1 with q|q
  ·exact .inl q
  ·exact .inr ⟨q,W.cellsFrom_some _ _ _ (.inl q)⟩
 refine codeAny_call_function hr.depth (F _ _ lk) Z S.co S.gen Z (W.codeRec_of F p) (hb _ _ _ _ ?_);refine wpAny_newFunctionEnv_cells S.kind g λenv R s1 x=>?_;subst R;refine⟨D.keeps x.toInCall.keep,codeAny_func ?_⟩;obtain⟨t,ht,O⟩:=d A outer s H vs Q E (hr.deeper _) h;have I:af (d7 CX P w K mg base N qual scope f a A outer s H E) [] (cU N vs) H s1:=Dh S hr.hd j hl r x;refine wpAny_mono (ht [] s1 (cU N vs) H _ I O) (λfl C hs=>?_) λe C hs=>hs;have l:∀ {m:St} {c:Hp} {v:V} {u:Value},af (d7 CX P w K mg base N qual scope f a A outer s H E) [] m c C->aN v u->Q v c->CE outer P w H s Q u C :=
  λ{m c v u} J z q=>⟨v,c,J.os,J.bare,J.base,J.hok,z,q⟩
 cases fl with
 | ret u =>
  obtain⟨v,m,c,J,z,q⟩:=hs;exact l J z q
 | next =>
  obtain⟨m,c,J,q⟩:=hs;exact l (v:=V.non) (u:=Value.none) J Z q
 | brk =>
  obtain⟨_,_,_,q⟩:=hs;exact False.elim q
 | cont =>
  obtain⟨_,_,_,q⟩:=hs;exact False.elim q
section
variable {X:Cx}{x:Str}{p pos:Pos}{e:Expr}{es:List Expr}{t:TA}{id T:String}{r:List V->Hp->VK->Prop}
def jo(r:List V->Hp->VK->Prop)(t:TA):TE:=λσ H Q=>t σ H λvs a=>r vs a Q
def LE (m:cB X (.builtin id) r) (j:Gl X x) (hm:X.mg x=none) (i:bootBuiltins x=some (.builtin id)) (d:PA X (e::es) t) (o:x ≠ "__name__":=by decide) (b:(x == ("__debug__" : Str))=false:=by decide)
 (l:starEach (e::es) X.env=(false,eval e X.env)::starEach es X.env:=by rfl) (c:(backTo pos (starEach es X.env)).any (·.1)=false:=by rfl):PE X (.Call (.Name x p) (e::es) [] pos) (jo r t):=by
 intro a s σ H Q I h;refine wpAny_Call_Name_kw (gk I j hm i ?_ o b);exact PyProof.Rows.callWith_builtin1 (av (d pos a s σ H _ I h) λus s1 ⟨vs,n,g,f,k⟩=>m a s1 σ n vs us Q g f k) l c
def LD (m:cB X (.type T) r) (j:Gl X x) (hm:X.mg x=none) (i:bootBuiltins x=some (.type T)) (d:PA X (e::es) t) (o:x ≠ "__name__":=by decide) (b:(x == ("__debug__" : Str))=false:=by decide)
 (l:starEach (e::es) X.env=(false,eval e X.env)::starEach es X.env:=by rfl) (c:(backTo pos (starEach es X.env)).any (·.1)=false:=by rfl):PE X (.Call (.Name x p) (e::es) [] pos) (jo r t):=by
 intro a s σ H Q I h;refine wpAny_Call_Name_kw (gk I j hm i ?_ o b);exact WT (av (d pos a s σ H _ I h) λus s1 ⟨vs,n,g,f,k⟩=>m a s1 σ n vs us Q g f k) l c
end
section
variable {κ:Type}[DecidableEq κ]
def bd(a:List (κ × V))(k:κ):Option V:=(a.find? λb=>decide (b.1=k)).map (·.2)
def cr(a:List (κ × V))(k:κ)(v:V):List (κ × V) :=
 if (a.any λb=>decide (b.1=k))=true then a.map (λb=>if b.1=k then (b.1,v) else b) else a++[(k,v)]
def fF{p:κ × V}{r:List (κ × V)}{k:κ}(e:p.1=k):bd (p::r) k=some p.2:=by simp[bd,WI,e]
def fG{p:κ × V}{r:List (κ × V)}{k:κ}(e:¬p.1=k):bd (p::r) k=bd r k:=by simp[bd,WI,e]
theorem lZ(k:κ):∀kvs:List (κ × V),(kvs.any λa=>decide (a.1=k))=(bd kvs k).isSome
 | []=>rfl
 | p::r=>by
  rw[W7];by_cases e:p.1=k
  ·simp only [fF e,YE e,Bool.true_or,Option.isSome_some]
  ·rw[fG e,YF e,Bool.false_or];exact lZ k r
theorem Av(k j:κ)(y:V):∀kvs:List (κ × V),bd (kvs.map λa=>if a.1=k then (a.1,y) else a) j=(bd kvs j).map λx=>if j=k then y else x
 | []=>rfl
 | p::r=>by
  have ih:=Av k j y r;rw[WA];by_cases h:p.1=k
  ·rw[YB h];by_cases e:p.1=j
   ·rw[fF (p:=(p.1,y)) e,fF e,W8,YB (e.symm.trans h)]
   ·rw[fG (p:=(p.1,y)) e,fG e,ih]
  ·rw[YA h];by_cases e:p.1=j
   ·rw[fF (p:=p) e,fF e,W8,YA (λz=>h (e.trans z))]
   ·rw[fG (p:=p) e,fG e,ih]
theorem Au(k j:κ)(y:V):∀kvs:List (κ × V),bd kvs k=none->bd (kvs++[(k,y)]) j=if j=k then some y else bd kvs j
 | [],_=>by
  by_cases e:k=j
  ·rw[YB e.symm];exact fF (p:=(k,y)) e
  ·rw[YA (λz=>e z.symm)];exact fG (p:=(k,y)) e
 | p::r,hn=>by
  rw[XL];have a:¬p.1=k:=λz=>by rw[fF z]at hn;cases hn
  rw[fG a]at hn;have ih:=Au k j y r hn;by_cases e:p.1=j
  ·rw[fF e,fF e,YA (λz=>a (e.trans z))]
  ·rw[fG e,fG e,ih]
def gK(b:List (κ × V))(k j:κ)(y:V):bd (cr b k y) j=if j=k then some y else bd b j:=by
 unfold cr;by_cases a:(b.any λc=>decide (c.1=k))=true
 ·rw[YB a,Av];rw[lZ]at a;by_cases e:j=k
  ·obtain⟨x,hx⟩:=Yg.mp a;rw[YB e,e,hx,W8,YB rfl]
  ·rw[YA e];cases bd b j with
   | none=>rfl
   | some x=>rw[W8,YA e]
 ·rw[YA a];refine Au k j y b ?_;rw[lZ]at a;cases q:bd b k with
  | none=>rfl
  | some x=>rw[q]at a;exact (a Z).elim
def mJ(a:List (κ × V))(k:κ)(v:V):(cr a k v).length<=a.length+1:=by
 unfold cr
 split
 ·rw[V4];omega
 ·rw[Wb,WE,List.length_nil];omega
def KE{a:List (κ × V)}{k:κ}(v:V)(h:bd a k=none):cr a k v=a++[(k,v)]:=by
 unfold cr;rw[lZ,h];exact YA (by decide)
def cM.isSome_eq{o:Option V}{u:Option Value}(r:cM o u):o.isSome=u.isSome:=by
 cases o with
 | none=>cases u with
  | none=>rfl
  | some _=>exact (show False from r).elim
 | some _=>cases u with
  | none=>exact (show False from r).elim
  | some _=>rfl
def cM.getD{o:Option V}{u:Option Value}{d:V}{d':Value}(r:cM o u)(rd:aN d d'):aN (o.getD d) (u.getD d'):=by
 cases o with
 | none=>cases u with
  | none=>exact rd
  | some _=>exact (show False from r).elim
 | some _=>cases u with
  | none=>exact (show False from r).elim
  | some _=>exact r
def KV.val{a:List (κ × V)}{vs:List (κ × Value)}(r:KV a vs)(k:κ):cM (bd a k) (valueAt vs k):=by
 unfold KV at r
 induction r with
 | nil=>exact True.intro
 | @cons p q ps qs h t ih =>
  obtain⟨c,d⟩:=h;by_cases e:p.1=k
  ·have e':q.1=k:=c.symm.trans e;have b:valueAt (q::qs) k=some q.2:=by simp[valueAt,WI,e']
   rw[fF e,b];exact d
  ·have e':¬q.1=k:=λz=>e (c.trans z);have b:valueAt (q::qs) k=valueAt qs k:=by simp[valueAt,WI,e']
   rw[fG e,b];exact ih
def KV.any{a:List (κ × V)}{vs:List (κ × Value)}(r:KV a vs)(k:κ):(a.any λb=>decide (b.1=k))=vs.any λb=>decide (b.1=k):=by
 unfold KV at r
 induction r with
 | nil=>rfl
 | cons h t ih=>rw[W7,W7,ih,h.1]
def KV.repl{b:List (κ × V)}{vs:List (κ × Value)}(r:KV b vs)(k:κ){y:V}{u:Value}(f:aN y u) :
 KV (b.map λa=>if a.1=k then (a.1,y) else a) (vs.map λa=>if a.1=k then (a.1,u) else a):=by
 unfold KV at r ⊢
 induction r with
 | nil=>exact .nil
 | @cons p q ps qs h t ih =>
  rw[WA,WA];refine .cons ?_ ih;obtain⟨c,d⟩:=h;by_cases e:p.1=k
  ·rw[YB e,YB (c.symm.trans e)];exact⟨c,f⟩
  ·rw[YA e,YA (λz=>e (c.trans z))];exact⟨c,d⟩
def KV.put{a:List (κ × V)}{vs:List (κ × Value)}(r:KV a vs)(k:κ){y:V}{u:Value}(b:aN y u):KV (cr a k y) (stored vs k u):=by
 unfold cr stored;rw[r.any k];by_cases e:(vs.any λc=>decide (c.1=k))=true
 ·rw[YB e,YB e];exact r.repl k b
 ·rw[YA e,YA e];exact Paired.snoc r ⟨rfl,b⟩
def KV.length{a:List (κ × V)}{vs:List (κ × Value)}(r:KV a vs):a.length=vs.length:=Paired.length r
end
def hU{P:Program}{w:World}{k:aS}{u:Value}(r:aN (kV k) u):(ci P w).is k u=true:=by
 cases k with
 | inl i=>obtain⟨t,e⟩:=(show ∃t,u=Value.int i t from r);subst e;exact CD P w i t
 | inr x=>obtain⟨t,e⟩:=(show ∃t,u=Value.str x t from r);subst e;exact CC P w x t
theorem Dd{P:Program}{w:World}:∀ {a:List aS} {us:List Value},aA (a.map kV) us->ItemsAre (ci P w) a us
 | [],_,r=>by rw[List.map_nil]at r;cases r;exact .nil
 | k::a,_,r=>by
  rw[WA]at r;cases r with
  | cons h t=>exact .cons (hU h) (Dd t)
abbrev KT(H:Hp):List (List aS × V)->List (List aS × Addr × Value)->Prop:=Paired λp q=>p.1=q.1/\H q.2.1=some (.tup (p.1.map kV))/\aN p.2 q.2.2
def KT.val{H:Hp}{a:List (List aS × V)}{xs:List (List aS × Addr × Value)}(r:KT H a xs)(k:List aS):cM (bd a k) ((atKey xs k).map (·.2)):=by
 induction r with
 | nil=>exact True.intro
 | @cons p q ps qs h t ih =>
  obtain⟨c,_,d⟩:=h;by_cases e:p.1=k
  ·have e':q.1=k:=c.symm.trans e;have b:atKey (q::qs) k=some q.2:=by simp[atKey,WI,e']
   rw[fF e,b];exact d
  ·have e':¬q.1=k:=λz=>e (c.trans z);have b:atKey (q::qs) k=atKey qs k:=by simp[atKey,WI,e']
   rw[fG e,b];exact ih
def KT.repl{H:Hp}{a:List (List aS × V)}{xs:List (List aS × Addr × Value)}(r:KT H a xs)(k:List aS){y:V}{u:Value}(g:aN y u) :
 KT H (a.map λc=>if c.1=k then (c.1,y) else c) (xs.map (putAt k u)):=by
 induction r with
 | nil=>exact .nil
 | @cons p q ps qs h t ih =>
  rw[WA,WA];refine .cons ?_ ih;obtain⟨b,d,f⟩:=h;unfold putAt;by_cases e:p.1=k
  ·rw[YB e,YB (b.symm.trans e)];exact⟨b,d,g⟩
  ·rw[YA e,YA (λz=>e (b.trans z))];exact⟨b,d,f⟩
def KT.put{H:Hp}{a:List (List aS × V)}{xs:List (List aS × Addr × Value)}(r:KT H a xs)(k:List aS){b:Addr}{y:V}{u:Value}(hb:H b=some (.tup (k.map kV)))(c:aN y u) :
 KT H (cr a k y) (storedH xs k b u):=by
 have e:(a.any λd=>decide (d.1=k))=(atKey xs k).isSome:=by
  rw[lZ,(r.val k).isSome_eq,XB]
 unfold cr storedH;rw[e];by_cases q:(atKey xs k).isSome=true
 ·rw[YB q,YB q];exact r.repl k c
 ·rw[YA q,YA q];exact Paired.snoc r ⟨rfl,hb,c⟩
def KT.keeps{H c:Hp}{a:List (List aS × V)}{xs:List (List aS × Addr × Value)}(r:KT H a xs)(ht:∀b ys,H b=some (.tup ys)->c b=some (.tup ys)):KT c a xs :=
 Paired.mapP r λ_ _ z=>⟨z.1,ht _ _ z.2.1,z.2.2⟩
section
variable {P:Program}{w:World}{H:Hp}{h:Heap}{a:Addr}
def BR{u:HO}(ok:bz P w H h)(e:Rd H a u):bw P w H h a u:=e.ok ok
def i7{b:List (aS × V)}(ok:bz P w H h)(e:Rd H a (.dK b)):b.length<=sizeLine/\(a == sysModules)=false/\∃vs,KV b vs/\h.DictOf (ci P w) a vs :=
 show bw P w H h a (.dK b) from BR ok e
def Rf{b:List (aS × V)}(ok:bz P w H h)(e:H a=some (.dK b)):b.length<=sizeLine/\(a == sysModules)=false/\∃vs,KV b vs/\h.DictOf (ci P w) a vs:=i7 ok (.inl e)
def lI{b:List aS}(ok:bz P w H h)(e:H a=some (.tup (b.map kV))):(tupleKind (ci P w)).is h b a:=by
 obtain⟨_,c,r,o,d,f,n,g⟩:=(show bw P w H h a (.tup (b.map kV)) from ok a _ e);exact⟨o,c.toArray,n,d,f,g,by simpa using Dd r⟩
def i6{b:List (List aS × V)}(ok:bz P w H h)(e:Rd H a (.dT b)):b.length<=sizeLine/\(a == sysModules)=false /\
 ∃xs,KT H b xs/\h.DictOfH (tupleKind (ci P w)) a xs:=by
 obtain⟨z,y,xs,r,o,c,d,j,i,k,f,g⟩:=(show bw P w H h a (.dT b) from BR ok e);refine⟨z,y,xs,r,o,c,d,j,i,k,f,λx hx=>?_,g⟩;have all:∀ {l:List (List aS × V)} {m:List (List aS × Addr × Value)},KT H l m->∀x∈m,(tupleKind (ci P w)).is h x.1 x.2.1:=by
  intro l m q
  induction q with
  | nil=>intro x hx;exact nomatch hx
  | @cons p q ps qs hq t ih =>
   intro x hx;rcases Wh.mp hx with e|hx
   ·subst e;exact lI ok (by rw[<- hq.1];exact hq.2.1)
   ·exact ih x hx
 exact all r x hx
def Rc{b:List (List aS × V)}(ok:bz P w H h)(e:H a=some (.dT b)):b.length<=sizeLine/\(a == sysModules)=false /\
 ∃xs,KT H b xs/\h.DictOfH (tupleKind (ci P w)) a xs:=i6 ok (.inl e)
end
def cI(H:Hp)(a:Addr)(y:V)(r:Option V):Prop :=
 (∃kvs k,Rd H a (.dK kvs)/\y=kV k/\r=bd kvs k)\/∃kvs k b,Rd H a (.dT kvs)/\y=.ref b/\H b=some (.tup (k.map kV))/\r=bd kvs k
def gJ(H:Hp)(a:Addr)(y v:V)(c:Hp):Prop :=
 (∃kvs k,H a=some (.dK kvs)/\y=kV k/\kvs.length<sizeLine/\c=upd H a (.dK (cr kvs k v))) \/
 ∃kvs k b,H a=some (.dT kvs)/\y=.ref b/\H b=some (.tup (k.map kV))/\kvs.length<sizeLine/\c=upd H a (.dT (cr kvs k v))
def cI.k{H:Hp}{a:Addr}{b:List (aS × V)}{k:aS}(e:H a=some (.dK b)):cI H a (kV k) (bd b k):=.inl ⟨b,k,.inl e,rfl,rfl⟩
def cI.t{H:Hp}{a b:Addr}{c:List (List aS × V)}{k:List aS}(e:H a=some (.dT c))(d:H b=some (.tup (k.map kV))):cI H a (.ref b) (bd c k):=.inr ⟨c,k,b,.inl e,rfl,d,rfl⟩
def gJ.k{H:Hp}{a:Addr}{b:List (aS × V)}{k:aS}{v:V}(e:H a=some (.dK b))(hl:b.length<sizeLine):gJ H a (kV k) v (upd H a (.dK (cr b k v))):=.inl ⟨b,k,e,rfl,hl,rfl⟩
def gJ.t{H:Hp}{a b:Addr}{c:List (List aS × V)}{k:List aS}{v:V}(e:H a=some (.dT c))(d:H b=some (.tup (k.map kV)))(hl:c.length<sizeLine) :
 gJ H a (.ref b) v (upd H a (.dT (cr c k v))):=.inr ⟨c,k,b,e,rfl,d,hl,rfl⟩
section
variable {X:Cx}{pins:List (Addr × Obj)}{σ:St}{H:Hp}{s:h6}{a:Addr}{y v:V}{u r:Value}{o:Option V}{A:Around}{E:Value->h6->Prop}
def af.big(I:af X pins σ H s):sysModules<s.heap.objs.size:=by
 have h:mainGlobals<s.heap.objs.size:=(I.mod.glob.keeps I.bk).lt;exact Nat.lt_trans (by decide) h
def Ro{Q:Value->h6->Prop}(n:A.units+1<cLine)(I:af X pins σ H s)(g:cI H a y (some v))(m:aN y u)(h:∀f s',af X pins σ H s'->aN v f->Q f s') :
 wpAny (model X.prog X.w) A (getItem (.ref a) u) Q E s:=by
 rcases g with ⟨kvs,k,e,ey,l⟩|⟨kvs,k,b,e,ey,eb,l⟩
 ·subst ey;obtain⟨z,hd,vs,d,i⟩:=i7 I.hok e;obtain⟨f,hw,c⟩:=cM.some_of (v:=v) (o:=valueAt vs k) (by rw[l];exact d.val k);exact wpAny_getItem_of (hU m) i.mapOf hw (h f _ (I.tok _) c)
 ·subst ey;cases (show u=Value.ref b from m);obtain⟨z,hd,xs,d,i⟩:=i6 I.hok e;obtain⟨f,hw,c⟩:=cM.some_of (v:=v) (o:=(atKey xs k).map (·.2)) (by rw[l];exact d.val k);obtain⟨p,q,j⟩:=WR.mp hw;refine wpAny_getItem_heap (tupleKind_room_in1 n) (lI I.hok eb) i q ?_;rw[j];exact h f _ (I.tok _) c
def Rm{Q:Value->h6->Prop}(i:A.units+1<cLine)(I:af X pins σ H s)(g:cI H a y o)(f:aN y u)(h:∀s',af X pins σ H s'->Q (.bool o.isSome) s') :
 wpAny (model X.prog X.w) A (compareOp .In u (.ref a)) Q E s:=by
 rcases g with ⟨kvs,k,e,ey,l⟩|⟨kvs,k,b,e,ey,eb,l⟩
 ·subst ey;obtain⟨z,hd,vs,c,d⟩:=i7 I.hok e;refine wpAny_in_of (hU f) hd d.mapOf ?_;rw[<- (c.val k).isSome_eq,<- l];exact h _ (I.tok _)
 ·subst ey;cases (show u=Value.ref b from f);obtain⟨z,hd,xs,c,d⟩:=i6 I.hok e;refine wpAny_in_heap (tupleKind_room_in1 i) (lI I.hok eb) hd d ?_;have q:=(c.val k).isSome_eq;rw[XB]at q;rw[<- q,<- l];exact h _ (I.tok _)
def Rl{Q:Value->h6->Prop}(i:A.units+1<cLine)(I:af X pins σ H s)(g:cI H a y o)(f:aN y u)(h:∀s',af X pins σ H s'->Q (.bool (!o.isSome)) s') :
 wpAny (model X.prog X.w) A (compareOp .NotIn u (.ref a)) Q E s:=by
 rcases g with ⟨kvs,k,e,ey,l⟩|⟨kvs,k,b,e,ey,eb,l⟩
 ·subst ey;obtain⟨z,hd,vs,c,d⟩:=i7 I.hok e;refine wpAny_notIn_of (hU f) hd d.mapOf ?_;rw[<- (c.val k).isSome_eq,<- l];exact h _ (I.tok _)
 ·subst ey;cases (show u=Value.ref b from f);obtain⟨z,hd,xs,c,d⟩:=i6 I.hok e;refine wpAny_notIn_heap (tupleKind_room_in1 i) (lI I.hok eb) hd d ?_;have q:=(c.val k).isSome_eq;rw[XB]at q;rw[<- q,<- l];exact h _ (I.tok _)
def Eh{h':Heap}{t':Nat}{c:HO}(I:af X pins σ H s)(d:nX (H a))(hs:Heap.SameBut a s.heap h')(f:∃q,h'.get? a=some q)(new:bw X.prog X.w (upd H a c) h' a c) :
 af X pins σ (upd H a c) { s with heap:=h',toks:=t' } :=
 I.write (x:=a) (e:=a) d (.inl rfl) (λb q hb z=>(hs.2 b hb).trans z) f new
def Rg{P:Program}{w:World}{d:Hp}{h':Heap}{b:List (aS × V)}{vs:List (aS × Value)}(z:b.length<=sizeLine)(hd:(a == sysModules)=false)(c:KV b vs)(e:h'.DictOf (ci P w) a vs) :
 bw P w d h' a (.dK b):=⟨z,hd,vs,c,e⟩
def Rk{m:Hp}{Q:Unit->h6->Prop}(C:A.units+1<cLine)(I:af X pins σ H s)(g:gJ H a y v m)(p:aN y u)(o:aN v r)(h:∀s',af X pins σ m s'->Q () s') :
 wpAny (model X.prog X.w) A (setItem (.ref a) u r) Q E s:=by
 rcases g with ⟨kvs,k,e,ey,l,eH⟩|⟨kvs,k,b,e,ey,eb,l,eH⟩
 ·subst ey eH;obtain⟨z,hd,vs,d,j⟩:=Rf I.hok e;have hz:vs.length<=sizeLine:=by rw[<- d.length];exact z
  have hl:(cr kvs k v).length<=sizeLine:=by have:=mJ kvs k v;omega
  refine wpAny_setItem_pairs (hsz:=hz) (hU p) j λh' f hs=>h _ ?_;have G:∃q,h'.get? a=some q:=let ⟨q,_,_,i,_⟩:=f;⟨q,i⟩
  exact Eh I (by rw[e];exact True.intro) hs G (Rg hl hd (d.put k o) f)
 ·subst ey eH;cases (show u=Value.ref b from p);obtain⟨z,hd,xs,d,j⟩:=Rc I.hok e;have hz:xs.length<=sizeLine:=by rw[<- Paired.length d];exact z
  have hl:(cr kvs k v).length<=sizeLine:=by have:=mJ kvs k v;omega
  refine wpAny_setItem_heap (hsz:=hz) (tupleKind_room_in1 C) (lI I.hok eb) j λh' f hs=>h _ ?_;obtain⟨q,x,B,i,J,L,D,_,F⟩:=f;refine Eh I (by rw[e];exact True.intro) hs ⟨q,i⟩ ⟨hl,hd,_,(d.put k eb o).keeps λc M n=>?_,q,x,B,i,J,L,D,F⟩;rw[ap (Mq n e (λz=>nomatch z))];exact n
end
def sK(i:Expr):Prop:=∀ov iv,subscripted i false ov iv=operate [ov,iv] (getItem ov iv)
def A0{prog:Program}{w:World}{A:Around}{E:Value->h6->Prop}{s:h6}{env:Env}{value a:Expr}{pos:Pos}{T id:String}{Q:Value->h6->Prop}
 (hl:typeLookup (.type T) "__getitem__" = pure (some (.builtin id))) (hs:sK a)
 (h:wpAny (model prog w) A (eval value env) (λo e=>wpAny (model prog w) A (eval a env) (λi c=>c.TypeIs o T/\wpAny (model prog w) A (getItem o i) Q E c) E e) E s) :
 wpAny (model prog w) A (eval (.Subscript value a pos) env) Q E s:=by
 refine Subscript_ (wpAny_mono h (λo e g=>wpAny_mono g (λi c d=>?_) λ_ _ x=>x) λ_ _ x=>x);obtain⟨hT,d⟩:=d;unfold subscriptTail;refine kb ?_;rw[getitemInPython_of_ne hT.not_modules];refine kb (wpAny_specialOf hT hl ?_);have b:wpAny (model prog w) A (subscripted a false o i) (λr f=>wpAny (model prog w) A (letTemporaryGo value o r >>= λ_=>pure r) Q E f) E c:=by
  rw[hs o i];exact wpAny_operating (wpAny_mono d (λr f j=>kb (wpAny_letTemporaryGo (on j))) λ_ _ x=>x)
 first
  | exact on (kb b)
  | exact kb (on (kb b))
  | exact kb b
def Rj {X:Cx} {c:List (Addr × Obj)} {σ:St} {H:Hp} {s:h6} {a:Addr} {y:V} {o:Option V} (I:af X c σ H s) (g:cI H a y o):s.TypeIs (.ref a) "dict":=by
 rcases g with ⟨kvs,k,e,_,_⟩|⟨kvs,k,b,e,_,_,_⟩
 ·obtain⟨_,_,vs,_,d⟩:=i7 I.hok e;exact d.typeIs
 ·obtain⟨_,_,xs,_,d⟩:=i6 I.hok e;exact d.typeIs
def AV(c ty:TE):TE:=λσ H Q=>c σ H λx d=>ty σ d λy b=>∃a v,x=.ref a/\cI b a y (some v)/\Q v b
def BL(b ty c:TE):TS:=λD σ H=>c σ H λv f=>b σ f λx d=>ty σ d λy e=>∃a H4,x=.ref a/\gJ e a y v H4/\D.nx σ H4
section
variable {X:Cx}{o i e value:Expr}{pos pos' tpos:Pos}{td ty tv:TE}
def Lz(e:X.A.units+1<cLine)(k:PE X o td)(l:PE X i ty)(hs:sK i):PE X (.Subscript o i pos) (AV td ty):=by
 intro b s σ H Q I h;refine A0 Yi.lookup hs (av (k b s σ H _ I h) λu s1 ⟨x,z,f,p,q⟩=>av (l b s1 σ z _ f q) λB D ⟨y,m,d,r,a,v,ex,g,n⟩=>?_);subst ex;obtain rfl:u=Value.ref a:=p;exact⟨Rj d g,Ro e d g r λC F j c=>⟨v,m,j,c,n⟩⟩
def KW(z:X.A.units+1<cLine)(l:PE X o td)(F:PE X i ty)(G:PE X value tv)(hs:swapsWith value (some (.Subscript o i pos')) pos.line X.env=pure false) :
 PS X (.Assign [.Subscript o i pos'] value pos) (BL td ty tv):=by
 intro b s σ H D I h;refine wpAny_Assign_Subscript (av (G b s σ H _ I h) λr s1 ⟨v,q,d,j,C⟩=>av (l b s1 σ q _ d C) λu L ⟨x,B,m,J,f⟩=>av (F b L σ B _ m f) λN R ⟨y,M,e,p,a,c,ex,g,k⟩=>?_) hs;subst ex;obtain rfl:u=Value.ref a:=J;exact Rk z e g p j λO n=>⟨σ,c,n,k⟩
end
def Rh{P:Program}{w:World}{H:Hp}(h:Heap)(hb:sysModules<h.objs.size):bw P w H (h.push { cls:=.type "dict",data:=.dict #[] }) h.objs.size (.dK []) :=
 ⟨Wu _,beq_eq_false_iff_ne.mpr (Ne.symm (Wc hb)),[],.nil,Heap.DictOf.new h⟩
def Re{P:Program}{w:World}{H:Hp}(h:Heap)(hb:sysModules<h.objs.size):bw P w H (h.push { cls:=.type "dict",data:=.dict #[] }) h.objs.size (.dT []) :=
 ⟨Wu _,beq_eq_false_iff_ne.mpr (Ne.symm (Wc hb)),[],.nil,_,#[],0,Ws _ rfl,⟨rfl,rfl,rfl⟩,rfl,rfl,List.nodup_nil⟩
def G3:TE:=λ_ H Q=>∀p,H p=none->Q (.ref p) (upd H p (.dK []))
def G2:TE:=λ_ H Q=>∀p,H p=none->Q (.ref p) (upd H p (.dT []))
section
variable {X:Cx}{pos:Pos}
def Lx:PE X (.Dict [] [] pos) G3:=λb s σ H Q I h =>
 wpAny_Dict_empty ⟨.ref s.heap.objs.size,_,I.laid (a:=s.heap.objs.size) (o:=.dK []) (t':=s.toks) (λ_ _ q=>V9 _ q) (V5 _) (Rh s.heap I.big),rfl,h _ (I.hok.fresh (V5 _))⟩
def Lw:PE X (.Dict [] [] pos) G2:=λb s σ H Q I h =>
 wpAny_Dict_empty ⟨.ref s.heap.objs.size,_,I.laid (a:=s.heap.objs.size) (o:=.dT []) (t':=s.toks) (λ_ _ q=>V9 _ q) (V5 _) (Re s.heap I.big),rfl,h _ (I.hok.fresh (V5 _))⟩
end
structure M1 (X:Cx) (o:Expr) (m:Str) (apos:Pos) (e:Expr) (cpos:Pos):Prop where
 base:attributeBase o m X.env (eval o X.env)=eval o X.env
 few:((backTo cpos (starEach [e] X.env)).all (λx=>!x.1) && (backToKw cpos (keywordEach [] X.env)).all (λx=>x.1.isSome)
  && decide (([e]:List Expr).length+([]:List Keyword).length+(if ([]:List Keyword).isEmpty then 0 else 1)<30))=true
 line:(apos.endLine == cpos.line)=true
 trees:backTo cpos (starEach [e] X.env)=[(false,eval e X.env)]
structure M2 (X:Cx) (o:Expr) (m:Str) (apos:Pos) (e f:Expr) (cpos:Pos):Prop where
 base:attributeBase o m X.env (eval o X.env)=eval o X.env
 few:((backTo cpos (starEach [e,f] X.env)).all (λx=>!x.1) && (backToKw cpos (keywordEach [] X.env)).all (λx=>x.1.isSome)
  && decide (([e,f]:List Expr).length+([]:List Keyword).length+(if ([]:List Keyword).isEmpty then 0 else 1)<30))=true
 line:(apos.endLine == cpos.line)=true
 trees:backTo cpos (starEach [e,f] X.env)=[(false,eval e X.env),(false,eval f X.env)]
def E3(H:Hp)(a:Addr):Prop:=(∃kvs,Rd H a (.dK kvs))\/∃kvs,Rd H a (.dT kvs)
def N8{X:Cx}{g:List (Addr × Obj)}{σ:St}{H:Hp}{s:h6}{a:Addr}(I:af X g σ H s)(d:E3 H a) :
 s.TypeIs (.ref a) "dict"/\(∀b,Value.ref a=.ref b->∃c,s.heap.get? b=some c/\c.dict=none)/\(a == sysModules)=false:=by
 rcases d with ⟨kvs,e⟩|⟨kvs,e⟩
 ·obtain⟨_,hd,vs,_,f⟩:=i7 I.hok e;refine⟨f.typeIs,λb q=>?_,hd⟩;cases q;obtain⟨c,_,_,i,h,_⟩:=f;exact⟨c,i,h.2.1⟩
 ·obtain⟨_,hd,xs,_,f⟩:=i6 I.hok e;refine⟨f.typeIs,λb q=>?_,hd⟩;cases q;obtain⟨c,_,_,i,h,_⟩:=f;exact⟨c,i,h.2.1⟩
section
variable {X:Cx}{pins:List (Addr × Obj)}{σ:St}{H:Hp}{s:h6}{a:Addr}{y d:V}{u r:Value}{o:Option V}{A:Around}{E:Value->h6->Prop}
def Rp{Q:Value->h6->Prop}(i:A.units+1<cLine)(I:af X pins σ H s)(g:cI H a y o)(f:aN y u)(h:∀w' s',af X pins σ H s'->aN (o.getD .non) w'->Q w' s') :
 wpAny (model X.prog X.w) A (call (.builtin "dict.get") [.ref a,u]) Q E s:=by
 rcases g with ⟨kvs,k,e,ey,l⟩|⟨kvs,k,b,e,ey,eb,l⟩
 ·subst ey;obtain⟨z,hd,vs,c,d⟩:=i7 I.hok e;refine call_meetsIn Xm d.typeIs XM (Yj _ _) (meets_dict_get (ci X.prog X.w) a (hU f) hd) ⟨_,d.mapOf,h _ _ (I.tok _) ?_⟩;rw[l];exact (c.val k).getD Z
 ·subst ey;cases (show u=Value.ref b from f);obtain⟨z,hd,xs,c,d⟩:=i6 I.hok e;refine call_meetsIn Xm d.typeIs XM (Yj _ _) (meetsH_dict_get (tupleKind (ci X.prog X.w)) a b hd) ⟨tupleKind_room_in1 i,k,xs,lI I.hok eb,d,h _ _ (I.tok _) ?_⟩;rw[l];exact (c.val k).getD Z
end
def AU(d ty:TE):TE:=λσ H Q=>d σ H λx c=>∃a,x=.ref a/\E3 c a/\ty σ c λy b=>∃o,cI b a y o/\Q (o.getD .non) b
section
variable {X:Cx}{o e f:Expr}{apos cpos:Pos}{td ty tx:TE}
def Ly (r:X.A.units+1<cLine) (k:PE X o td) (B:PE X e ty) (m:M1 X o "get" apos e cpos):PE X (.Call (.Attribute o "get" apos) [e] [] cpos) (AU td ty):=by
 intro b s σ H Q I h;refine wpAny_Call_method m.base m.few m.line Yk Xm Yl (av (k b s σ H _ I h) λu s1 ⟨x,p,f,D,a,ex,d,z⟩=>?_);subst ex;obtain rfl:u=Value.ref a:=D;obtain⟨C,l,_⟩:=N8 f d;refine⟨C,l,?_⟩;rw[m.trees];refine Calls.callWith_builtin Z (Calls.evalArgs_plain (Calls.spliced_cons (av (B b s1 σ p _ f z) λF M ⟨y,v,n,q,G,g,j⟩=>Calls.spliced_nil ?_)));exact Rp r n g q λL J i c=>⟨_,v,i,c,j⟩
end
end L2
namespace HT
open PySem PyProof.Rows
section
variable {prog:Program}{w:World}{A:Around}{E:Value->h6->Prop}{s:h6}
def sIx(n d:Nat):Option Int->Nat
 | none=>d
 | some v=>if v<0 then (v+(n:Int)).toNat else min v.toNat n
def JO(n d:Nat)(hd:d<=n)(o:Option Int):sIx n d o<=n:=by
 cases o with
 | none=>exact hd
 | some v =>
  show (if v<0 then (v+(n:Int)).toNat else min v.toNat n)<=n;by_cases hv:v<0
  ·rw[YB hv];omega
  ·rw[YA hv];exact Nat.min_le_right _ _
def Ey(v:Int)(n d:Nat):(if v<0 then max (v+(n:Int)) 0 else min v (n:Int))=((sIx n d (some v):Nat):Int):=by
 show (if v<0 then max (v+(n:Int)) 0 else min v (n:Int))=(((if v<0 then (v+(n:Int)).toNat else min v.toNat n):Nat):Int);by_cases hv:v<0
 ·simp only [YB hv];omega
 ·simp only [YA hv];omega
def Ua(lo a:Option Int)(n:Nat):Builtin.Slice.sliceAdjust lo a 1 (n:Int)=(((sIx n 0 lo:Nat):Int),((sIx n n a:Nat):Int)):=by
 have b:¬((1:Int)<0):=by omega
 unfold Builtin.Slice.sliceAdjust;simp only [b,if_false];refine Prod.ext ?_ ?_
 ·cases lo with
  | none=>rfl
  | some v=>exact Ey v n 0
 ·cases a with
  | none=>rfl
  | some v=>exact Ey v n n
def K8(i j:Nat):Builtin.Slice.slicePlaces (i:Int) (j:Int) 1=j-i:=by
 unfold Builtin.Slice.slicePlaces;have a:(1:Int) > 0:=by omega
 simp only [a,if_true,Int.ediv_one]
 split<;>omega
def Bk{v:Value}{o:Option Int}{Q:Option Int->h6->Prop}(p:IsPart v o)(h:Q o s):wpAny (model prog w) A (Builtin.Slice.slicePartIndex v) Q E s:=by
 cases p with
 | none=>exact slicePart_none h
 | int i t=>exact slicePart_int h
def Bl{f:Addr}{e d:Value}{lo b:Option Int}{n:Nat}{Q:Int × Int × Nat->h6->Prop}(hs:s.heap.IsSliceOf f e d .none)(pl:IsPart e lo)(g:IsPart d b)
 (h:Q (((sIx n 0 lo:Nat):Int),1,sIx n n b-sIx n 0 lo) s):wpAny (model prog w) A (Builtin.Slice.sliceApplied (.ref f) (pure (n:Int))) Q E s:=by
 obtain⟨os,c,i,a⟩:=id hs;unfold Builtin.Slice.sliceApplied Builtin.Slice.sliceFields;refine kb (kb (wpAny_field c a (x:=e) Z (kb (wpAny_field c a (x:=d) Z (kb (wpAny_field c a (x:=.none) Z (on ?_)))))));refine kb (slicePart_none ?_);show wpAny _ _ (if ((1:Int) == 0)=true then _ else _) _ _ s;rw[YA (by decide)];refine kb (Bk pl (kb (Bk g (kb (on ?_)))));show wpAny _ _ (match Builtin.Slice.sliceAdjust lo b 1 (n:Int) with|(lo,b)=>pure (lo,(1:Int),Builtin.Slice.slicePlaces lo b 1)) _ _ s;rw[Ua lo b n];show wpAny _ _ (pure (((sIx n 0 lo:Nat):Int),(1:Int),Builtin.Slice.slicePlaces ((sIx n 0 lo:Nat):Int) ((sIx n n b:Nat):Int) 1)) _ _ s;rw[K8];exact on h
def K9(xs:Array Value)(i k:Nat):((List.range k).filterMap λ(m:Nat)=>xs[((i:Int)+(m:Int)*1).toNat]?).toArray=((xs.toList.drop i).take k).toArray:=by
 have e:(λ(m:Nat)=>xs[((i:Int)+(m:Int)*1).toNat]?)=λm=>xs[i+m]?:=by
  funext m
  have:((i:Int)+(m:Int)*1).toNat=i+m:=by omega
  rw[this]
 rw[e];have:=pick_run xs i k;rw[List.filterMap_map]at this;have a:((λx=>xs[x]?) ∘ λx=>i+x)=λm=>xs[i+m]?:=rfl;rw[a]at this;rw[this]
def getItem_tuple_cut{t e:Addr}{items:Array Value}{i g:Value}{lo b:Option Int}{Q:Value->h6->Prop}(ht:IsTup s.heap t items)(hs:s.heap.IsSliceOf e i g .none)(pl:IsPart i lo)(k:IsPart g b)
 (hw:¬(sIx items.size 0 lo=0/\sIx items.size items.size b=items.size))
 (h:Q (.ref s.heap.objs.size) { s with heap:=s.heap.push { cls:=.type "tuple",data:=.seq ((items.toList.drop (sIx items.size 0 lo)).take (sIx items.size items.size b-sIx items.size 0 lo)).toArray } })
 (hsz:items.size<=sizeLine):wpAny (model prog w) A (getItem (.ref t) (.ref e)) Q E s:=by
 have a:sizeOk (.seq ((items.toList.drop (sIx items.size 0 lo)).take (sIx items.size items.size b-sIx items.size 0 lo)).toArray):=by
  show ((items.toList.drop (sIx items.size 0 lo)).take (sIx items.size items.size b-sIx items.size 0 lo)).toArray.size<=sizeLine;rw[Wd,Wa,Xn,Xz];omega
 have l:sIx items.size items.size b<=items.size:=JO _ _ (V5 _) b;obtain⟨os,f,d,j⟩:=id hs;have hTs:s.TypeIs (.ref e) "slice":=⟨os,f,d⟩;unfold getItem
 try with_reducible refine wpAny_holding ?_
 first|refine kb (on ?_)|skip
 refine kb (wpAny_sequenceKey ht.typeIs (by decide) ?_);refine kb (wpAny_callSpecial?_slot (name:=Str.ofString "__getitem__") ht.typeIs W9
  (wpAny_call_entry W9 ht.typeIs entry_tuple_getitem ?_ (args_tuple_getitem _ _)))
 show wpAny _ _ (Builtin.Tuple.tupleItemsOf (.ref t) >>= _) _ _ s;refine kb (tupleItemsOf_ ht ?_);refine kb (wpAny_typeOf hTs ?_);rw[YB (by decide)];refine kb (Bl hs pl k ?_);have c:¬((((sIx items.size 0 lo:Nat):Int) == 0 && (1:Int) == 1 && (sIx items.size items.size b-sIx items.size 0 lo) == items.size)=true):=by
  intro q;rw[Wy,Wy]at q;have n:((sIx items.size 0 lo:Nat):Int)=0:=eq_of_beq q.1.1;have o:sIx items.size items.size b-sIx items.size 0 lo=items.size:=eq_of_beq q.2;exact hw ⟨by omega,by omega⟩
 show wpAny _ _ (if (((sIx items.size 0 lo:Nat):Int) == 0 && (1:Int) == 1 && (sIx items.size items.size b-sIx items.size 0 lo) == items.size)=true then _ else _) _ _ s;rw[YA c,K9]
 first
  | exact kb (m:=Builtin.Tuple.tupleExact _) (wpAny_newObj_type (on ⟨_,rfl,on h⟩) a)
  | exact kb (m:=Builtin.Tuple.tupleExact _) (wpAny_newObj_type (kb (on (on ⟨_,rfl,on h⟩))) a)
  | exact kb (kb (m:=Builtin.Tuple.tupleExact _) (wpAny_newObj_type (on (on ⟨_,rfl,on h⟩)) a))
  | exact kb (kb (m:=Builtin.Tuple.tupleExact _) (wpAny_newObj_type (on ⟨_,rfl,on h⟩) a))
end
end HT
namespace L2
open PySem PySem.Spec PyProof.Rows
abbrev TO:=St->Hp->(Option Int->Hp->Prop)->Prop
def PO(X:Cx)(e:Option Expr)(t:TO):Prop :=
 ∀(a:List (Addr × Obj)) (s:h6) (σ:St) (H:Hp) (Q:Option Int->Hp->Prop),af X a σ H s->t σ H Q ->
  wpAny (model X.prog X.w) X.A (evalPart e X.env) (λu b=>∃o H',af X a σ H' b/\IsPart u o/\Q o H') X.xe s
def AJ:TO:=λ_ H Q=>Q none H
def AH(t:TE):TO:=λσ H Q=>t σ H λx a=>∃i,x=.int i/\Q (some i) a
section
variable {X:Cx}{e:Expr}{te:TE}{lo hi:Option Expr}{tl th:TO}{pos p2:Pos}
def K7:PO X none AJ:=by
 intro a s σ H Q I h;rw[evalPart_none];exact on ⟨none,H,I,.none,h⟩
def K6(h:PE X e te):PO X (some e) (AH te):=by
 intro a s σ H Q I hw;rw[evalPart_some];refine av (h a s σ H _ I hw) λu s1 ⟨x,f,c,b,d⟩=>?_;obtain⟨i,rfl,q⟩:=d;obtain⟨t,rfl⟩:=b;exact⟨some i,f,c,.int i t,q⟩
def iD(X:Cx)(r:V->Option Int->Option Int->Hp->VK->Prop):Prop :=
 ∀(a:List (Addr × Obj)) (s:h6) (σ:St) (H:Hp) (x:V) (v d b:Value) (lo c:Option Int) (e:Addr) (Q:VK),af X a σ H s->aN x v->s.heap.IsSliceOf e d b .none->IsPart d lo->IsPart b c->r x lo c H Q ->
  ∃T id,typeLookup (.type T) "__getitem__" = pure (some (.builtin id))/\s.TypeIs v T/\wpAny (model X.prog X.w) X.A (getItem v (.ref e)) (EP X a σ Q) X.xe s
def AE(r:V->Option Int->Option Int->Hp->VK->Prop)(c:TE)(b e:TO):TE:=λσ H Q=>c σ H λx f=>b σ f λl a=>e σ a λu d=>r x l u d Q
def Ln{r:V->Option Int->Option Int->Hp->VK->Prop}(hr:iD X r)(G:PE X e te)(hl:PO X lo tl)(C:PO X hi th):PE X (.Subscript e (.Slice lo hi none p2) pos) (AE r te tl th):=by
 intro a s σ H Q I h;refine Subscript_ (av (G a s σ H _ I h) λv s1 ⟨x,z,j,B,F⟩=>?_);refine wpAny_Slice (av (hl a s1 σ z _ j F) λf J ⟨l,D,p,pl,n⟩=>av (C a J σ D _ p n) λd c ⟨u,g,k,i,o⟩=>?_);rw[evalPart_none];refine on ?_;have y:af X a σ g { c with heap:=c.heap.push { cls:=.type "slice",data:=.fields #[f,d,.none] } }:=k.kept (t':=c.toks) λb L q=>V9 _ q;obtain⟨T,id,hT,ht,m⟩:=hr a { c with heap:=c.heap.push { cls:=.type "slice",data:=.fields #[f,d,.none] } } σ g x v f d l u c.heap.objs.size Q y B (Heap.IsSliceOf.new ..) pl i o;show wpAny (model X.prog X.w) X.A (subscriptTail e (.Slice lo hi none p2) v (.ref c.heap.objs.size)) (EP X a σ Q) X.xe { c with heap:=c.heap.push { cls:=.type "slice",data:=.fields #[f,d,.none] } };exact tail_any (ops:=[.ref c.heap.objs.size,v]) ht hT m (by with_unfolding_all rfl)
def cX(xs:List V)(lo a:Option Int):List V:=(xs.drop (HT.sIx xs.length 0 lo)).take (HT.sIx xs.length xs.length a-HT.sIx xs.length 0 lo)
def En(xs:List V)(lo a:Option Int):(cX xs lo a).length<=xs.length:=by
 unfold cX;rw[Wa,Xn];omega
def J5(K:W.Frag):V->Option Int->Option Int->Hp->VK->Prop:=λx lo b H Q=>∃a xs,x=.ref a/\be K H a xs /\
 ¬(HT.sIx xs.length 0 lo=0/\HT.sIx xs.length xs.length b=xs.length)/\∀p,H p=none->Q (.ref p) (upd H p (.tup (cX xs lo b)))
def IF:iD X (J5 X.K):=by
 intro f s σ H x v l j lo d m Q I i hs pl g h;obtain⟨a,xs,rfl,hx,hw,q⟩:=h;cases i;obtain⟨e,r,ht,hz⟩:=I.tuple hx;have c:e.toArray.size=xs.length:=by rw[Wd];exact r.length.symm
 refine⟨"tuple",_,W9.lookup,ht.typeIs,?_⟩;refine HT.getItem_tuple_cut ht hs pl g (by rw[c];exact hw) ?_ (by rw[c];exact hz);rw[c];refine⟨.ref s.heap.objs.size,_,I.laid (t':=s.toks) (o:=.tup (cX xs lo d)) (λb k q=>V9 _ q) (V5 _) ?_,Z,q _ (I.hok.fresh (V5 _))⟩;exact⟨Wq (En xs lo d) hz,_,(r.drop (HT.sIx xs.length 0 lo)).take (HT.sIx xs.length xs.length d-HT.sIx xs.length 0 lo),IsTup.new _ _⟩
end
def gl(n:Nat)(i:Int):Option Nat:=if 0<=i then (if i<n then some i.toNat else none) else if -(n:Int)<=i then some (i+n).toNat else none
def cD{α:Type}(xs:List α)(i:Int):Option α:=(gl xs.length i).bind λj=>xs[j]?
def Dc{n:Nat}{i:Int}{j:Nat}(h:gl n i=some j):seqIndex? i n=some j/\j<n/\-(n:Int)<=i/\i<n:=by
 unfold gl at h;by_cases h0:0<=i
 ·rw[YB h0]at h;by_cases h1:i<n
  ·rw[YB h1]at h;have e:i.toNat=j:=Wt h;exact⟨by rw[seqIndex_of h0 h1,e],by omega,by omega,h1⟩
  ·rw[YA h1]at h;cases h
 ·rw[YA h0]at h;by_cases h1 : -(n:Int)<=i
  ·rw[YB h1]at h;have e:(i+n).toNat=j:=Wt h;exact⟨by rw[seqIndex_neg (by omega) h1,e],by omega,h1,by omega⟩
  ·rw[YA h1]at h;cases h
def ES{α:Type}{xs:List α}{i:Int}{v:α}(h:cD xs i=some v):∃j,seqIndex? i xs.length=some j/\xs[j]? = some v/\j<xs.length/\-(xs.length:Int)<=i/\i<xs.length:=by
 unfold cD at h;cases e:gl xs.length i with
 | none=>rw[e]at h;cases h
 | some j =>
  rw[e]at h;obtain⟨d,c,b,a⟩:=Dc e;exact⟨j,d,h,c,b,a⟩
def aX{α:Type}{xs:List α}{j:Nat}{v:α}(h:xs[j]? = some v):cD xs (j:Int)=some v:=by
 have a:j<xs.length:=(V8.mp h).1;have e:gl xs.length (j:Int)=some j:=by
  unfold gl;rw[YB (by omega),YB (by omega)];simp
 unfold cD;rw[e];exact h
def yM{α:Type}(xs:List α)(v:α):cD (xs++[v]) (-1)=some v:=by
 have hl:(xs++[v]).length=xs.length+1:=by simp
 have e:gl (xs++[v]).length (-1)=some xs.length:=by
  unfold gl;rw[hl,YA (by decide),YB (by omega)]
  congr 1
  omega
 unfold cD;rw[e];show (xs++[v])[xs.length]? = some v;simp
def EZ(b:Expr):Prop:=∀o i,subscripted b false o i=operate [o,i] (getItem o i)
def eT(X:Cx)(r:R2):Prop :=
 ∀(value a:Expr) (b:List (Addr × Obj)) (s:h6) (σ:St) (H:Hp) (x y:V) (v u:Value) (Q:VK),af X b σ H s->aN x v->aN y u->r x y H Q ->
  subscripted a false v u=operate [v,u] (getItem v u)->wpAny (model X.prog X.w) X.A (subscriptTail value a v u) (EP X b σ Q) X.xe s
def fW(X:Cx)(id:String)(r:V->List V->Hp->VK->Prop):Prop :=
 ∀(a:List (Addr × Obj)) (s:h6) (σ:St) (H:Hp) (x:V) (xs:List V) (v:Value) (us:List Value) (Q:VK),af X a σ H s->aN x v->aA xs us->r x xs H Q ->
  wpAny (model X.prog X.w) X.A (call (.builtin id) (v::us)) (EP X a σ Q) X.xe s
section
variable {X:Cx}{a b:Expr}{ta tb:TE}{pos:Pos}
def eT.or{r c:R2}(h:eT X r)(h':eT X c):eT X (λx y H Q=>r x y H Q\/c x y H Q):=by
 intro value a b s σ H x y v u Q I d e q hs;rcases q with q|q
 ·exact h value a b s σ H x y v u Q I d e q hs
 ·exact h' value a b s σ H x y v u Q I d e q hs
def Ls{r:R2}(hr:eT X r)(d:PE X a ta)(hb:PE X b tb)(hs:EZ b):PE X (.Subscript a b pos) (fH r ta tb):=by
 intro c s σ H Q I h;exact Subscript_ (yK d hb I h λv u g x y e i f j q=>hr a b c g σ e x y v u Q i f j q (hs _ _))
def Kc(K:W.Frag):R2:=λx y H Q=>∃p xs i v,x=.ref p/\y=.int i/\aI K H p xs/\cD xs i=some v/\Q v H
def Kb(K:W.Frag):R2:=λx y H Q=>∃p xs i v,x=.ref p/\y=.int i/\be K H p xs/\cD xs i=some v/\Q v H
def N5:eT X (Kc X.K):=by
 intro value f a s σ H x y v u Q I o F h hs;obtain⟨p,xs,i,z,rfl,rfl,l,C,q⟩:=h;cases o;obtain⟨t,rfl⟩:=F;obtain⟨g,r,pl,hz⟩:=I.list l;obtain⟨j,c,B,G,m,n⟩:=ES C;obtain⟨w,k,e⟩:=r.get B;have hl:=r.length;have J:=mI;have b:EP X a σ Q w s:=⟨z,H,I,e,q⟩;by_cases h0:0<=i
 ·have d:i.toNat=j:=by
   rw[seqIndex_of h0 n]at c;exact Wt c
  exact item_listR pl.isList h0 (by omega) (by rw[d];simpa using k) b hs
 ·have d:(i+(g.toArray.size:Int)).toNat=j:=by
   rw[seqIndex_neg (by omega) m]at c;rw[Wd,<- hl];exact Wt c
  exact subscriptTail_builtinR (x:=w) pl.isList.typeIs slot_list_getitem.lookup
   (wpAny_getItem_list_neg (Q:=λr D=>r=w/\EP X a σ Q r D) pl.isList (by omega) (by rw[Wd]<;>omega) (by omega) (by rw[d];simpa using k) ⟨rfl,b⟩) hs
def N4:eT X (Kb X.K):=by
 intro value d a s σ H x y v u Q I g B h hs;obtain⟨p,xs,i,z,rfl,rfl,e,m,q⟩:=h;cases g;obtain⟨t,rfl⟩:=B;obtain⟨f,r,pl,hz⟩:=I.tuple e;obtain⟨j,l,k,F,C,D⟩:=ES m;obtain⟨w,o,b⟩:=r.get k;have hl:=r.length;have G:=mI;have c:EP X a σ Q w s:=⟨z,H,I,b,q⟩;exact subscriptTail_builtinR (x:=w) pl.typeIs slot_tuple_getitem.lookup
  (getItem_tuple (j:=j) (Q:=λr n=>r=w/\EP X a σ Q r n) pl (by omega) (by omega) (by rw[Wd,<- hl];exact l) (by simpa using o) ⟨rfl,c⟩) hs
def NF(a:List Value)(n j:Nat)(u:Value):Obj.mapSeq (·.setIfInBounds j u) { cls:=.type "list",data:=.seq a.toArray n } = { cls:=.type "list",data:=.seq (a.set j u).toArray n }:=by
 simp[Obj.mapSeq]
def af.lst{b:List (Addr × Obj)}{σ:St}{H:Hp}{s:h6}{p:Addr}{xs:List V}(I:af X b σ H s)(h:H p=some (.lst xs)) :
 ∃(a:List Value) (n:Nat),aA xs a/\s.heap.get? p=some { cls:=.type "list",data:=.seq a.toArray n }/\xs.length<=sizeLine:=by
 obtain⟨z,a,n,r,e⟩:=I.hok p _ h;exact⟨a,n,r,e,z⟩
def af.lstUpd{a:List (Addr × Obj)}{σ:St}{H:Hp}{s:h6}{p:Addr}{xs g:List V}{c its':List Value}{n d:Nat}{f:Obj->Obj}(I:af X a σ H s)(h:H p=some (.lst xs))
 (j:s.heap.get? p=some { cls:=.type "list",data:=.seq c.toArray n }) (i:f { cls:=.type "list",data:=.seq c.toArray n } = { cls:=.type "list",data:=.seq its'.toArray d }) (r:aA g its') (hz:g.length<=sizeLine) (t:Nat) :
 af X a σ (upd H p (.lst g)) { s with heap:=s.heap.update p f,toks:=t }:=by
 have e:(s.heap.update p f).get? p=some { cls:=.type "list",data:=.seq its'.toArray d }:=by
  rw[WL f j (by rw[i]<;>rfl),i]
 refine I.write (x:=p) (e:=p) (by rw[h];trivial) (.inl rfl) (λb u hb q=>(WF _ _ (Ne.symm hb)).trans q) ⟨_,e⟩ ?_;exact⟨hz,its',d,r,e⟩
def J7:V->V->V->Hp->(Hp->Prop)->Prop:=λo i v H Q=>∃p xs k j,o=.ref p/\i=.int k/\H p=some (.lst xs)/\gl xs.length k=some j/\Q (upd H p (.lst (xs.set j v)))
def Bp:Ag X J7:=by
 intro a s σ H o i v D C u Q I z y B h;obtain⟨p,xs,k,j,rfl,rfl,g,x,q⟩:=h;cases z;obtain⟨t,rfl⟩:=y;obtain⟨b,n,r,d,hz⟩:=I.lst g;obtain⟨c,F,l,f⟩:=Dc x;have hl:=r.length;have G:=mI;have m:af X a σ (upd H p (.lst (xs.set j v))) { s with heap:=s.heap.update p (Obj.mapSeq (·.setIfInBounds j u)) } :=
  I.lstUpd g d (NF b n j u) (r.set B j) (by rw[List.length_set];exact hz) s.toks
 by_cases h0:0<=k
 ·have e:k.toNat=j:=by
   rw[seqIndex_of h0 f]at c;exact Wt c
  exact W.ki_setAt d h0 (by omega) (by rw[Wd,<- hl];exact f) (by rw[e];exact⟨_,m,q⟩)
 ·have e:(k+(b.toArray.size:Int)).toNat=j:=by
   rw[seqIndex_neg (by omega) l]at c;rw[Wd,<- hl];exact Wt c
  exact W.ki_setBack d (by omega) (by rw[Wd,<- hl];exact l) (by omega) (by rw[e];exact⟨_,m,q⟩)
def ID(lo a:Option Int)(n:Nat):(sliceBounds lo a none n).1=((HT.sIx n 0 lo:Nat):Int)/\(sliceBounds lo a none n).2.1=((HT.sIx n n a:Nat):Int)/\(sliceBounds lo a none n).2.2=1:=by
 refine⟨?_,?_,Z⟩
 ·cases lo with
  | none=>simp[sliceBounds,HT.sIx]
  | some i =>
   simp only [sliceBounds,HT.sIx,XQ,show (1:Int) > 0 by decide,if_true];by_cases h:i<0
   ·simp only [h,if_true]<;>omega
   ·simp only [h,if_false]<;>omega
 ·cases a with
  | none=>simp[sliceBounds,HT.sIx]
  | some i =>
   simp only [sliceBounds,HT.sIx,XQ,show (1:Int) > 0 by decide,if_true];by_cases h:i<0
   ·simp only [h,if_true]<;>omega
   ·simp only [h,if_false]<;>omega
def IE(a:List Value)(lo b:Option Int):slicePick a.toArray lo b none=((a.drop (HT.sIx a.length 0 lo)).take (HT.sIx a.length a.length b-HT.sIx a.length 0 lo)).toArray:=by
 obtain⟨c,e,d⟩:=ID lo b a.toArray.size;unfold slicePick;rw[c,e,d];simp only [sliceRange_one,pick_run,Wd]<;>rfl
def J6(K:W.Frag):V->Option Int->Option Int->Hp->VK->Prop:=λx lo b H Q=>∃a xs,x=.ref a/\aI K H a xs/\∀p,H p=none->Q (.ref p) (upd H p (.lst (cX xs lo b)))
def IG:iD X (J6 X.K):=by
 intro e s σ H x v l j lo d m Q I i hs pl f h;obtain⟨a,xs,rfl,hx,q⟩:=h;cases i;obtain⟨g,r,ht,hz⟩:=I.list hx;have c:=r.length;refine⟨"list",_,slot_list_getitem.lookup,ht.isList.typeIs,?_⟩;refine wpAny_getItem_list_slice ht.isList hs pl f .none (by simp) ?_ (by rw[Wd]<;>omega);rw[IE,<- c];refine⟨.ref s.heap.objs.size,_,I.laid (t':=s.toks) (o:=.lst (cX xs lo d)) (λb k q=>V9 _ q) (V5 _) ?_,Z,q _ (I.hok.fresh (V5 _))⟩;exact⟨Wq (En xs lo d) hz,_,0,(r.drop (HT.sIx xs.length 0 lo)).take (HT.sIx xs.length xs.length d-HT.sIx xs.length 0 lo),Ws _ Z⟩
def fQ:V->Bool
 | .non=>true
 | .bl _=>true
 | .int _=>true
 | .str _=>true
 | _=>false
def gx:V->V->Bool
 | .non,.non=>true
 | .bl a,.bl b=>a == b
 | .bl a,.int b=>(if a then 1 else 0) == b
 | .int a,.bl b=>a == (if b then 1 else 0)
 | .int a,.int b=>a == b
 | .str a,.str b=>a == b
 | _,_=>false
def Rb{A:Around}{s:h6}{y x:V}{u v:Value}(d:aN y u)(c:aN x v)(e:fQ y=true)(fx:fQ x=true):SeqAt.EqAt A s u v (gx y x):=by
 cases y with
 | non =>
  cases d;cases x with
  | non=>cases c;exact SeqAt.EqAt.same _
  | bl b=>cases c;exact SeqAt.EqAt.none_bool b
  | int b=>obtain⟨t,rfl⟩:=c;exact SeqAt.EqAt.none_int b t
  | str b=>obtain⟨t,rfl⟩:=c;exact SeqAt.EqAt.none_str b t
  | _=>exact YC (show false=true from fx) Wk
 | bl a =>
  cases d;cases x with
  | non=>cases c;exact SeqAt.EqAt.bool_none a
  | bl b=>cases c;exact SeqAt.EqAt.bool_bool a b
  | int b=>obtain⟨t,rfl⟩:=c;exact SeqAt.EqAt.bool_int a b t
  | str b=>obtain⟨t,rfl⟩:=c;exact SeqAt.EqAt.bool_str a b t
  | _=>exact YC (show false=true from fx) Wk
 | int a =>
  obtain⟨t',rfl⟩:=d;cases x with
  | non=>cases c;exact SeqAt.EqAt.int_none a t'
  | bl b=>cases c;exact SeqAt.EqAt.int_bool a t' b
  | int b=>obtain⟨t,rfl⟩:=c;exact SeqAt.EqAt.int_int a t' b t
  | str b=>obtain⟨t,rfl⟩:=c;exact SeqAt.EqAt.int_str a t' b t
  | _=>exact YC (show false=true from fx) Wk
 | str a =>
  obtain⟨t',rfl⟩:=d;cases x with
  | non=>cases c;exact SeqAt.EqAt.str_none a t'
  | bl b=>cases c;exact SeqAt.EqAt.str_bool a t' b
  | int b=>obtain⟨t,rfl⟩:=c;exact SeqAt.EqAt.str_int a t' b t
  | str b=>obtain⟨t,rfl⟩:=c;exact SeqAt.EqAt.str_str a t' b t
  | _=>exact YC (show false=true from fx) Wk
 | _=>exact YC (show false=true from e) Wk
def d6(x:V)(u:Value):Bool:=match u with
 | .none=>gx .non x
 | .bool b=>gx (.bl b) x
 | .int i _=>gx (.int i) x
 | .str z _=>gx (.str z) x
 | _=>false
def Ea{x y:V}{u:Value}(r:aN y u)(f:fQ y=true):d6 x u=gx y x:=by
 cases y with
 | non=>cases r;rfl
 | bl b=>cases r;rfl
 | int i=>obtain⟨t,rfl⟩:=r;rfl
 | str z=>obtain⟨t,rfl⟩:=r;rfl
 | _=>exact YC (show false=true from f) Wk
theorem nO{x:V}:∀ {xs:List V} {us:List Value},aA xs us->xs.all fQ=true->us.any (d6 x)=xs.any λy=>gx y x
 | _,_,.nil,_=>rfl
 | y::xs,u::us,.cons r t,f=>by
  rw[List.all_cons,Wy]at f;rw[W7,W7,Ea r f.1,nO t f.2]
theorem mG{A:Around}{s:h6}{x:V}{v:Value}(b:aN x v)(fx:fQ x=true):∀ {xs:List V} {us:List Value},aA xs us->xs.all fQ=true->∀u∈us,SeqAt.EqAt A s u v (d6 x u)
 | _,_,.nil,_=>λu a=>by cases a
 | y::xs,u::us,.cons r t,f=>λc a=>by
  rw[List.all_cons,Wy]at f;rcases Wh.mp a with rfl|a
  ·rw[Ea r f.1];exact Rb r b f.1 fx
  ·exact mG b fx t f.2 c a
def eE(x:V)(xs:List V):Bool:=xs.any λy=>gx y x
def BT(K:W.Frag)(neg:Bool):R2:=λx y H Q=>∃p xs,y=.ref p/\(aI K H p xs\/be K H p xs)/\fQ x=true/\xs.all fQ=true/\Q (.bl (if neg then !eE x xs else eE x xs)) H
def LY:aV X (compareOp .In) (BT X.K false):=by
 intro c s σ H x y v u Q I d e h;obtain⟨p,xs,rfl,b,fx,fs,q⟩:=h;cases e;rcases b with b|b
 ·obtain⟨a,r,pl,hz⟩:=I.list b;refine SeqAt.in_listAt (d6 x) pl.isList (λw hw=>mG d fx r fs w (by simpa using hw)) ⟨.bl _,H,I,rfl,?_⟩;rw[show a.toArray.any (d6 x)=a.any (d6 x) by simp,nO r fs];exact q
 ·obtain⟨a,r,pl,hz⟩:=I.tuple b;refine SeqAt.in_tupleAt (d6 x) pl (λw hw=>mG d fx r fs w (by simpa using hw)) ⟨.bl _,H,I,rfl,?_⟩;rw[show a.toArray.any (d6 x)=a.any (d6 x) by simp,nO r fs];exact q
def LU:aV X (compareOp .NotIn) (BT X.K true):=by
 intro c s σ H x y v u Q I d e h;obtain⟨p,xs,rfl,b,fx,fs,q⟩:=h;cases e;rcases b with b|b
 ·obtain⟨a,r,pl,hz⟩:=I.list b;refine SeqAt.notIn_listAt (d6 x) pl.isList (λw hw=>mG d fx r fs w (by simpa using hw)) ⟨.bl _,H,I,rfl,?_⟩;rw[show a.toArray.any (d6 x)=a.any (d6 x) by simp,nO r fs];exact q
 ·obtain⟨a,r,pl,hz⟩:=I.tuple b;refine SeqAt.notIn_tupleAt (d6 x) pl (λw hw=>mG d fx r fs w (by simpa using hw)) ⟨.bl _,H,I,rfl,?_⟩;rw[show a.toArray.any (d6 x)=a.any (d6 x) by simp,nO r fs];exact q
def RH:cB X (.builtin "len") (λxs H Q=>∃p b,xs=[.ref p]/\(aI X.K H p b\/be X.K H p b)/\Q (.int b.length) H):=by
 intro f s σ H xs us Q I r h;obtain⟨p,b,rfl,c,q⟩:=h;obtain⟨u,rfl,g⟩:=jk r;cases g;have i:=mI;rcases c with c|c
 ·obtain⟨d,e,pl,hz⟩:=I.list c;have a:=e.length;exact Calls.call_len_list pl.isList (by simp only [Wd]<;>omega) ⟨.int b.length,H,I.tok _,⟨s.toks+1,by rw[Wd,a]⟩,q⟩
 ·obtain⟨d,e,pl,hz⟩:=I.tuple c;have a:=e.length;exact len_tuple pl (by simp only [Wd]<;>omega) ⟨.int b.length,H,I.tok _,⟨s.toks+1,by rw[Wd,a]⟩,q⟩
def RG:cB X (.type "list") (λxs H Q=>∃p c,xs=[.ref p]/\(aI X.K H p c\/be X.K H p c)/\∀l,H l=none->Q (.ref l) (upd H l (.lst c))):=by
 intro j s σ H xs us Q I r h;obtain⟨p,c,rfl,k,q⟩:=h;obtain⟨u,rfl,x⟩:=jk r;cases x;have i:∀(a:List Value),aA c a->c.length<=sizeLine->∀(h':Heap) (d:Nat),(∀b o',s.heap.get? b=some o'->h'.get? b=some o') ->
  h'.get? s.heap.objs.size=some { cls:=.type "list",dict:=none,data:=.seq a.toArray d,slots:=#[] }->EP X j σ Q (.ref s.heap.objs.size) { s with heap:=h' }:=λa f hz h' d kp e =>
  ⟨.ref s.heap.objs.size,_,I.laid (t':=s.toks) kp (V5 _) (show bw X.prog X.w _ h' _ (.lst c) from ⟨hz,a,d,f,e⟩),rfl,q _ (I.hok.fresh (V5 _))⟩
 rcases k with k|k
 ·obtain⟨a,f,pl,hz⟩:=I.list k;have g:=f.length;obtain⟨o,m,v,n,hd⟩:=pl.isList;exact call_list_seq p (.inl rfl) m v hd (λh' d kp e=>i a f hz h' d kp e) (by simp only [Wd]<;>omega)
 ·obtain⟨a,f,pl,hz⟩:=I.tuple k;have g:=f.length;obtain⟨o,m,v,n,hd⟩:=pl;exact call_list_seq p (.inr rfl) m v hd (λh' d kp e=>i a f hz h' d kp e) (by simp only [Wd]<;>omega)
def RE:cB X (.type "tuple") (λxs H Q=>∃p d,xs=[.ref p]/\((aI X.K H p d/\∀l,H l=none->Q (.ref l) (upd H l (.tup d)))\/(be X.K H p d/\Q (.ref p) H))):=by
 intro a s σ H xs us Q I r h;obtain⟨p,d,rfl,h⟩:=h;obtain⟨u,rfl,j⟩:=jk r;cases j;rcases h with ⟨hq,q⟩|⟨hq,q⟩
 ·obtain⟨c,f,pl,hz⟩:=I.list hq;have i:=f.length;refine call_tuple_list pl.isList (λh' kp=>?_) (by simp only [Wd]<;>omega);have g:af X a σ H { s with heap:=h' }:=I.kept (t':=s.toks) kp;have k:af X a σ (upd H h'.objs.size (.tup d)) { s with heap:=h'.push { cls:=.type "tuple",data:=.seq c.toArray } } :=
   g.laid (t':=s.toks) (λb o e=>V9 _ e) (V5 _) (show bw X.prog X.w _ _ _ (.tup d) from ⟨hz,c,f,IsTup.new _ _⟩)
  exact⟨.ref h'.objs.size,_,k,Z,q _ (g.hok.fresh (V5 _))⟩
 ·obtain⟨c,f,pl,hz⟩:=I.tuple hq;exact call_tuple_same pl ⟨.ref p,H,I,Z,q⟩
def tm(K:W.Frag)(T:String)(x:V)(H:Hp):Prop:=match x with
 | .str _=>T = "str"
 | .int _=>T = "int"
 | .ref p=>(T = "list"/\∃xs,aI K H p xs)\/(T = "tuple"/\∃o,K.lookup p=some o/\o.cls=.type "tuple"/\o.dict=none) \/
  (T = "dict"/\((∃kvs,H p=some (.dK kvs))\/∃kvs,H p=some (.dT kvs)))\/(T = "set"/\∃S n,H p=some (.set S n))
 | _=>False
def Az{b:List (Addr × Obj)}{σ:St}{H:Hp}{s:h6}{T:String}{x:V}{v:Value}(I:af X b σ H s)(r:aN x v)(ty:tm X.K T x H) :
 s.TypeIs v T/\∀a,v=.ref a->∃ob,s.heap.get? a=some ob/\ob.dict=none:=by
 cases x with
 | str z =>
  obtain⟨t,rfl⟩:=r;cases (show T = "str" from ty);exact⟨typeIs_str s z t,λ_ e=>nomatch e⟩
 | int i =>
  obtain⟨t,rfl⟩:=r;cases (show T = "int" from ty);exact⟨typeIs_int s i t,λ_ e=>nomatch e⟩
 | ref p =>
  cases r;rcases ty with ⟨rfl,xs,hq⟩|⟨rfl,o,hk,hc,hd⟩|⟨rfl,hk⟩|⟨rfl,S,n,hk⟩
  ·obtain⟨f,_,pl,_⟩:=I.list hq;refine⟨pl.isList.typeIs,λa e=>?_⟩;cases e;obtain⟨o,n,e,c,hd,_⟩:=pl;exact⟨o,e,hd⟩
  ·refine⟨⟨o,I.kIn p o hk,hc⟩,λa e=>?_⟩;cases e;exact⟨o,I.kIn _ o hk,hd⟩
  ·have z:∃o,s.heap.get? p=some o/\o.ExactDict:=by
    rcases hk with ⟨kvs,hk⟩|⟨kvs,hk⟩
    ·obtain⟨_,_,_,_,o,_,_,e,ex,_⟩:=I.hok p _ hk;exact⟨o,e,ex⟩
    ·obtain⟨_,_,_,_,o,_,_,e,ex,_⟩:=I.hok p _ hk;exact⟨o,e,ex⟩
   obtain⟨o,e,ex⟩:=z;refine⟨⟨o,e,ex.1⟩,λa d=>?_⟩;cases d;exact⟨o,e,ex.2.1⟩
  ·obtain⟨o,_,_,_,e,ex,_⟩:=I.hok p _ hk;refine⟨⟨o,e,ex.1⟩,λa d=>?_⟩;cases d;exact⟨o,e,ex.2.1⟩
 | _=>exact False.elim ty
def tF(K:W.Frag)(T:String)(r:V->List V->Hp->VK->Prop)(to:TE):TE:=λσ H Q=>to σ H λx a=>tm K T x a/\r x [] a Q
def tG(K:W.Frag)(T:String)(r:V->List V->Hp->VK->Prop)(to:TE)(t:TA):TE:=λσ H Q=>to σ H λx a=>tm K T x a/\t σ a λxs b=>r x xs b Q
variable {o e:Expr}{es:List Expr}{to:TE}{t:TA}{name:Str}{apos cpos:Pos}{T id:String}{r:V->List V->Hp->VK->Prop}
def LG (j:PlainAttrs T) (slot:Slot T name id) (d:typeOf (.builtin id)=pure (.type "method_descriptor")) (hm:fW X id r) (g:PE X o to)
 (c:attributeBase o name X.env (eval o X.env)=eval o X.env:=by rfl) (b:(apos.endLine == cpos.line)=true:=by rfl):PE X (.Call (.Attribute o name apos) [] [] cpos) (tF X.K T r to):=by
 intro a s σ H Q I h;refine wpAny_Call_method0_late c b (av (g a s σ H _ I h) λv s1 ⟨x,m,f,e,ty,i⟩=>?_);obtain⟨k,l⟩:=Az f e ty;exact⟨T,id,j,slot,d,k,l,Calls.callWith_builtin Z (PySem.evalArgs_none (hm a s1 σ m x [] v [] Q f e .nil i))⟩
def LJ (n:PlainAttrs T) (slot:Slot T name id) (g:typeOf (.builtin id)=pure (.type "method_descriptor")) (hm:fW X id r) (m:PE X o to) (k:PA X (e::es) t)
 (d:attributeBase o name X.env (eval o X.env)=eval o X.env:=by rfl)
 (f:((backTo cpos (starEach (e::es) X.env)).all (λx=>!x.1) && (backToKw cpos (keywordEach [] X.env)).all (λx=>x.1.isSome)
   && decide ((e::es).length+([]:List Keyword).length+(if ([]:List Keyword).isEmpty then 0 else 1)<30))=true:=by rfl)
 (c:(apos.endLine == cpos.line)=true:=by rfl) (hs:starEach (e::es) X.env=(false,eval e X.env)::starEach es X.env:=by rfl) (b:(backTo cpos (starEach es X.env)).any (·.1)=false:=by rfl) :
 PE X (.Call (.Attribute o name apos) (e::es) [] cpos) (tG X.K T r to t):=by
 intro a s σ H Q I h;refine wpAny_Call_method_late d f c Z (av (m a s σ H _ I h) λv s1 ⟨x,y,i,j,ty,B⟩=>?_);obtain⟨p,q⟩:=Az i j ty;refine⟨T,id,n,slot,g,p,q,?_⟩;have hA:=k cpos a s1 σ y _ i B;rw[hs]at hA ⊢;refine Calls.callWith_builtin (by show (false || (backTo cpos (starEach es X.env)).any (·.1))=false;rw[b]<;>rfl) (Calls.evalArgs_plain ?_);exact av hA λus D ⟨vs,z,u,C,l⟩=>hm a D σ z x vs v us Q u j C l
end
def Ai(X:Cx)(id:String)(r:V->List V->Hp->VK->Prop):Prop :=
 ∀(a:List (Addr × Obj)) (s:h6) (σ:St) (H:Hp) (x:V) (xs:List V) (v:Value) (us:List Value) (Q:VK),af X a σ H s->aN x v->aA xs us->r x xs H Q ->
  wpAny (model X.prog X.w) X.A (call (.builtin id) (v::us)) (EP X a σ Q) X.xe s
theorem aA.one:∀ {x:V} {us:List Value},aA [x] us->∃u,us=[u]/\aN x u
 | _,_,.cons r .nil=>⟨_,rfl,r⟩
theorem aA.zero:∀ {us:List Value},aA [] us->us=[]
 | _,.nil=>rfl
def aA.dropLast{xs:List V}{us:List Value}(h:aA xs us):aA xs.dropLast us.dropLast:=by
 induction h with
 | nil=>exact .nil
 | cons r t ih =>
  cases t with
  | nil=>exact .nil
  | cons q t'=>exact .cons r ih
def aA.reverse{xs:List V}{us:List Value}(h:aA xs us):aA xs.reverse us.reverse:=by
 induction h with
 | nil=>exact .nil
 | cons r t ih=>rw[List.reverse_cons,List.reverse_cons];exact aA.append ih (.cons r .nil)
theorem aA.rep{xs:List V}{us:List Value}(h:aA xs us):∀k:Nat,aA (List.replicate k xs).flatten (List.replicate k us).flatten
 | 0=>.nil
 | k+1=>by
  rw[Xo,Xo,XC,XC];exact aA.append h (aA.rep h k)
def Ra{α:Type}(l:List α):l.eraseIdx (l.length-1)=l.dropLast:=by
 induction l with
 | nil=>rfl
 | cons a r ih =>
  cases r with
  | nil=>rfl
  | cons b r =>
   have e:(a::b::r).length-1=((b::r).length-1)+1:=by
    have d:(a::b::r).length=r.length+2:=rfl;have c:(b::r).length=r.length+1:=rfl;omega
   rw[e,List.eraseIdx_cons_succ,ih]
   all_goals rfl
theorem D5(a:List Value):∀(k:Nat) (b:List Value),
 List.foldl (λf c=>f++c) b.toArray (List.replicate k a.toArray)=(b++(List.replicate k a).flatten).toArray
 | 0,b=>by simp
 | k+1,b=>by
  have e:b.toArray++a.toArray=(b++a).toArray:=by simp
  have d:(b++a)++(List.replicate k a).flatten=b++(List.replicate (k+1) a).flatten:=by
   rw[Xo,XC,WV]
  rw[<- d,<- D5 a k (b++a),<- e,Xo,Xp]
section
variable {X:Cx}{pins:List (Addr × Obj)}{σ:St}{H:Hp}{s:h6}{l b:Addr}{xs ys zs:List V}
def af.lset{a its':List Value}{n:Nat}{f:Array Value->Array Value}{t':Nat}(I:af X pins σ H s)(hH:H l=some (.lst xs))
 (e:s.heap.get? l=some { cls:=.type "list",data:=.seq a.toArray n }) (b:f a.toArray=its'.toArray) (d:aA ys its') (hz:ys.length<=sizeLine) :
 af X pins σ (upd H l (.lst ys)) { s with heap:=s.heap.update l (Obj.mapSeq f),toks:=t' }:=by
 have q:=PySem.IsL.update e f;rw[b]at q;refine I.write (x:=l) (e:=l) (by rw[hH];exact trivial) (.inl Z) (λb' u hb c=>(WF s.heap (Obj.mapSeq f) (Ne.symm hb)).trans c) ⟨_,q⟩ ?_;exact⟨hz,its',_,d,q⟩
def af.lnew{a:List Value}{t':Nat}(I:af X pins σ H s)(b:aA ys a)(hz:ys.length<=sizeLine) :
 af X pins σ (upd H s.heap.objs.size (.lst ys)) { s with heap:=s.heap.push { cls:=.type "list",data:=.seq a.toArray },toks:=t' } :=
 I.laid (λ_ _ q=>V9 _ q) (V5 _) ⟨hz,a,0,b,Ws _ rfl⟩
def af.fresh(I:af X pins σ H s):H s.heap.objs.size=none:=I.hok.fresh (V5 _)
def af.lstM(I:af X pins σ H s)(hH:H l=some (.lst xs)):xs.length<=sizeLine/\∃(a:List Value) (n:Nat),aA xs a/\xs.length=a.length/\s.heap.get? l=some { cls:=.type "list",data:=.seq a.toArray n }:=by
 obtain⟨z,a,n,r,e⟩:=I.hok l _ hH;exact⟨z,a,n,r,r.length,e⟩
def pB{n:Nat}(h:n<=sizeLine):Builtin.List.listTooLong n=false:=by
 unfold Builtin.List.listTooLong;exact YF (by omega)
end
section
variable {X:Cx}
def Kf:V->List V->Hp->VK->Prop:=λx vs H Q=>∃l xs y,x=.ref l/\vs=[y]/\H l=some (.lst xs)/\xs.length<sizeLine/\Q .non (upd H l (.lst (xs++[y])))
def Mz:Ai X "list.append" Kf:=by
 intro b s σ H x vs v us Q I d f h;obtain⟨l,xs,y,rfl,rfl,hH,hz,q⟩:=h;cases d;obtain⟨u,rfl,c⟩:=f.one;obtain⟨z,a,n,r,hl,e⟩:=I.lstM hH;refine call_meets F.slot_list_append ⟨_,e,rfl⟩ F.entry_list_append (F.args_list_append_2 _ _) (PySem.list_append l a.toArray n u (by rw[Wd];omega)) ⟨e,?_⟩;refine⟨.non,_,I.lset (its':=a++[u]) hH e (by simp) (r.append (.cons c .nil)) ?_,rfl,q⟩;rw[Wb,List.length_singleton];omega
def Kd:V->List V->Hp->VK->Prop:=λx vs H Q=>∃l b xs zs,x=.ref l/\vs=[.ref b]/\H l=some (.lst xs)/\H b=some (.lst zs)/\xs.length+zs.length<=sizeLine/\Q .non (upd H l (.lst (xs++zs)))
def Mv:Ai X "list.extend" Kd:=by
 intro f s σ H x vs v us Q I j m h;obtain⟨l,b,xs,zs,rfl,rfl,hH,hB,hz,q⟩:=h;cases j;obtain⟨u,rfl,g⟩:=m.one;cases g;obtain⟨z,c,n,r,hl,e⟩:=I.lstM hH;obtain⟨z2,a,k,o,p,i⟩:=I.lstM hB;have hsz:c.toArray.size+a.toArray.size<=sizeLine:=by rw[Wd,Wd];omega
 have d:¬(!c.toArray.isEmpty && Builtin.List.listTooLong (c.toArray.size+a.toArray.size))=true:=by
  rw[pB hsz,Bool.and_false];exact Wk
 refine call_meets F.slot_list_extend ⟨_,e,Z⟩ F.entry_list_extend (F.args_list_extend_2 _ _)
  (AutoSeq1.list_extend_list_list_0 l c.toArray n b a.toArray k d (by rw[Wd];omega) (by omega)) ⟨e,i,?_⟩
 refine⟨.non,_,I.lset (its':=c++a) hH e (by simp) (r.append o) ?_,rfl,q⟩;rw[Wb];omega
def J9:V->List V->Hp->VK->Prop:=λx vs H Q=>∃l xs y,x=.ref l/\vs=[]/\H l=some (.lst xs)/\xs[xs.length-1]? = some y/\Q y (upd H l (.lst xs.dropLast))
def Mu:Ai X "list.pop" J9:=by
 intro d s σ H x vs v us Q I i k h;obtain⟨l,xs,y,rfl,rfl,hH,j,q⟩:=h;cases i;have c:=k.zero;subst c;obtain⟨z,a,n,r,hl,e⟩:=I.lstM hH;obtain⟨u,f,g⟩:=r.get j;have b:a.toArray[a.toArray.size-1]? = some u:=by
  show a.toArray[a.length-1]? = some u;rw[<- Ym,<- hl];exact f
 refine call_meets F.slot_list_pop ⟨_,e,rfl⟩ F.entry_list_pop (F.args_list_pop_1 _) (MeetsSeq.list_pop_last l a.toArray n u b (by rw[Wd];omega)) ⟨e,?_⟩;refine⟨y,_,I.lset (its':=a.dropLast) hH e ?_ r.dropLast ?_,g,q⟩
 ·show a.toArray.eraseIdxIfInBounds (a.toArray.size-1)=a.dropLast.toArray;rw[Wd,List.eraseIdxIfInBounds_toArray,Ra]
 ·rw[List.length_dropLast];omega
def J8:R2:=λx y H Q=>∃l k xs,x=.ref l/\y=.int k/\H l=some (.lst xs)/\-(2 ^ 63)<=k/\k<2 ^ 63/\xs.length*k.toNat<=sizeLine /\
 ∀p,H p=none->Q (.ref p) (upd H p (.lst (List.replicate k.toNat xs).flatten))
def NQ{α:Type}(xs:List α)(k:Nat):(List.replicate k xs).flatten.length=k*xs.length:=by
 induction k with
 | zero=>simp
 | succ k ih=>rw[Xo,XC,Wb,ih,Nat.succ_mul,Nat.add_comm]
def LR:aV X (binaryOp .Mult) J8:=by
 intro p s σ H x y v u Q I C L h;obtain⟨l,k,xs,rfl,rfl,hH,G,D,hz,q⟩:=h;cases C;obtain⟨t,rfl⟩:=L;obtain⟨z,b,n,r,hl,e⟩:=I.lstM hH;have d:b.toArray.size*k.toNat<=sizeLine:=by rw[Wd,<- hl];exact hz
 have f:¬b.toArray.size*k.toNat > (2 ^ 63-1)/8:=by
  have:(sizeLine:Nat)<=(2 ^ 63-1)/8:=by decide
  omega
 have i:¬(!Builtin.List.listFitsIndex k)=true:=by
  rw[fitsIndex_both G D];exact Wk
 have c:¬Builtin.List.listTooLong (b.toArray.size*k.toNat)=true:=by
  rw[pB d];exact Wk
 have g:List.foldl (λj o=>j++o) #[] (List.replicate (if b.toArray.isEmpty=true then 0 else k.toNat) b.toArray)=(List.replicate k.toNat b).flatten.toArray:=by
  have B:∀m:Nat,List.foldl (λj o=>j++o) #[] (List.replicate m b.toArray)=(List.replicate m b).flatten.toArray:=λm=>by
   have:=D5 b m [];rw[List.nil_append]at this;exact this
  rw[B];cases b with
  | nil=>simp
  | cons a r'=>rw[YA (by simp)]
 refine wpAny_binaryOp_repeat_ref (T := "list") (U := "int") (by decide) ⟨_,e,rfl⟩ (λJ=>typeIs_int J k t) noFill_list_mul F.fills_int_mul F.slot_int_rmul repeat_list F.slot_int_index.lookup
  (call_meets F.slot_int_rmul (typeIs_int s k t) F.entry_int_rmul (F.args_int_rmul_2 _ _) (int___rmul___int_list k t l b.toArray n)
    ⟨e,rfl,⟨_,e,rfl⟩,call_meets F.slot_list_mul ⟨_,e,rfl⟩ F.entry_list_mul (F.args_list_mul_2 _ _) (AutoListH.list___mul___list_int_3 l b.toArray n k t i f c) ⟨e,?_⟩⟩)
 rw[g];exact⟨.ref _,_,I.lnew (t':=s.toks) (r.rep k.toNat) (by rw[NQ,Nat.mul_comm];exact hz),Z,q _ I.fresh⟩
end
section
variable {prog:Program}{w:World}{A:Around}{E:Value->h6->Prop}{s:h6}
def R9{a c n:Nat}(b:a<=c)(f:c<=n):sliceBounds (some (a:Int)) (some (c:Int)) none n=((a:Int),(c:Int),1):=by
 simp only [sliceBounds,XQ];have e:¬((a:Int)<0):=by omega
 have d:¬((c:Int)<0):=by omega
 simp only [e,d,if_false,show (1:Int) > 0 by decide,if_true]
 congr 1
 ·omega
 ·congr 1;omega
set_option maxRecDepth 100000 in
def Vf{l b k:Addr}{items new:Array Value}{n B:Nat}{q o:Value}{a c:Nat}{Q:Unit->h6->Prop}
 (e:s.heap.get? l=some { cls:=.type "list",data:=.seq items n }) (y:s.heap.get? b=some { cls:=.type "list",data:=.seq new B }) (r:l≠b)
 (hs:s.heap.IsSliceOf k q o .none) (pl:IsPart q (some (a:Int))) (z:IsPart o (some (c:Int))) (p:a<=c) (C:c<=items.size)
 (hsz:items.size+new.size<=sizeLine) (h:Q () { s with heap:=s.heap.update l (Obj.mapSeq λxs=>xs.extract 0 a++new++xs.extract c xs.size) }) :
 wpAny (model prog w) A (setItem (.ref l) (.ref k) (.ref b)) Q E s:=by
 have hl:s.heap.IsList l items:=PySem.IsL.isList e;have hb:s.heap.IsList b new:=PySem.IsL.isList y;obtain⟨os,f,u,g⟩:=id hs;have hTs:s.TypeIs (.ref k) "slice":=⟨os,f,u⟩;have i:¬((rawPart none == rawInt 0)=true):=Wk;have d:Builtin.List.listSameRef (.ref l) (.ref b)=false:=by
  unfold Builtin.List.listSameRef;exact beq_eq_false_iff_ne.mpr r
 have j:(max (a:Int) (c:Int)).toNat=c:=by omega
 have v:((λxs:Array Value=>xs.extract 0 a++new++xs.extract c xs.size) items).size<=sizeLine+1:=by
  simp only [Array.size_append,Array.size_extract];omega
 unfold setItem
 try with_reducible refine wpAny_holding ?_
 first|refine kb (on ?_)|skip
 refine kb (wpAny_sequenceKey hl.typeIs (by decide) ?_);refine kb (wpAny_callSpecial?_slot (name:=Str.ofString "__setitem__") hl.typeIs slot_list_setitem
  (wpAny_call_entry slot_list_setitem hl.typeIs entry_list_setitem ?_ (args_list_setitem _ _ _)))
 show wpAny _ _ (Builtin.List.listSubscript? (.ref k) >>= _) _ _ s;refine kb ?_;unfold Builtin.List.listSubscript?;refine kb (wpAny_specialOf hTs slice_no_index ?_);simp only [Option.isNone_none,if_true];refine on ?_;show wpAny _ _ (typeOf (.ref k) >>= _) _ _ s;refine kb (wpAny_typeOf hTs ?_)
 first
  | rw[YA (by decide)]
  | refine W.KFB.if_not (by decide) ?_
 rw[listSliceParts_eq];refine kb (kb (wpAny_field f g (x:=.none) Z (kb (wpAny_listPart .none ?_))));rw[YA i];refine kb (wpAny_field f g (x:=q) Z (kb (wpAny_listPart pl ?_)));refine kb (wpAny_field f g (x:=o) Z (kb (wpAny_listPart z (on ?_))))
 first
  | simp only [d,XR,if_false]
  | refine W.KFB.if_not d ?_
  | (dsimp only
     rw[YA (by rw[d];exact Wk)])
 refine kb (m:=Builtin.List.listAllItems (.ref b) "must assign iterable to extended slice") ?_;unfold Builtin.List.listAllItems;refine kb (wpAny_typeOf hb.typeIs ?_)
 first
  | refine W.KFB.if_so (by decide) ?_
  | rw[YB (by decide)]
  | simp only [beq_self_eq_true,Bool.true_or,if_true]
 unfold Builtin.List.listItems;refine kb (wpAny_seqItems y Z (on ?_));refine kb (kb (wpAny_seqItems e Z (on ?_)));refine kb (wpAny_of_eq ((sliceIndices_raw (some (a:Int)) (some (c:Int)) none items.size (by simp)).trans (congrArg (pure:Int × Int × Int->Sem (Int × Int × Int)) (R9 p C))) ?_);show wpAny _ _ (if ((1:Int) == 1)=true then _ else _) _ _ s;rw[YB (by decide)];refine kb (wpAny_rule ?_)
 first
  | simp only [pB hsz,XR,if_false]
  | refine W.KFB.if_not (pB hsz) ?_
 first|refine kb (on ?_)|skip
 show wpAny _ _ (updateSeq l (λxs=>xs.extract 0 ((a:Int)).toNat++new++xs.extract (max (a:Int) (c:Int)).toNat xs.size) >>= _) _ _ s;rw[j,Xa];refine kb (wpAny_updateSeq (hz:=Wq (Nat.le_add_right _ _) hsz) (_hz':=v) e Z ?_);refine kb (wpAny_letGo ?_)
 first
  | exact kb (on (on ⟨.none,rfl,on h⟩))
  | exact on ⟨.none,rfl,on h⟩
end
end L2
namespace Att
open PySem PySem.W PySem.Calls PyProof.Rows
def Oa{P:Params}{h:Heap}:∀(ns:g0) (vs:List Value),WellAll P h vs (ns.map WData.int)->IntsAre vs ns:=by
 intro ns
 induction ns with
 | nil =>
  intro vs w;rw[List.map_nil]at w;cases w;exact .nil
 | cons n ns ih =>
  intro vs w;rw[WA]at w;cases w with
  | cons a b =>
   cases a;exact .cons _ _ (ih _ b)
def IM{l:OpenLaw}{n:Nat}(s:l.most=some n){P:Params}{h:Heap}{args:List WData}{vals:List Value}
 (b:l.row.toRowW.claim.pre args=true) (i:WellAll P h vals args) :
 ∃a vs ns,vals=[Value.ref a]/\args=[WData.list (ns.map WData.int)]/\h.get? a=some { cls:=.type "list",data:=.seq vs.toArray }/\IntsAre vs ns/\ns.length<=n:=by
 have g:WShape.hasAll [] args [.list .int]=true:=(pre_splitW b).1;have j:l.pre.holds [] { args:=args }=true:=(pre_splitW b).2;obtain⟨d,r,rfl,m,o⟩:=hasAllW_cons g;obtain rfl:=hasAllW_nil o;obtain⟨xs,rfl,p⟩:=hasW_list m;obtain⟨ns,rfl⟩:=items_int p;have c:ns.length<=n:=by
  unfold OpenLaw.pre at j;have e:(WTm.not (.lt (.lit (.int (n:Int))) (.len (.arg 0)))).holds [] { args:=[.list (ns.map .int)] }=true:=by
   have e:=(holds_andW j).1;rw[s]at e;exact e
  have f:=condW_of e (w_not (w_lt w_lit (w_len_list (w_arg rfl))));rw[V4]at f;refine Nat.le_of_not_lt λq=>?_;have k:(n:Int)<((ns.length:Nat):Int):=by omega
  first
   | (rw[YE k]at f;exact YC f (by decide))
   | (simp at f;omega)
 cases i with
 | cons w1 w2 =>
  cases w2;cases w1 with
  | list ho hall=>exact⟨_,_,ns,rfl,rfl,ho,Oa ns _ hall,c⟩
def K5(l:OpenLaw)(args:List WData):l.row.toRowW.claim.post args (.bool true) args=true :=
 postW_of (r:=l.row.toRowW) (X:=(true == true))
  (show WShape.has [] (.bool true) .bool=true by first|rfl|decide|simp[WShape.has,WShape.arms,WShape.armsAll])
  (show (WTm.eq .res (.lit (.bool true))).value [] { args:=args,res:=some (.bool true),after:=args }=some (.bool (true == true)) from w_eq_bool (w_res rfl) w_lit) rfl
def attach_call{l:OpenLaw}{n:Nat}{q:Program}{c:List Str}{z:(Str->Option Value)->Heap->Prop}{B:World->Heap->Prop}{d:DefRec}
 (N:l.most=some n) (y:d.params.defaults=[])
 (call:∀(w:World) (s₀ b:h6) (mg s:Str->Option Value) (k:Addr) (o:Obj) (x cd g:Value) (a:Addr) (vs:List Value) (ns:g0),
   Ground q c [] z w s₀ mg s b.heap->B w b.heap ->
   b.heap.get? k=some o->o.data=.func (docDef d.name d.params d.body d.scope x cd g)->b.heap.CodeRec cd d.name->mg d.name=some (.ref k) ->
   b.heap.get? a=some { cls:=.type "list",data:=.seq vs.toArray }->IntsAre vs ns->ns.length<=n->b.gens = #[] ->
   codeAny (model l.prog w) callerA (.call (.ref k) ⟨[.ref a],[]⟩) (λr m=>r=.ok (.ret (.bool true))/\OldK b.heap m.heap/\m.os=b.os/\AllBare m.gens) b) :
 WalkO q c z B l.row.toRowW d [] (λf vs=>PySem.call f vs):=by
 intro w s₀ b mg s G Y k o x cd g dV kV I hd p hD v F args vals as i C R u O;obtain rfl:dV=.none:=Dflts.none hD y;obtain rfl:kV=.none:=Dflts.noKw hD;obtain⟨a,vs,ns,rfl,rfl,j,e,h⟩:=IM N i u;refine enter_call (codeAny_mono (call w s₀ b mg s k o x cd g a vs ns G Y I (fd_plain hd) p v j e h F) λr m M=>?_);obtain⟨rfl,L,J,D⟩:=M;exact⟨.inl ⟨.bool true,.bool true,[],rfl,λ_=>rfl,.bool true,K5 l _,λ_=>⟨List.Pairwise.nil,λ_ hm=>(nomatch hm)⟩⟩,L,J,D⟩
end Att
namespace L2
open PySem PySem.Spec PyProof.Rows
theorem At:∀ {vs:List Value} {ns:g0},IntsAre vs ns->aA (ns.map V.int) vs
 | _,_,.nil=>.nil
 | _,_,.cons n t h=>.cons ⟨t,rfl⟩ (At h)
def Ah(H:Hp):Prop:=∀b,H b=none\/∃o xs,H b=some (.frz o (.lst xs))
def NT{P:Program}{w:World}{K:W.Frag}{mg J:Str->Option Value}{CX:fE}{k:Nat}{M a:Addr}{R:FuncData}{x:Str}{sp:Sp}{c:h6}{vs:List Value}{ns:g0}
 (O:K.In c.heap) (l:c.heap.Ns mainGlobals mg) (hb:c.heap.Ns builtinsNs J) (L:∀x:Str,x ≠ "__name__"->J x=bootBuiltins x) (D:c.heap.NoLimit) (Y:c.gens = #[])
 (G:c.heap.get? a=some { cls:=.type "list",data:=.seq vs.toArray }) (U:IntsAre vs ns) (hl:ns.length<=sizeLine) (hr:bt k callerA)
 (F:∀base:Heap,K.In base->base.Ns mainGlobals mg->bn P w K mg base CX k M R [x] sp) (j:∀(s:h6) (u:Value),BindsTo s R ⟨[u],[]⟩ [(x,u)])
 (I:∀H:Hp,Ah H->aI K H a (ns.map V.int)->sp [.ref a] H (λv _=>v=.bl true) λ_ _ _=>False)
 (hCX:∀H e g,CX [] H c (λ_ _ _=>False) e g->False) :
 codeAny (model P w) callerA (.call (.ref M) ⟨[.ref a],[]⟩) (λr g=>r=.ok (.ret (.bool true))/\OldK c.heap g.heap/\g.os=c.os/\AllBare g.gens) c:=by
 have N:=At U;have lenV:=U.length;have i:∀H:Hp,Ah H->aI K H a (ns.map V.int)->bz P w H c.heap->(∀b,H b≠none->b=a)->(H a≠none->K.lookup a=none) ->
  codeAny (model P w) callerA (.call (.ref M) ⟨[.ref a],[]⟩) (λr g=>r=.ok (.ret (.bool true))/\OldK c.heap g.heap/\g.os=c.os/\AllBare g.gens) c:=by
  intro H hO hS hok hA hK;have f:∀ {b:Addr} {o:Obj},c.heap.get? b=some o->H b=none->(hV c.heap H).get? b=some o:=λe n=>Om e n;have noA:∀ {b:Addr} {o:Obj} {y:Array DictEntry} {C:Nat},c.heap.get? b=some o->o.data=.dict y C->H b=none:=λ{b o y C} e d=>by
   cases q:H b with
   | none=>rfl
   | some u =>
    have e':b=a:=hA b (by rw[q];simp);subst e';rw[G]at e;cases e;have d':Data.seq vs.toArray _=Data.dict y C:=d;cases d'
  have nsK:∀ {b:Addr} {m:Str->Option Value},c.heap.Ns b m->(hV c.heap H).Ns b m:=λ{b m} ⟨o,y,C,e,d,r⟩=>⟨o,y,C,f e (noA e d),d,r⟩;have hKb:K.In (hV c.heap H):=λb o e=>f (O b o e) (by
   cases q:H b with
   | none=>rfl
   | some u =>
    have e':b=a:=hA b (by rw[q];simp);subst e';rw[hK (by rw[q];simp)]at e;cases e)
  have hM:Mod K mg (hV c.heap H):=⟨hKb,nsK l,⟨J,nsK hb,L⟩,let ⟨mc,h1,h2⟩:=D;⟨mc,nsK h1,h2⟩⟩;have e0:gH P w K mg (hV c.heap H) callerA [] c H:=⟨rfl,hM,λb o e=>Mn e,W4 (Ol _ _),trivial,λb hb=>YC (show b∈([]:List Addr) from hb) (by simp),hok,.of_eq Y⟩;refine codeAny_mono ((F _ hKb (nsK l)).run callerA [] c H ⟨[.ref a],[]⟩ [.ref a] [.ref a] _ _ hr e0 (j c (.ref a)) (.cons Z .nil) (I H hO hS)) λr g h=>?_;cases r with
  | error e=>exact (hCX H e g h).elim
  | ok fl =>
   cases fl with
   | next=>exact False.elim h
   | brk=>exact False.elim h
   | cont=>exact False.elim h
   | ret u =>
    obtain⟨v,H',os,bare,un,p,r',q⟩:=h;have q':v=.bl true:=q;subst q';obtain rfl:u=Value.bool true:=r';refine⟨rfl,OldK.of_keep λb o e=>?_,os,bare⟩;cases q:H b with
    | none=>exact un.keep b o e q (by intro z;exact YC (show b∈([]:List Addr) from z) (by simp)) (by simp)
    | some u =>
     rcases hO b with z|⟨ob,xs,z⟩
     ·rw[q]at z;cases z
     ·have z2:=un.frzs b ob _ z;obtain⟨S,_⟩:=hok b _ z;obtain⟨e2,_⟩:=p b _ z2;rw[e]at S;cases S;exact e2
 cases hk:K.lookup a with
 | some o =>
  have e:=O a o hk;rw[G]at e;cases e;refine i (λ_=>none) (λ_=>.inl rfl) (.inr ⟨_,vs.toArray,_,hk,rfl,rfl,rfl,by rw[Wd,lenV];exact hl,by simpa using N⟩) (λb u z=>by have B:(none:Option HO)=some u:=z;cases B) (λb z=>YC rfl z) λz=>YC rfl z
 | none =>
  refine i (λb=>if b=a then some (.frz { cls:=.type "list",data:=.seq vs.toArray } (.lst (ns.map V.int))) else none) (λb=>?_) (.inl (.inr ⟨{ cls:=.type "list",data:=.seq vs.toArray },YB Z⟩)) (λb u z=>?_) (λb z=>?_) λ_=>hk
  ·by_cases hb:b=a
   ·exact .inr ⟨_,_,YB hb⟩
   ·exact .inl (YA hb)
  ·by_cases hb:b=a
   ·have B:=(YB hb).symm.trans z;cases B;subst hb;exact⟨G,by rw[V4];exact hl,vs,_,N,G⟩
   ·have B:=(YA hb).symm.trans z;cases B
  ·by_cases hb:b=a
   ·exact hb
   ·exact YC (YA hb) z
abbrev KOf{K:W.Frag}{h:Heap}(_:K.In h):W.Frag:=K
def walk_of{l:W.OpenLaw}{n k:Nat}{q:Program}{j:List Str}{M:(Str->Option Value)->Heap->Prop}{J:World->Heap->Prop}{d:DefRec}{K:Params->W.Frag}{CX:World->fE}{sp:World->Sp}{x:Str}
 (S:l.most=some n) (B:n<=sizeLine) (D:d.params.defaults=[]) (hr:bt k callerA)
 (hY:∀(w:World) (h:Heap),J w h->(K w.params).In h)
 (F:∀(w:World) (mg:Str->Option Value) (p:Addr) (h:Heap),(K w.params).In h->h.Ns mainGlobals mg->mg d.name=some (.ref p) ->
   ∃y:FuncData,(∀(s:h6) (u:Value),BindsTo s y ⟨[u],[]⟩ [(x,u)]) /\
    ∀base:Heap,(K w.params).In base->base.Ns mainGlobals mg->bn l.prog w (K w.params) mg base (CX w) k p y [x] (sp w))
 (r:∀(w:World) (H:Hp) (a:Addr) (ns:g0),ns.length<=n->Ah H->aI (K w.params) H a (ns.map V.int)->sp w [.ref a] H (λv _=>v=.bl true) λ_ _ _=>False)
 (hCX:∀(w:World) (H:Hp) (s:h6) (e:Value) (z:h6),CX w [] H s (λ_ _ _=>False) e z->False) :
 W.WalkO q j M J l.row.toRowW d [] (λf vs=>PySem.call f vs):=by
 refine Att.attach_call S D λw s₀ R mg U p o pm cd O a vs ns G Y ho hd N C m i c L=>?_;have I:=hY w _ Y;obtain⟨y,hb,hF⟩:=F w mg p _ I G.T.g C;exact NT I G.T.g G.T.b G.T.builtins G.T.nolimit L m i (Wq c B) hr hF hb (λH hO hS=>r w H a ns c hO hS) λH e z=>hCX w H R e z
end L2
namespace L2
open PySem PySem.Spec PyProof.Rows
def bf(s:Stmt)(j:Nat):Stmt:=match s with
 | .ClassDef _ _ _ body _ _ _ _ _ _ _=>body.getD j (.Pass ⟨0,0,0,0⟩)
 | _=>.Pass ⟨0,0,0,0⟩
def aB(s:Stmt):Arguments:=match s with
 | .FunctionDef _ a _ _ _ _ _ _ _ _=>a
 | _=>{ posonlyargs:=[],args:=[],vararg:=none,kwonlyargs:=[],kw_defaults:=[],kwarg:=none,defaults:=[] }
def ax(s:Stmt):List Stmt:=match s with
 | .FunctionDef _ _ b _ _ _ _ _ _ _=>b
 | _=>[]
def ag(s:Stmt):Scope:=match s with
 | .FunctionDef _ _ _ _ _ _ sc _ _ _=>sc
 | _=>{ kind:=.function,names:=[],isGenerator:=false,isCoroutine:=false }
abbrev bD:fE:=λ_ _ _ _ _ _=>False
abbrev E0:XK:=λ_ _ _=>False
def Cf{X:Cx}:iE bD X E0:=λ_ _ _ _ _ _ _ h=>h.elim
structure aG (K:W.Frag) (x qual:Str) (st:Stmt) (f:Addr) (fd:FuncData):Prop where
 ex:∃(oc:Value) (od:Option Addr) (kV doc pm:Value) (an:Option Addr) (cdv ct:Value) (osl:Array (Option Value)),
  fd=W.fnOf x qual (aB st) (ax st) (ag st) .none kV doc pm an cdv ct/\K.lookup f=some ⟨oc,od,.func fd,osl⟩/\W.codeIn K cdv qual=true
 kp:W.keepIn K (.ref f)=true
section
variable {P:Program}{w:World}{K:W.Frag}{mg:Str->Option Value}{base:Heap}
def aG.ok{x qual:Str}{st:Stmt}{f:Addr}{e:FuncData}{N ps:List Str}{k:Nat}{sp:Sp}(F:aG K x qual st f e)(S:ay N ps (ag st))(len:∀vs H Q E,sp vs H Q E->vs.length=ps.length)
 (b:∀(a:Value) (A:Around) (outer:List Env) (s:h6) (H:Hp) (vs:List V) (Q:VK) (E:XK),bt k (A.deeper (envOfC qual (ag st) s.heap.objs.size f a))->sp vs H Q E ->
   ∃t,eg (d7 bD P w K mg base N qual (ag st) f a A outer s H E).nox (ax st) t/\t { nx:=λ_ g=>Q .non g,rt:=Q } (cU N vs) H):bn P w K mg base bD (k+1) f e ps sp:=by
 obtain⟨n,o,kV,i,l,m,a,ct,j,rfl,lk,c⟩:=F.ex;refine p7 lk c S len λA outer s H vs Q E hr d=>?_;obtain⟨t,h,q⟩:=b a A outer s H vs Q E hr d;exact⟨t,h.nox,q⟩
def aG.binds{x qual:Str}{st:Stmt}{f:Addr}{e:FuncData}{ps:List Str}(F:aG K x qual st f e)
 (h:∀(kV a c:Value) (d:Option Addr) (b ct:Value) (us:List Value),us.length=ps.length->bindArgs (W.fnOf x qual (aB st) (ax st) (ag st) .none kV a c d b ct) ⟨us,[]⟩=pure (ps.zip us)):ao K e ps []:=by
 obtain⟨j,k,kV,a,c,d,b,ct,i,rfl,lk,g⟩:=F.ex;exact .all (h kV a c d b ct)
def aP{x qual:Str}{st:Stmt}{f:Addr}{h:Value}{i g:Option Addr}{d:Array (Option Value)}{kV b e a ct:Value}(l:K.lookup f=some ⟨h,i,.func (W.fnOf x qual (aB st) (ax st) (ag st) .none kV b e g a ct),d⟩)
 (c:W.codeIn K a qual=true) (k:W.keepIn K (.ref f)=true):aG K x qual st f (W.fnOf x qual (aB st) (ax st) (ag st) .none kV b e g a ct):=⟨⟨h,i,kV,b,e,g,a,ct,d,rfl,l,c⟩,k⟩
end
def N6{A B:Prop}(h:B):if false=true then A else B:=by
 rw[YA Wk];exact h
def gn{A B:Prop}(h:A):if true=true then A else B:=by
 rw[YB rfl];exact h
def aw{c A B:Prop}[Decidable c](b:c->A)(a:¬c->B):if c then A else B:=by
 by_cases h:c
 ·rw[YB h];exact b h
 ·rw[YA h];exact a h
def ah(H a:Hp):Prop:=∀b o,H b=some o->a b=some o
def ah.refl(H:Hp):ah H H:=λ_ _ h=>h
def ah.trans{H e d:Hp}(a:ah H e)(b:ah e d):ah H d:=λc o h=>b c o (a c o h)
def ah.free{H a:Hp}(e:ah H a){l:Addr}(h:a l=Option.none):H l=Option.none:=by
 cases q:H l with
 | none=>rfl
 | some o =>
  rw[e l o q]at h;cases h
def ah.seq{K:W.Frag}{H b:Hp}{a:Addr}{xs:List V}(e:ah H b)(h:aI K H a xs):aI K b a xs:=by
 rcases h with (h|⟨o,h⟩)|h
 ·exact .inl (.inl (e _ _ h))
 ·exact .inl (.inr ⟨o,e _ _ h⟩)
 ·exact .inr h
section
variable {κ:Type}[DecidableEq κ]
theorem lE:∀ {l:List κ} {k:κ},l.Nodup->¬k∈l->(l++[k]).Nodup
 | [],k,_,_=>by simp
 | a::r,k,h,hk=>by
  obtain⟨c,b⟩:=Xj.mp h;show (a::(r++[k])).Nodup;refine Xj.mpr ⟨λm=>?_,lE b λm=>hk (Wh.mpr (Or.inr m))⟩;rcases Wi.mp m with q|q
  ·exact c q
  ·exact hk (Wh.mpr (Or.inl (Wl.mp q).symm))
end
end L2
set_option maxHeartbeats 4000000
namespace HT
open PySem PyProof.Rows
end HT
namespace L2
open PySem PySem.Spec PyProof.Rows
def PE.imp{X:Cx}{e:Expr}{t t':TE}(h:PE X e t)(k:∀σ H Q,t' σ H Q->t σ H Q):PE X e t':=λa s σ H Q I q=>h a s σ H Q I (k σ H Q q)
def aV.imp{X:Cx}{f:Value->Value->Sem Value}{r b:R2}(h:aV X f r)(k:∀x y H Q,b x y H Q->r x y H Q):aV X f b:=λa s σ H x y v u Q I c d q=>h a s σ H x y v u Q I c d (k x y H Q q)
def cB.imp{X:Cx}{f:Value}{r b:List V->Hp->VK->Prop}(h:cB X f r)(k:∀xs H Q,b xs H Q->r xs H Q):cB X f b:=λa s σ H xs us Q I c q=>h a s σ H xs us Q I c (k xs H Q q)
def eT.imp{X:Cx}{r c:R2}(h:eT X r)(k:∀x y H Q,c x y H Q->r x y H Q):eT X c:=λvalue a b s σ H x y v u Q I d e q hs=>h value a b s σ H x y v u Q I d e (k x y H Q q) hs
def ah.new{H:Hp}{p:Addr}{o:HO}(h:H p=none):ah H (upd H p o):=λb u e=>by rw[ap (au e h)];exact e
structure bi (H:Hp) (p:Addr) (o:HO) (H':Hp):Prop where
 nw:H p=none
 sm:ah H H'
 at_:H' p=some o
def bi.mk'{H:Hp}{p:Addr}{o:HO}(h:H p=none):bi H p o (upd H p o):=⟨h,ah.new h,az⟩
def bi.lst{K:W.Frag}{H a:Hp}{p:Addr}{xs:List V}(g:bi H p (.lst xs) a):aI K a p xs:=.of g.at_
def bi.tup{K:W.Frag}{H a:Hp}{p:Addr}{xs:List V}(g:bi H p (.tup xs) a):be K a p xs:=.of g.at_
def ah.put{H a:Hp}{p:Addr}{o:HO}(s:ah H a)(h:H p=none):ah H (upd a p o):=λb u e=>by
 rw[ap (au e h)];exact s b u e
def mV(i:Nat):TE:=λσ H Q=>match σ[i]? with
 | some (some v)=>Q v H
 | _=>False
def vv(i:Nat){X:Cx}{x:Str}{pos:Pos}(hN:X.N[i]? = some x:=by rfl)(b:sE X.env.scope x:=by first|exact Or.inl rfl|exact Or.inr (Or.inl rfl)|exact Or.inr (Or.inr rfl))(hd:(x == ("__debug__" : Str))=false:=by decide)
 (a:(x == ("__classdict__" : Str))=false:=by decide):PE X (.Name x pos) (mV i):=(Ll hN b hd a).imp λσ H Q q=>by
 unfold mV at q
 split at q
 ·exact⟨_,by assumption,q⟩
 ·exact q.elim
section
variable {X:Cx}{a b:Expr}{ta tb:TE}{pos:Pos}{bB:List Expr}
def CU(b tb:TE):TE:=λσ H Q=>b σ H λx a=>match x with
 | .bl c=>if c=true then tb σ a Q else Q (.bl false) a
 | _=>False
def CM(b tb:TE):TE:=λσ H Q=>b σ H λx a=>match x with
 | .bl c=>if c=true then Q (.bl true) a else tb σ a Q
 | _=>False
def CN(a:TE):TE:=λσ H Q=>a σ H λx b=>match x with
 | .bl c=>Q (.bl (!c)) b
 | _=>False
def NE(i:PE X a ta)(hb:PE X (.BoolOp .And (b::bB) pos) tb):PE X (.BoolOp .And (a::b::bB) pos) (CU ta tb):=by
 intro d s σ H Q I h;refine BoolOp_and (av (i d s σ H _ I h) λv s1 ⟨x,g,f,j,e⟩=>?_);cases x with
 | bl c =>
  cases j;refine wpAny_truthy_bool ?_;cases c with
  | true=>exact hb d s1 σ g Q f e
  | false=>exact⟨.bl false,g,f,rfl,e⟩
 | _=>exact False.elim e
def Nu(i:PE X a ta)(hb:PE X (.BoolOp .Or (b::bB) pos) tb):PE X (.BoolOp .Or (a::b::bB) pos) (CM ta tb):=by
 intro d s σ H Q I h;refine BoolOp_or (av (i d s σ H _ I h) λv s1 ⟨x,g,f,j,e⟩=>?_);cases x with
 | bl c =>
  cases j;refine wpAny_truthy_bool ?_;cases c with
  | false=>exact hb d s1 σ g Q f e
  | true=>exact⟨.bl true,g,f,rfl,e⟩
 | _=>exact False.elim e
def Nv(e:PE X a ta):PE X (.UnaryOp .Not a pos) (CN ta):=by
 intro b s σ H Q I h;refine UnaryOp_ (av (e b s σ H _ I h) λv s1 ⟨x,i,g,f,d⟩=>?_);cases x with
 | bl c =>
  cases f;exact not_of (wpAny_truthy_bool ⟨.bl (!c),i,g,Z,d⟩)
 | _=>exact False.elim d
def mB(t:TE):TT:=λσ H Q=>t σ H λx a=>match x with
 | .bl c=>Q c a
 | _=>False
def Ms{e:Expr}{t:TE}(h:PE X e t)(g:∀whole,isTrue e X.env whole=(do let v <- whole;standAt e.pos;holding [v] (truthy v)):=by intro _;rfl):PT X e (mB t):=by
 intro a s σ H Q I hw;refine isTrue_plain (av (h a s σ H _ I hw) λv s1 ⟨x,i,f,d,b⟩=>?_) (g _);cases x with
 | bl c =>
  cases d;exact wpAny_truthy_bool ⟨i,f,b⟩
 | _=>exact False.elim b
def Mw{e:CmpOp}{r:R2}(j:aV X (compareOp e) r)(g:PE X a ta)(hb:PE X b tb)(hm:behindInMarks e b=false):PT X (.Compare a [e] [b] pos) (mB (fH r ta tb)):=by
 intro d s σ H Q I h;refine wpAny_isTrue_Compare1 (av (g d s σ H _ I h) λv s1 ⟨x,G,l,i,q⟩=>av (hb d s1 σ G _ l q) λu C ⟨y,n,F,p,o⟩ =>
  av (j d C σ n x y v u _ F i p o) λc J ⟨z,B,m,D,f⟩=>?_) hm
 cases z with
 | bl k =>
  cases D;exact wpAny_truthy_bool ⟨B,m,f⟩
 | _=>exact False.elim f
def pH(r f:R2)(g tb c:TE):TE:=λσ H Q=>g σ H λx h=>tb σ h λy d=>r x y d λz a=>match z with
 | .bl k=>if k=true then c σ a λe b=>f y e b Q else Q (.bl false) a
 | _=>False
def ND{c:Expr}{l:TE}{j f:CmpOp}{r o:R2}(F:aV X (compareOp j) r)(i:aV X (compareOp f) o)(q:PE X a ta)(hb:PE X b tb)(G:PE X c l)
 (hm:lastMarks [j,f] [b,c]=false:=by with_unfolding_all rfl):PE X (.Compare a [j,f] [b,c] pos) (pH r o ta tb l):=by
 intro e s σ H Q I h;refine Compare_chain (av (q e s σ H _ I h) λv s1 ⟨x,N,C,O,W⟩=>chain_link (av (hb e s1 σ N _ C W) λu s2 ⟨y,S,L,p,D⟩ =>
  av (F e s2 σ S x y v u _ L O p D) λd s3 ⟨z,n,m,Y,g⟩=>?_)) hm
 cases z with
 | bl k =>
  cases Y;refine wpAny_truthy_bool ?_;cases k with
  | false=>exact ite_ff ⟨.bl false,n,m,rfl,g⟩
  | true=>exact ite_tt (chain_last (av (G e s3 σ n _ m g) λw' R ⟨U,B,M,J,V⟩=>i e R σ B y U u w' Q M p J V))
 | _=>exact False.elim g
def Mx{c:Expr}{l:TE}{j f:CmpOp}{r p:R2}(J:aV X (compareOp j) r)(i:aV X (compareOp f) p)(B:PE X a ta)(hb:PE X b tb)(M:PE X c l)
 (hm:lastMarks [j,f] [b,c]=false:=by with_unfolding_all rfl):PT X (.Compare a [j,f] [b,c] pos) (mB (pH r p ta tb l)):=by
 intro e s σ H Q I h;refine isTrue_chain (av (B e s σ H _ I h) λv s1 ⟨x,S,D,U,q1⟩=>test_link (av (hb e s1 σ S _ D q1) λu s2 ⟨y,W,O,q,G⟩ =>
  av (J e s2 σ W x y v u _ O U q G) λd s3 ⟨z,o,m,r3,g⟩=>?_)) hm
 cases z with
 | bl k =>
  cases r3;refine wpAny_truthy_bool ?_;cases k with
  | false=>exact ite_ff ⟨o,m,g⟩
  | true =>
   refine ite_tt (test_last (av (M e s3 σ o _ m g) λw' V ⟨Y,C,R,N,q4⟩=>av (i e V σ C y Y u w' _ R q N q4) λd' s5 ⟨z2,F,I5,L,n⟩=>?_));cases z2 with
   | bl k2 =>
    cases L;exact wpAny_truthy_bool ⟨F,I5,n⟩
   | _=>exact False.elim n
 | _=>exact False.elim g
def uj(K:W.Frag)(t:TE):TT:=λσ H Q=>t σ H λx a=>match x with
 | .non=>Q false a
 | .bl c=>Q c a
 | .int i=>Q (i != 0) a
 | .ref p=>∃xs,(aI K a p xs\/be K a p xs)/\Q (!xs.isEmpty) a
 | _=>False
def Mt{e:Expr}{t:TE}(h:PE X e t)(j:∀whole,isTrue e X.env whole=(do let v <- whole;standAt e.pos;holding [v] (truthy v)):=by intro _;rfl):PT X e (uj X.K t):=by
 intro a s σ H Q I hw;refine isTrue_plain (av (h a s σ H _ I hw) λv s1 ⟨x,g,f,d,b⟩=>?_) (j _);cases x with
 | non=>exact l9 a s1 σ g _ v Q f d ⟨false,rfl,b⟩
 | bl c=>exact l9 a s1 σ g _ v Q f d ⟨c,rfl,b⟩
 | int i=>exact l9 a s1 σ g _ v Q f d ⟨i != 0,rfl,b⟩
 | ref p =>
  obtain⟨xs,hx,b⟩:=b;rcases hx with hx|hx
  ·exact l9 a s1 σ g _ v Q f d ⟨_,.inl ⟨xs,hx,Z⟩,b⟩
  ·exact l9 a s1 σ g _ v Q f d ⟨_,.inr (.inl ⟨xs,hx,Z⟩),b⟩
 | _=>exact False.elim b
end
section
variable {X:Cx}{a b:Expr}{ta tb:TE}{pos:Pos}
def gI(C:Int->Int->Prop)(g:Int->Int->V):R2:=λx y H Q=>match x,y with
 | .int i,.int j=>C i j/\Q (g i j) H
 | _,_=>False
def lM(g:Int->Int->V):R2:=λx y H Q=>match x,y with
 | .int i,.int j=>Q (g i j) H
 | _,_=>False
def mS{f:Value->Value->Sem Value}{g:Int->Int->V}(h:aV X f (gM g)):aV X f (lM g):=h.imp λx y H Q q=>by
 cases x<;>cases y<;>first|exact False.elim q|exact⟨_,_,rfl,rfl,q⟩
def p0{f:Value->Value->Sem Value}{C:Int->Int->Prop}{g:Int->Int->V}(h:aV X f (rI C g)):aV X f (gI C g):=h.imp λx y H Q q=>by
 cases x<;>cases y<;>first|exact False.elim q|exact⟨_,_,rfl,rfl,q.1,q.2⟩
def c7:aV X (binaryOp .Sub) (lM λi j=>.int (i-j)):=mS LP
def QD:aV X (binaryOp .FloorDiv) (gI Gd λi j=>.int (i/j)):=p0 Cn
def uO:aV X (binaryOp .Mod) (gI (λ_ j=>0<j) λi j=>.int (i%j)):=p0 Cm
def Qg:aV X (binaryOp .RShift) (gI (λ_ j=>0<=j) λi j=>.int (i/2 ^ j.toNat)):=p0 LQ
def dl:aV X (compareOp .Lt) (lM λi j=>.bl (decide (i<j))):=mS LV
def eQ:aV X (compareOp .LtE) (lM λi j=>.bl (decide (i<=j))):=mS LW
def lL:aV X (compareOp .Gt) (lM λi j=>.bl (decide (j<i))):=mS LZ
def pW:aV X (compareOp .GtE) (lM λi j=>.bl (decide (j<=i))):=mS L0
def CS(j:Int)(a:TE):TE:=λσ H Q=>a σ H λx b=>match x with
 | .int i=>Q (.int (i/j)) b
 | _=>False
def CP(j:Int)(a:TE):TE:=λσ H Q=>a σ H λx b=>match x with
 | .int i=>Q (.int (i%j)) b
 | _=>False
def NB{j:Int}{k:Nat}{p:Pos}(g:PE X a ta)(f:0<j/\j<1073741824:=by decide):PE X (.BinOp a .FloorDiv (.Constant (.int j) k p) pos) (CS j ta):=by
 intro b s σ H Q I h;refine wpAny_BinOp (av (g b s σ H _ I h) λv s1 ⟨x,e,m,l,d⟩=>?_);refine av (mC b s1 σ e (λy c=>y=.int j/\c=e) m ⟨rfl,rfl⟩) λu o ⟨y,c,q,r,z,n⟩=>?_;subst z n;cases x with
 | int i=>exact Cn b o σ c (.int i) (.int j) v u Q q l r ⟨i,j,rfl,rfl,f,d⟩
 | _=>exact False.elim d
def Nz{j:Int}{k:Nat}{p:Pos}(g:PE X a ta)(f:0<j:=by decide):PE X (.BinOp a .Mod (.Constant (.int j) k p) pos) (CP j ta):=by
 intro b s σ H Q I h;refine wpAny_BinOp (av (g b s σ H _ I h) λv s1 ⟨x,e,m,l,d⟩=>?_);refine av (mC b s1 σ e (λy c=>y=.int j/\c=e) m ⟨rfl,rfl⟩) λu o ⟨y,c,q,r,z,n⟩=>?_;subst z n;cases x with
 | int i=>exact Cm b o σ c (.int i) (.int j) v u Q q l r ⟨i,j,rfl,rfl,f,d⟩
 | _=>exact False.elim d
def CO(j:Int)(a:TE):TE:=λσ H Q=>a σ H λx b=>match x with
 | .int i=>Q (.int (i*j)) b
 | _=>False
def Ny{j:Int}{k:Nat}{p:Pos}(g:PE X a ta)(f : -(2 ^ 64)<j/\j<2 ^ 64:=by decide):PE X (.BinOp a .Mult (.Constant (.int j) k p) pos) (CO j ta):=by
 intro b s σ H Q I h;refine wpAny_BinOp (av (g b s σ H _ I h) λv s1 ⟨x,e,m,l,d⟩=>?_);refine av (mC b s1 σ e (λy c=>y=.int j/\c=e) m ⟨rfl,rfl⟩) λu o ⟨y,c,q,r,z,n⟩=>?_;subst z n;cases x with
 | int i=>exact Cl b o σ c (.int i) (.int j) v u Q q l r ⟨i,j,rfl,rfl,.inr f,d⟩
 | _=>exact False.elim d
def oq:nU X (unaryOp .USub) (λx H Q=>match x with|.int i=>Q (.int (-i)) H|_=>False):=by
 intro a s σ H x v Q I b q;cases x with
 | int i=>exact Gq a s σ H _ v Q I b ⟨i,rfl,q⟩
 | _=>exact False.elim q
end
section
variable {X:Cx}
def RD{c:List (Addr × Obj)}{s:h6}{σ:St}{H:Hp}{l b:Addr}{xs zs:List V}{Q:VK}(I:af X c σ H s)(hl:aI X.K H l xs)(hb:aI X.K H b zs)(hz:xs.length+zs.length<=sizeLine)
 (q:∀p H',bi H p (.lst (xs++zs)) H'->Q (.ref p) H'):wpAny (model X.prog X.w) X.A (binaryOp .Add (.ref l) (.ref b)) (EP X c σ Q) X.xe s:=by
 obtain⟨d,r,pl,_⟩:=I.list hl;obtain⟨a,v,k,_⟩:=I.list hb;have D:=r.length;have C:=v.length;obtain⟨⟨cls,y,data,z⟩,o,u,n,hd⟩:=pl.isList;obtain⟨⟨m,i,h,j⟩,e,f,x,g⟩:=k.isList;simp only at u hd f g;subst u hd f g;have B:d.toArray++a.toArray=(d++a).toArray:=by simp
 refine concat_meets ⟨_,o,rfl⟩ ⟨_,e,rfl⟩ noFill_list_add seq_list_add PySem.F.slot_list_add PySem.F.entry_list_add (PySem.F.args_list_add_2 _ _) (list_addW l b d.toArray a.toArray n x y i z j (by rw[Wd,Wd];omega)) ⟨o,e,?_⟩;rw[B];exact⟨.ref _,_,I.lnew (t':=s.toks) (r.append v) (by rw[Wb];omega),rfl,q _ _ (.mk' I.fresh)⟩
def D4(K:W.Frag):R2:=λx y H Q=>match x,y with
 | .int i,.int j=>Q (.int (i+j)) H
 | .ref l,.ref b=>∃xs zs,aI K H l xs/\aI K H b zs/\xs.length+zs.length<=sizeLine/\∀p H',bi H p (.lst (xs++zs)) H'->Q (.ref p) H'
 | _,_=>False
def QP:aV X (binaryOp .Add) (D4 X.K):=by
 intro a s σ H x y v u Q I c d q;cases x with
 | int i =>
  cases y with
  | int j=>exact L1 a s σ H _ _ v u Q I c d ⟨i,j,rfl,rfl,q⟩
  | _=>exact False.elim q
 | ref l =>
  cases y with
  | ref b =>
   obtain⟨xs,zs,e,f,g,q⟩:=q;cases c;cases d;exact RD I e f g q
  | _=>exact False.elim q
 | _=>exact False.elim q
def QR:R2:=λx y H Q=>match x,y with
 | .int i,.int j=>sU i j/\Q (.int (i*j)) H
 | .ref l,.int k=>∃xs,H l=some (.lst xs)/\-(2 ^ 63)<=k/\k<2 ^ 63/\xs.length*k.toNat<=sizeLine/\∀p H',bi H p (.lst (List.replicate k.toNat xs).flatten) H'->Q (.ref p) H'
 | _,_=>False
def eP:aV X (binaryOp .Mult) QR:=by
 intro a s σ H x y v u Q I b c q;cases x with
 | int i =>
  cases y with
  | int j=>exact Cl a s σ H _ _ v u Q I b c ⟨i,j,rfl,rfl,q.1,q.2⟩
  | _=>exact False.elim q
 | ref l =>
  cases y with
  | int k =>
   obtain⟨xs,g,h,f,d,q⟩:=q;exact LR a s σ H _ _ v u Q I b c ⟨l,k,xs,Z,Z,g,h,f,d,λp e=>q p _ (.mk' e)⟩
  | _=>exact False.elim q
 | _=>exact False.elim q
def uu(x:V)(c:Bool):Bool:=match x with
 | .bl d=>d == c
 | _=>false
def BQ{x:V}{v:Value}{c:Bool}(r:aN x v)(a:∀f,x ≠ .ty f):plainIs v (.bool c)=true/\(v == Value.bool c)=uu x c:=by
 cases x with
 | non=>cases r;exact⟨rfl,rfl⟩
 | bl d=>cases r;exact⟨rfl,by cases d<;>cases c<;>rfl⟩
 | int _=>obtain⟨t,rfl⟩:=r;exact⟨rfl,rfl⟩
 | str _=>obtain⟨t,rfl⟩:=r;exact⟨rfl,rfl⟩
 | byt _=>obtain⟨t,rfl⟩:=r;exact⟨rfl,rfl⟩
 | flt _=>obtain⟨t,rfl⟩:=r;exact⟨rfl,rfl⟩
 | ref _=>cases r;exact⟨rfl,rfl⟩
 | ty f=>exact YC rfl (a f)
def pY(neg:Bool):R2:=λx y H Q=>match y with
 | .non=>Q (.bl (if neg then !decide (x=.non) else decide (x=.non))) H
 | .bl c=>(∀f,x ≠ .ty f)/\Q (.bl (if neg then !uu x c else uu x c)) H
 | _=>False
def fA:aV X (compareOp .Is) (pY false):=by
 intro a s σ H x y v u Q I b d q;cases y with
 | non=>exact LX a s σ H x _ v u Q I b d ⟨rfl,q⟩
 | bl c =>
  cases d;obtain⟨f,e⟩:=BQ (c:=c) b q.1;exact wpAny_is_plain f ⟨.bl _,H,I,by rw[e];rfl,q.2⟩
 | _=>exact False.elim q
def mQ:aV X (compareOp .IsNot) (pY true):=by
 intro a s σ H x y v u Q I b d q;cases y with
 | non=>exact LS a s σ H x _ v u Q I b d ⟨rfl,q⟩
 | bl c =>
  cases d;obtain⟨f,e⟩:=BQ (c:=c) b q.1;exact wpAny_isNot_plain f ⟨.bl _,H,I,by rw[e];rfl,q.2⟩
 | _=>exact False.elim q
end
def ba(K:W.Frag)(H:Hp)(d:PyData)(x:V):Prop:=∀(X:Cx) (a:List (Addr × Obj)) (σ:St) (s:h6) (u:Value),X.K=K->af X a σ H s->aN x u->∃as,Reads s.heap u d as
def bG(K:W.Frag)(H:Hp)(ds:List PyData)(xs:List V):Prop:=∀(X:Cx) (a:List (Addr × Obj)) (σ:St) (s:h6) (us:List Value),X.K=K->af X a σ H s->aA xs us->∃as,ReadsAll s.heap us ds as
section
variable {K:W.Frag}{H:Hp}
def ba.non:ba K H .none .non:=λ_ _ _ _ _ _ _ r=>by cases r;exact⟨_,.none⟩
def ba.int(i:Int):ba K H (.int i) (.int i):=λ_ _ _ _ _ _ _ r=>by obtain⟨t,rfl⟩:=r;exact⟨_,.int i t⟩
def ba.str(x:Str):ba K H (.str x) (.str x):=λ_ _ _ _ _ _ _ r=>by obtain⟨t,rfl⟩:=r;exact⟨_,.str x t⟩
def bG.nil:bG K H [] []:=λ_ _ _ _ _ _ _ r=>by cases r;exact⟨_,.nil⟩
def bG.cons{d:PyData}{ds:List PyData}{x:V}{xs:List V}(a:ba K H d x)(b:bG K H ds xs):bG K H (d::ds) (x::xs):=λX c σ s us e I r=>by
 cases r with
 | cons r1 r2 =>
  obtain⟨as,f⟩:=a X c σ s _ e I r1;obtain⟨bs,hb⟩:=b X c σ s _ e I r2;exact⟨_,.cons f hb⟩
def ba.lst{ds:List PyData}{p:Addr}{xs:List V}(h:aI K H p xs)(b:bG K H ds xs):ba K H (.list ds) (.ref p):=λX a σ s u e I r=>by
 cases r;subst e;obtain⟨c,i,⟨o,n,f,g,_,hd⟩,_⟩:=I.list h;obtain⟨as,d⟩:=b X a σ s c rfl I i;exact⟨_,.list f g hd (by simpa using d)⟩
def ba.tup{ds:List PyData}{p:Addr}{xs:List V}(h:be K H p xs)(b:bG K H ds xs):ba K H (.tuple ds) (.ref p):=λX a σ s u e I r=>by
 cases r;subst e;obtain⟨c,i,⟨o,f,g,n,hd⟩,_⟩:=I.tuple h;obtain⟨as,d⟩:=b X a σ s c rfl I i;exact⟨_,.tuple f g hd (by simpa using d)⟩
theorem bG.ints:∀ns:g0,bG K H (ns.map PyData.int) (ns.map V.int)
 | []=>.nil
 | n::ns=>.cons (.int n) (bG.ints ns)
end
open SeqAt (shaped)
def mT(K:W.Frag)(neg:Bool):R2:=λx y H Q=>match x,y with
 | .int i,.int j=>Q (.bl (if neg then !decide (i=j) else decide (i=j))) H
 | .bl a,.bl b=>Q (.bl (if neg then !(a == b) else a == b)) H
 | _,_=>∃d e,ba K H d x/\ba K H e y/\shaped d=true/\shaped e=true/\Q (.bl (if neg then !d.eqv e else d.eqv e)) H
section
variable {X:Cx}
def D9{a:List (Addr × Obj)}{s:h6}{σ:St}{H:Hp}{x y:V}{v u:Value}{Q:VK}{neg:Bool}(b:X.A.units+64<cLine)(I:af X a σ H s)(h:aN x v)(j:aN y u)
 (q:∃d e,ba X.K H d x/\ba X.K H e y/\shaped d=true/\shaped e=true/\Q (.bl (if neg then !d.eqv e else d.eqv e)) H) :
 wpAny (model X.prog X.w) X.A (compareOp (if neg then .NotEq else .Eq) v u) (EP X a σ Q) X.xe s:=by
 obtain⟨d,e,hd,i,g,f,q⟩:=q;obtain⟨as,c⟩:=hd X a σ s v rfl I h;obtain⟨bs,rb⟩:=i X a σ s u rfl I j;cases neg with
 | true=>exact ne_dataH c rb g f b ⟨.bl _,H,I,rfl,q⟩
 | false=>exact eq_dataH c rb g f b ⟨.bl _,H,I,rfl,q⟩
def Ee{i j:Int}:decide (V.int i=V.int j)=decide (i=j):=by simp
def QF(d:X.A.units+64<cLine):aV X (compareOp .Eq) (mT X.K false):=by
 intro a s σ H x y v u Q I b c q;have D:=λe=>D9 (neg:=false) (Q:=Q) d I b c e;cases x with
 | int i =>
  cases y with
  | int j=>exact Co a s σ H _ _ v u Q I b c ⟨rfl,by rw[Ee];exact q⟩
  | _=>exact D q
 | bl i =>
  cases y with
  | bl j=>exact Co a s σ H _ _ v u Q I b c ⟨rfl,by rw[qv];exact q⟩
  | _=>exact D q
 | _=>exact D q
def Ql(d:X.A.units+64<cLine):aV X (compareOp .NotEq) (mT X.K true):=by
 intro a s σ H x y v u Q I b c q;have D:=λe=>D9 (neg:=true) (Q:=Q) d I b c e;cases x with
 | int i =>
  cases y with
  | int j=>exact Ck a s σ H _ _ v u Q I b c ⟨rfl,by rw[Ee];exact q⟩
  | _=>exact D q
 | bl i =>
  cases y with
  | bl j=>exact Ck a s σ H _ _ v u Q I b c ⟨rfl,by rw[qv];exact q⟩
  | _=>exact D q
 | _=>exact D q
def pZ(K:W.Frag)(neg:Bool):R2:=λx y H Q=>match y with
 | .ref p=>∃xs,(aI K H p xs\/be K H p xs)/\fQ x=true/\xs.all fQ=true/\Q (.bl (if neg then !eE x xs else eE x xs)) H
 | _=>False
def QB:aV X (compareOp .In) (pZ X.K false):=LY.imp λx y H Q q=>by
 cases y with
 | ref p=>obtain⟨xs,c,b,a,q⟩:=q;exact⟨p,xs,Z,c,b,a,q⟩
 | _=>exact False.elim q
def Qk:aV X (compareOp .NotIn) (pZ X.K true):=LU.imp λx y H Q q=>by
 cases y with
 | ref p=>obtain⟨xs,c,b,a,q⟩:=q;exact⟨p,xs,Z,c,b,a,q⟩
 | _=>exact False.elim q
def DZ(K:W.Frag):R2:=λx y H Q=>match x,y with
 | .ref p,.int i=>∃xs v,(aI K H p xs\/be K H p xs)/\cD xs i=some v/\Q v H
 | _,_=>False
def Qq:eT X (DZ X.K):=(N5.or N4).imp λx y H Q q=>by
 cases x with
 | ref p =>
  cases y with
  | int i =>
   obtain⟨xs,v,a,b,q⟩:=q;rcases a with a|a
   ·exact .inl ⟨p,xs,i,v,Z,Z,a,b,q⟩
   ·exact .inr ⟨p,xs,i,v,Z,Z,a,b,q⟩
  | _=>exact False.elim q
 | _=>exact False.elim q
def yN{α:Type}{xs:List α}{i:Int}(a:0<=i)(b:i<xs.length):∃v,v∈xs/\cD xs i=some v/\xs[i.toNat]? = some v:=by
 have hl:i.toNat<xs.length:=by omega
 refine⟨xs[i.toNat],List.getElem_mem hl,?_,by simp[hl]⟩;have e:xs[i.toNat]? = some xs[i.toNat]:=by simp[hl]
 have:=aX e
 rwa [Int.toNat_of_nonneg a]at this
def DX(K:W.Frag):V->Option Int->Option Int->Hp->VK->Prop:=λx lo b H Q=>match x with
 | .ref a=>∃xs,aI K H a xs/\∀p H',bi H p (.lst (cX xs lo b)) H'->Q (.ref p) H'
 | _=>False
def Qe:iD X (DX X.K):=by
 intro b s σ H x v f c lo e i Q I h hs pl d q;cases x with
 | ref a=>obtain⟨xs,j,q⟩:=q;exact IG b s σ H _ v f c lo e i Q I h hs pl d ⟨a,xs,Z,j,λp g=>q p _ (.mk' g)⟩
 | _=>exact False.elim q
def uR(K:W.Frag):List V->Hp->VK->Prop:=λxs H Q=>match xs with
 | [.ref p]=>∃ys,(aI K H p ys\/be K H p ys)/\Q (.int ys.length) H
 | _=>False
def RP:cB X (.builtin "len") (uR X.K):=RH.imp λxs H Q q=>by
 unfold uR at q
 split at q
 ·obtain⟨b,a,q⟩:=q;exact⟨_,b,Z,a,q⟩
 ·exact q.elim
def uQ(K:W.Frag):List V->Hp->VK->Prop:=λxs H Q=>match xs with
 | [.ref p]=>∃ys,(aI K H p ys\/be K H p ys)/\∀l H',bi H l (.lst ys) H'->Q (.ref l) H'
 | _=>False
def RO:cB X (.type "list") (uQ X.K):=RG.imp λxs H Q q=>by
 unfold uQ at q
 split at q
 ·obtain⟨b,a,q⟩:=q;exact⟨_,b,Z,a,λl hl=>q l _ (.mk' hl)⟩
 ·exact q.elim
def D1:List V->Hp->VK->Prop:=λxs H Q=>match xs with
 | [.int i]=>Q (.int i) H
 | [.bl k]=>Q (.int (if k then 1 else 0)) H
 | _=>False
def rG:cB X (.type "int") D1:=RI.imp λxs H Q q=>by
 unfold D1 at q
 split at q
 ·exact .inl ⟨_,Z,q⟩
 ·exact .inr ⟨_,Z,q⟩
 ·exact q.elim
def DY:List V->Hp->VK->Prop:=λxs H Q=>match xs with
 | [.int i,.int j]=>Q (.int (if j<i then j else i)) H
 | _=>False
def RN (a:X.calm=true):cB X (.builtin "min") DY:=(RF a).imp λxs H Q q=>by
 unfold DY at q
 split at q
 ·exact⟨_,_,Z,q⟩
 ·exact q.elim
def uS(K:W.Frag):List V->Hp->VK->Prop:=λxs H Q=>match xs with
 | [x,.ty T]=>∃t b,cj K H x t/\W.kitOne K t (.type T)=some b/\Q (.bl b) H
 | [x,.ref C]=>∃t b,cj K H x t/\W.kitOne K t (.ref C)=some b/\Q (.bl b) H
 | _=>False
def RQ:cB X (.builtin "isinstance") (uS X.K):=by
 intro f s σ H xs us Q I r q;unfold uS at q
 split at q
 ·obtain⟨t,b,d,c,q⟩:=q;obtain⟨u,h,rfl,a,e⟩:=tj r;cases e;exact De I a d c λg=>⟨.bl b,H,I.tok _,Z,q⟩
 ·obtain⟨t,b,d,c,q⟩:=q;obtain⟨u,h,rfl,a,e⟩:=tj r;cases e;exact De I a d c λg=>⟨.bl b,H,I.tok _,Z,q⟩
 ·exact q.elim
def R4 {x:Str} {T:String} {pos:Pos} (a:Gl X x) (hm:X.mg x=none) (b:bootBuiltins x=some (.type T)) (c:x ≠ "__name__":=by decide) (hd:(x == ("__debug__" : Str))=false:=by decide):PE X (.Name x pos) (tC (.ty T)) :=
 LK a hm b rfl c hd
end
def dj:Expr->Bool
 | .Starred _ _=>true
 | _=>false
def bV{e:Expr}{a:List Expr}{env:Env}(h:dj e=false):starEach (e::a) env=(false,eval e env)::starEach a env:=by
 cases e<;>first|rfl|cases h
def cu:List Expr->Bool
 | []=>true
 | e::r=>!dj e && cu r
theorem dN{env:Env}{pos:Pos}:∀ {a:List Expr},cu a=true->(backTo pos (starEach a env)).any (·.1)=false
 | [],_=>rfl
 | e::r,h=>by
  have h':(!dj e && cu r)=true:=h;rw[Wy]at h';have b:dj e=false:=by simpa using h'.1
  rw[bV b];show (false || (backTo pos (starEach r env)).any (·.1))=false;rw[Bool.false_or];exact dN h'.2
def bR{e:Expr}{a:List Expr}(h:cu (e::a)=true):dj e=false/\cu a=true:=by
 have h':(!dj e && cu a)=true:=h;rw[Wy]at h';exact⟨by simpa using h'.1,h'.2⟩
def Cj{X:Cx}{e:Expr}{a:List Expr}{b:TE}{t:TA}(c:PE X e b)(hr:PA X a t)(hs:dj e=false:=by rfl):PA X (e::a) (tE b t):=LM c hr (bV hs)
def qT:Expr->Option V
 | .Constant (.int i) _ _=>some (.int i)
 | .Constant (.bool b) _ _=>some (.bl b)
 | .Constant .none _ _=>some .non
 | .Constant (.str x) _ _=>some (.str x)
 | _=>none
def qS:List Expr->Option (List V)
 | []=>some []
 | e::r=>match qT e,qS r with
  | some v,some vs=>some (v::vs)
  | _,_=>none
def AW(vs:List V):TA:=λ_ H Q=>Q vs H
def LA{X:Cx}{e:Expr}{v:V}(h:qT e=some v):PE X e (tC v):=by
 unfold qT at h
 split at h
 ·cases h;exact mC
 ·cases h;exact Ce
 ·cases h;exact Cb
 ·cases h;exact Ca
 ·cases h
def Rx{e:Expr}{v:V}(h:qT e=some v):dj e=false:=by
 cases e<;>first|rfl|cases h
theorem Ci{X:Cx}:∀ {a:List Expr} {vs:List V},qS a=some vs->PA X a (AW vs)
 | [],vs,h=>by
  cases h;exact Cg
 | e::r,vs,h=>by
  unfold qS at h
  split at h
  ·rename_i v ws h1 h2;cases h;exact Cj (LA h1) (Ci h2) (Rx h1)
  ·cases h
section
variable {X:Cx}{es:List Expr}{t:TA}{pos:Pos}
def CL(t:TA):TE:=λσ H Q=>t σ H λxs a=>xs.length<=sizeLine/\∀p H',bi a p (.tup xs) H'->Q (.ref p) H'
def CQ(t:TA):TE:=λσ H Q=>t σ H λxs a=>xs.length<=sizeLine/\∀p H',bi a p (.lst xs) H'->Q (.ref p) H'
def Nr{x1}(h:PA X es t):PE X (.Tuple es x1 pos) (CL t):=by
 intro a s σ H Q I g;refine wpAny_Tuple_spliced (av (h pos a s σ H _ I g) λus s1 ⟨xs,d,c,r,z,q⟩=>⟨by rw[<- r.length];exact z,?_⟩);have f:d s1.heap.objs.size=none:=c.hok.fresh (V5 _);refine⟨.ref s1.heap.objs.size,upd d s1.heap.objs.size (.tup xs),c.laid (t':=s1.toks) (λb u e=>V9 _ e) (V5 _) ?_,Z,q _ _ (.mk' f)⟩;exact⟨z,us,r,⟨_,Ws _ Z,Z,_,Z⟩⟩
def NA(h:PA X es t):PE X (.List es pos) (CQ t):=by
 intro a s σ H Q I g;refine wpAny_List_spliced (av (h pos a s σ H _ I g) λus s1 ⟨xs,d,c,r,z,q⟩=>⟨by rw[<- r.length];exact z,?_⟩);have f:d s1.heap.objs.size=none:=c.hok.fresh (V5 _);refine⟨.ref s1.heap.objs.size,upd d s1.heap.objs.size (.lst xs),c.laid (t':=s1.toks) (λb u e=>V9 _ e) (V5 _) ?_,Z,q _ _ (.mk' f)⟩;exact⟨z,us,0,r,Ws _ Z⟩
def CT:TE:=λ_ H Q=>∀p H',bi H p (.dK []) H'->Q (.ref p) H'
def NC:PE X (.Dict [] [] pos) CT:=Lx.imp λσ H Q q=>λp a=>q p _ (.mk' a)
end
def bM{Q:VK}{H:Hp}{a b:Bool}(k:Q (.bl a) H)(e:a=b):Q (.bl b) H:=e ▸ k
def pM:V->Bool
 | .int _=>true
 | .bl _=>true
 | _=>false
def pN:V->Bool
 | .bl _=>true
 | _=>false
inductive eA (K:W.Frag) (H:Hp):V->Prop where
 | non:eA K H .non
 | bl (b:Bool):eA K H (.bl b)
 | int (i:Int):eA K H (.int i)
 | str (x:Str):eA K H (.str x)
 | lst {a:Addr} {xs:List V} (e:H a=some (.lst xs)):eA K H (.ref a)
 | tup {a:Addr} {xs:List V} (e:H a=some (.tup xs)):eA K H (.ref a)
 | dK {a:Addr} {kvs:List (aS × V)} (e:H a=some (.dK kvs)):eA K H (.ref a)
def eA.isInt {K:W.Frag} {H:Hp} {v:V} (k:eA K H v):∃ty,cj K H v ty/\W.kitOne K ty (.type "int")=some (pM v):=by
 cases k with
 | non=>exact⟨_,.non,by with_unfolding_all rfl⟩
 | bl b=>exact⟨_,.bl b,by with_unfolding_all rfl⟩
 | int i=>exact⟨_,.int i,by with_unfolding_all rfl⟩
 | str x=>exact⟨_,.str x,by with_unfolding_all rfl⟩
 | lst e=>exact⟨_,.lst e,by with_unfolding_all rfl⟩
 | tup e=>exact⟨_,.tup e,by with_unfolding_all rfl⟩
 | dK e=>exact⟨_,.dK e,by with_unfolding_all rfl⟩
def eA.isBl {K:W.Frag} {H:Hp} {v:V} (k:eA K H v):∃ty,cj K H v ty/\W.kitOne K ty (.type "bool")=some (pN v):=by
 cases k with
 | non=>exact⟨_,.non,by with_unfolding_all rfl⟩
 | bl b=>exact⟨_,.bl b,by with_unfolding_all rfl⟩
 | int i=>exact⟨_,.int i,by with_unfolding_all rfl⟩
 | str x=>exact⟨_,.str x,by with_unfolding_all rfl⟩
 | lst e=>exact⟨_,.lst e,by with_unfolding_all rfl⟩
 | tup e=>exact⟨_,.tup e,by with_unfolding_all rfl⟩
 | dK e=>exact⟨_,.dK e,by with_unfolding_all rfl⟩
def sz{n:Nat}(h:Nat.ble n 1000=true):n<=sizeLine:=Wq (Wf h) (by decide)
def bA{n:Nat}(h:n<=100000):n<=sizeLine:=Wq h (by decide)
def cZ{n:Nat}(h:n<=100000):n<sizeLine:=Nat.lt_of_le_of_lt h (by decide)
section
variable {X:Cx}
def JZ(bs:List Bool):(List.range bs.length).map (λi=>(bs[i]?).getD false)=bs:=by
 apply List.ext_getElem
 ·simp
 ·intro i b a;simp[WG a]
def J0(bs:List Bool):((List.range bs.length).all λi=>(bs[i]?).getD false)=bs.all id:=by
 conv=>rhs;rw[<- JZ bs]
 rw[List.all_map]
 rfl
def uU(K:W.Frag)(one:Bool):List V->Hp->VK->Prop:=λxs H Q=>match xs with
 | [.ref p]=>∃bs:List Bool,aI K H p (bs.map V.bl)/\Q (.bl (if one then bs.any id else bs.all id)) H
 | _=>False
def Sa{prog:Program}{w:World}{A:Around}{bs:List Bool}{a:List Value}(r:aA (bs.map V.bl) a):TruthOf prog w A (λi v=>a.toArray[i]? = some v) λi=>(bs[i]?).getD false:=λi v s Q E hP hQ=>by
 dsimp only at hP hQ;have d:i<a.length:=by
  have:=(XS.mp hP).1;simpa using this
 have hl:=r.length;rw[V4]at hl;have hb:i<bs.length:=by omega
 obtain⟨u,b,c⟩:=r.get (i:=i) (x:=V.bl bs[i]) (by simp[hb]);have e:a.toArray[i]? = some u:=by simpa using b
 rw[e]at hP;cases hP;cases c;rw[WG hb]at hQ;exact wpAny_truthy_bool hQ
def RS (j:X.calm=true):cB X (.builtin "all") (uU X.K false):=by
 intro d s σ H xs us Q I r q;unfold uU at q
 split at q
 ·rename_i p;obtain⟨bs,l,q⟩:=q;obtain⟨u,rfl,h⟩:=jk r;cases h;obtain⟨a,f,pl,_⟩:=I.list l;have hl:=f.length;rw[V4]at hl;have c:p≠s.heap.objs.size:=by
   obtain⟨o,n,e,_⟩:=pl;exact Wc (V7 e)
  refine call_all_walk (wpAny_pyIter_list pl.isList ⟨s.heap.objs.size,_,_,_,_,_,λi=>(bs[i]?).getD false,rfl,Walks.list (A:=X.A.in1) (show X.A.in1.handled=none from I.ok.hd j) s.heap.objs.size p c a.toArray,⟨⟨_,Ws _ rfl,rfl,rfl⟩,?_⟩,Sa f,λh' g k=>?_⟩)
  ·exact pl.isList.at λo e=>V9 _ e
  ·refine⟨.bl _,H,I.kept (h':=h') (t':=g) λb o e=>k b o (λz=>?_) (V9 _ e),?_,q⟩
   ·have e':b=s.heap.objs.size:=by simpa using z
    exact YC (V7 e) (by rw[e'];exact Wz _)
   ·show Value.bool _=Value.bool _;rw[Wd,<- hl,J0]
    rfl
 ·exact q.elim
def uP(K:W.Frag):List V->Hp->VK->Prop:=λxs H Q=>match xs with
 | [.ref p]=>∃ys,aI K H p ys/\∀l H',bi H l (.tup ys) H'->Q (.ref l) H'
 | _=>False
def RM:cB X (.type "tuple") (uP X.K):=RE.imp λxs H Q q=>by
 unfold uP at q
 split at q
 ·obtain⟨b,a,q⟩:=q;exact⟨_,b,Z,.inl ⟨a,λl hl=>q l _ (.mk' hl)⟩⟩
 ·exact q.elim
def D3:V->List V->Hp->VK->Prop:=λx vs H Q=>match x,vs with
 | .ref l,[y]=>∃xs,H l=some (.lst xs)/\xs.length<sizeLine/\Q .non (upd H l (.lst (xs++[y])))
 | _,_=>False
def dO:fW X "list.append" D3:=by
 intro a s σ H x vs v us Q I b e q;unfold D3 at q
 split at q
 ·obtain⟨xs,d,c,q⟩:=q;exact Mz a s σ H _ _ v us Q I b e ⟨_,xs,_,Z,Z,d,c,q⟩
 ·exact q.elim
def uT(K:W.Frag):V->List V->Hp->VK->Prop:=λx vs H Q=>match x,vs with
 | .ref l,[.ref b]=>∃xs zs,H l=some (.lst xs)/\H b=some (.lst zs)/\xs.length+zs.length<=sizeLine/\Q .non (upd H l (.lst (xs++zs)))
 | _,_=>False
def Np:fW X "list.extend" (uT X.K):=by
 intro a s σ H x vs v us Q I c f q;unfold uT at q
 split at q
 ·obtain⟨xs,zs,b,e,d,q⟩:=q;exact Mv a s σ H _ _ v us Q I c f ⟨_,_,xs,zs,Z,Z,b,e,d,q⟩
 ·exact q.elim
end
structure bh (P:Program) (w:World) (K:W.Frag) (mg:Str->Option Value) (base:Heap) (x:Str) (k:Nat) (f:Addr) (fd:FuncData) (ps:List Str) (sp:Sp):Prop where
 gm:mg x=some (.ref f)
 kp:W.keepIn K (.ref f)=true
 b:ao K fd ps []
 ok:bn P w K mg base bD k f fd ps sp
section
variable {X:Cx}{k j:Nat}{f:Addr}{fd:FuncData}{ps:List Str}{sp:Sp}{x:Str}{p pos:Pos}{e:Expr}{es:List Expr}{t:TA}
def RL(F:bh X.prog X.w X.K X.mg X.base x j f fd ps sp)(hr:bt k X.A)(g:PA X (e::es) t)(d:j<=k:=by decide)(h:Gl X x:=by rfl)
 (a:(x == ("__debug__" : Str))=false:=by decide) (c:cu (e::es)=true:=by rfl) :
 PE X (.Call (.Name x p) (e::es) [] pos) (jn sp [] E0 t):=LF F.ok (hr.mono d) h F.gm F.kp F.b .nil Cf g a (bV (bR c).1) (dN (bR c).2)
def RK{id:String}{r:List V->Hp->VK->Prop}(g:cB X (.builtin id) r)(hm:X.mg x=none)(d:bootBuiltins x=some (.builtin id))(c:PA X (e::es) t)(f:Gl X x:=by rfl)(hx:x ≠ "__name__":=by decide)(a:(x == ("__debug__" : Str))=false:=by decide)
 (b:cu (e::es)=true:=by rfl):PE X (.Call (.Name x p) (e::es) [] pos) (jo r t):=LE g f hm d c hx a (bV (bR b).1) (dN (bR b).2)
def RJ{T:String}{r:List V->Hp->VK->Prop}(g:cB X (.type T) r)(hm:X.mg x=none)(d:bootBuiltins x=some (.type T))(c:PA X (e::es) t)(f:Gl X x:=by rfl)(hx:x ≠ "__name__":=by decide)(a:(x == ("__debug__" : Str))=false:=by decide)
 (b:cu (e::es)=true:=by rfl):PE X (.Call (.Name x p) (e::es) [] pos) (jo r t):=LD g f hm d c hx a (bV (bR b).1) (dN (bR b).2)
def gi{n:Int}{u:Tok}(hm:X.mg x=some (.int n u))(a:Gl X x:=by rfl)(hd:(x == ("__debug__" : Str))=false:=by decide):PE X (.Name x pos) (tC (.int n)):=Cd a hm ⟨u,rfl⟩ hd
end
def eS(cells:List (Str × Addr)):List (Str × NameKind)->List (Str × Addr)->List (Str × Addr)
 | [],acc=>acc
 | (n,k)::r,acc=>eS cells r (if (k == NameKind.free)=true then (n,(cells.lookup n).getD 0)::acc else acc)
def Ew{scope:Scope}{env:Env}(h:∀n,(n,NameKind.free)∈scope.names->∃c,env.cells.lookup n=some c):closureFor scope env=pure (eS env.cells scope.names []):=by
 unfold closureFor;have key:∀(l:List (Str × NameKind)) (a:List (Str × Addr)),(∀n,(n,NameKind.free)∈l->∃c,env.cells.lookup n=some c) ->
  (forIn l a (λx __s=>match x with
    | (name,kind) =>
     if (kind == NameKind.free)=true then do
      let __do_lift <- cellOf env name
      pure (ForInStep.yield ((name,__do_lift)::__s))
     else pure (ForInStep.yield __s)):Sem (List (Str × Addr)))=pure (eS env.cells l a):=by
  intro l
  induction l with
  | nil=>intro a _;rfl
  | cons x r ih =>
   intro a f;obtain⟨n,k⟩:=x;have hr:∀n,(n,NameKind.free)∈r->∃c,env.cells.lookup n=some c:=λn g=>f n (WD _ g);rw[List.forIn_cons];by_cases hk:(k == NameKind.free)=true
   ·have b:k=NameKind.free:=by simpa using hk
    subst b;obtain⟨c,d⟩:=f n WP;have e:cellOf env n=pure c:=by unfold cellOf;rw[d]
    show (if (NameKind.free == NameKind.free)=true then _ else _) >>= _=_;rw[YB hk,e];show (forIn r ((n,c)::a) _:Sem (List (Str × Addr)))=_;rw[ih _ hr];show _=pure (eS env.cells r (if (NameKind.free == NameKind.free)=true then (n,(List.lookup n env.cells).getD 0)::a else a));rw[YB hk,d]
    rfl
   ·show (if (k == NameKind.free)=true then _ else _) >>= _=_;rw[YA hk];show (forIn r a _:Sem (List (Str × Addr)))=_;rw[ih _ hr];show _=pure (eS env.cells r (if (k == NameKind.free)=true then _ else a));rw[YA hk]
 show (forIn scope.names [] _ >>= _:Sem (List (Str × Addr)))=_;rw[key _ _ h]
 rfl
theorem yc{cells:List (Str × Addr)}:∀(l:List (Str × NameKind)) (a:List (Str × Addr)) (x:Str) (c:Addr),(eS cells l a).lookup x=some c->(∀n,(n,NameKind.free)∈l->∃c,cells.lookup n=some c)->((x,NameKind.free)∈l/\cells.lookup x=some c)\/a.lookup x=some c
 | [],a,x,c,h,_=>.inr h
 | (n,k)::r,a,x,c,h,hf=>by
  have hr:∀n,(n,NameKind.free)∈r->∃c,cells.lookup n=some c:=λn g=>hf n (WD _ g);rcases yc r _ x c h hr with ⟨h1,h2⟩|h1
  ·exact .inl ⟨WD _ h1,h2⟩
  ·by_cases hk:(k == NameKind.free)=true
   ·rw[YB hk]at h1;have b:k=NameKind.free:=by simpa using hk
    subst b;obtain⟨f,d⟩:=hf n WP;rw[d]at h1;rw[WH]at h1;by_cases e:(x == n)=true
    ·rw[e]at h1;have e':x=n:=by simpa using e
     subst e';have:f=c:=Wt h1;subst this;exact .inl ⟨WP,d⟩
    ·have e':(x == n)=false:=by simpa using e
     rw[e']at h1;exact .inr h1
   ·rw[YA hk]at h1;exact .inr h1
theorem yd{cells:List (Str × Addr)}:∀(l:List (Str × NameKind)) (a:List (Str × Addr)) (x:Str),((x,NameKind.free)∈l\/∃c,a.lookup x=some c)->∃c,(eS cells l a).lookup x=some c
 | [],a,x,h=>by
  rcases h with h|h
  ·cases h
  ·exact h
 | (n,k)::r,a,x,h=>by
  unfold eS;refine yd r _ x ?_;rcases h with h|⟨c,h⟩
  ·rcases Wh.mp h with e|e
   ·cases e;exact .inr ⟨_,by simp;rfl⟩
   ·exact .inl e
  ·refine .inr ?_;by_cases hk:(k == NameKind.free)=true
   ·rw[YB hk,WH];cases (x == n)
    ·exact⟨c,h⟩
    ·exact⟨_,Z⟩
   ·rw[YA hk];exact⟨c,h⟩
section
variable {prog:Program}{w:World}{A:Around}{s:h6}{R:Result->h6->Prop}
def RB{f a b:Expr}{d:List Expr}{scope:Scope}{pos:Pos}{it e:Value}{env:Env}(I:Nat->h6->Prop)
 (g:∀n s,I n s->wpAny (model prog w) A (pyNext it) (λr j=>match r with
   | none=>R (.ok .next) j
   | some v=>wpAny (model prog w) A (letOwnedTupleGo a it v) (λ_ i=>wpAny (model prog w) A (assign a env v) (λ_ o =>
    wpAny (model prog w) A (forIn d true λc r=>if r=true then do let ok <- isTrue c env (eval c env);pure (ForInStep.yield ok) else pure (ForInStep.yield r)) (λok k =>
     if ok=true then wpAny (model prog w) A (eval f env) (λx y =>
      wpAny (model prog w) A (call (.builtin "list.append") [e,x]) (λ_ q=>∃m,m<n/\I m q) (λ_ _=>False) y) (λ_ _=>False) k
     else ∃m,m<n/\I m k) (λ_ _=>False) o) (λ_ _=>False) i) (λ_ _=>False) j) (λ_ _=>False) s)
 (n:Nat) (h:I n s) :
 codeAny (model prog w) A (.compLoop (.ListComp f [⟨a,b,d,0⟩] scope pos) 0 it e env) R s:=by
 refine codeAny_loop Z I (λn s hI=>?_) n h;show wpAny _ A ((compTurn (.ListComp f [⟨a,b,d,0⟩] scope pos) 0 it e env).onRaise (λx=>do noteFrame x env;theTreesLotGoes x)) _ _ s;refine wpAny_noted ?_;rw[compTurn_list];refine kb (wpAny_standAt (kb (wpAny_mono (g n s hI) (λr j p=>?_) λ_ _ h'=>h'.elim)));cases r with
 | none=>exact on p
 | some v =>
  refine kb (wpAny_mono p (λ_ i l=>?_) λ_ _ h'=>h'.elim);refine kb (wpAny_mono l (λ_ o B=>kb (wpAny_mono B (λok k u=>?_) λ_ _ h'=>h'.elim)) λ_ _ h'=>h'.elim);cases ok with
  | false=>exact on ⟨rfl,u⟩
  | true =>
   exact kb (kb (wpAny_mono u (λx y z=>kb (wpAny_mono z (λ_ q C=>on (on ⟨rfl,C⟩)) λ_ _ h'=>h'.elim)) λ_ _ h'=>h'.elim))
end
def cL(X:Cx)(Nc:List Str)(scope:Scope)(C:Addr)(s:h6)(H:Hp)(fp:List Addr):Cx where
 prog:=X.prog
 w:=X.w
 K:=X.K
 mg:=X.mg
 base:=X.base
 A:=X.A
 N:=Nc
 s₀:=s
 H₀:=H
 env:=compEnvC scope (eS X.env.cells scope.names []) C X.env
 outer:=X.stack
 stack:=X.stack
 ex:=fp
 fn:=λ_=>false
 calm:=X.calm
 pn:=X.pn
 xe:=λ_ _=>False
def lV(X:Cx)(b:List Expr)(t:TT):Prop :=
 ∀(a:List (Addr × Obj)) (s:h6) (σ:St) (H:Hp) (Q:Bool->Hp->Prop),af X a σ H s->t σ H Q ->
  wpAny (model X.prog X.w) X.A (forIn b true λc r=>if r=true then do let ok <- isTrue c X.env (eval c X.env);pure (ForInStep.yield ok) else pure (ForInStep.yield r)) (TP X a σ Q) X.xe s
def fZ:TT:=λ_ H Q=>Q true H
def KG{X:Cx}:lV X [] fZ:=λ_ _ _ H _ I h=>wpAny_tests_nil ⟨H,I,h⟩
def KF{X:Cx}{c:Expr}{t:TT}(h:PT X c t):lV X [c] t:=λa s σ H Q I q=>wpAny_tests_one (h a s σ H Q I q)
def bz.adopt{P:Program}{w:World}{H:Hp}{h:Heap}{a:Addr}{o:HO}(x:bz P w H h)(d:H a=none)(new:bw P w (upd H a o) h a o):bz P w (upd H a o) h:=λb u e=>by
 by_cases hb:b=a
 ·subst hb;rw[az]at e;cases e;exact new
 ·rw[ap hb]at e;exact (x b u e).stay (λc v _ q=>q) (λc q=>by rw[ap (au q d)];exact q) λc xs q=>by rw[ap (au q d)];exact q
def ik(J:It)(k:Hp)(e:St)(g:TG)(f:TT)(h:TE)(Q:VK):Prop:=∃W:Nat->Nat->List V->St->Hp->Prop,
 (∃m,W 0 m [] e k)/\∀i m ys σ1 H2,W i m ys σ1 H2 ->
   (J.stop i H2/\ys.length<=sizeLine/\∀p H',bi H2 p (.lst ys) H'->Q (.ref p) H') \/
   (J.go i H2/\ys.length<sizeLine/\∃Nx:List V->St->Hp->Prop,(∀ys' σ' H',Nx ys' σ' H'->∃m',m'<m/\W (i+1) m' ys' σ' H') /\
     ∀x H',J.yld i H2 x H'->g x σ1 H' λa j=>f a j λb c=>if b=true then h a c λy d=>Nx (ys++[y]) a d else Nx ys a c)
def oC(nv:Nat)(caps:List Nat)(c:TI)(g:TG)(a:TT)(b:TE):TE:=λσ H Q=>c σ H λJ d=>ik J d (List.replicate nv none++caps.map λj=>(σ[j]?).join) g a b Q
structure cz (X:Cx) (Nc:List Str) (nv:Nat) (caps:List Nat) (scope:Scope):Prop where
 kind:scope.kind=.function
 nocell:∀y∈scope.names,y.2 ≠ .cell
 names:∀y∈scope.names,y.2=.local->scope.names.lookup y.1=some .local
 free:∀n,(n,NameKind.free)∈scope.names->X.env.kindOf n=some .cell\/X.env.kindOf n=some .free
 len:Nc.length=nv+caps.length
 cap:∀k j,caps[k]? = some j->∃x,Nc[nv+k]? = some x/\X.N[j]? = some x/\scope.names.lookup x=some .free
def Ev(fns:List (Str × NameKind))(N Nc:List Str)(nv:Nat)(caps:List Nat)(a:Scope):Bool :=
 (a.kind == .function) && (a.names.all λy=>!(y.2 == .cell)) && (a.names.all λy=>!(y.2 == .local) || a.names.lookup y.1 == some .local) &&
 (a.names.all λy=>!(y.2 == .free) || (fns.lookup y.1 == some .cell || fns.lookup y.1 == some .free)) && (Nc.length == nv+caps.length) &&
 ((List.range caps.length).all λk=>match caps[k]?,Nc[nv+k]? with
   | some j,some x=>N[j]? == some x && a.names.lookup x == some .free
   | _,_=>false)
def cz.of{X:Cx}{fns:List (Str × NameKind)}{N Nc:List Str}{nv:Nat}{caps:List Nat}{b:Scope}(o:X.env.scope.names=fns)(hN:X.N=N)(h:Ev fns N Nc nv caps b=true):cz X Nc nv caps b:=by
 unfold Ev at h;simp only [Wy]at h;obtain⟨⟨⟨⟨⟨l,m⟩,i⟩,d⟩,g⟩,f⟩:=h;refine⟨by simpa using l,λy a e=>?_,λy a e=>?_,λn p=>?_,by simpa using g,λk j e=>?_⟩
 ·have:=WW.mp m y a;rw[e]at this;simp at this
 ·have:=WW.mp i y a;rw[e]at this;simpa using this
 ·have:=WW.mp d _ p;show X.env.scope.names.lookup n=some .cell\/X.env.scope.names.lookup n=some .free;rw[o];simpa using this
 ·have c:k<caps.length:=(V8.mp e).1;have:=WW.mp f k (List.mem_range.mpr c);rw[e]at this;cases ex:Nc[nv+k]? with
  | none=>rw[ex]at this;simp at this
  | some x =>
   rw[ex]at this;simp only [Wy]at this;exact⟨x,rfl,by rw[hN];simpa using this.1,by simpa using this.2⟩
theorem pI{env:Env}:∀ {names:List (Str × NameKind)} {x:Str} {k:NameKind},
 (names.map λ(n,k)=>if (k == NameKind.free && env.scope.kind == .function && env.kindOf n == some .cell) then (n,NameKind.cell) else (n,k)).lookup x=some k ->
 ∃k0,names.lookup x=some k0/\(k=k0\/(k0=.free/\k=.cell))
 | [],_,_,h=>by simp at h
 | (n,k0)::r,x,k,h=>by
  have h':List.lookup x ((if (k0 == NameKind.free && env.scope.kind == .function && env.kindOf n == some .cell)=true then (n,NameKind.cell) else (n,k0)) ::
   r.map λ(n,k)=>if (k == NameKind.free && env.scope.kind == .function && env.kindOf n == some .cell) then (n,NameKind.cell) else (n,k))=some k:=h
  cases hx:x == n with
  | true =>
   refine⟨k0,by simp[WH,hx],?_⟩;by_cases hc:(k0 == NameKind.free && env.scope.kind == .function && env.kindOf n == some .cell)=true
   ·rw[YB hc,WH,hx]at h';have:NameKind.cell=k:=Wt h';refine .inr ⟨?_,this.symm⟩;rw[Wy,Wy]at hc;simpa using hc.1.1
   ·rw[YA hc,WH,hx]at h';exact .inl (Wt h').symm
  | false =>
   have a:(r.map λ(n,k)=>if (k == NameKind.free && env.scope.kind == .function && env.kindOf n == some .cell) then (n,NameKind.cell) else (n,k)).lookup x=some k:=by
    by_cases hc:(k0 == NameKind.free && env.scope.kind == .function && env.kindOf n == some .cell)=true
    ·rw[YB hc,WH,hx]at h';exact h'
    ·rw[YA hc,WH,hx]at h';exact h'
   obtain⟨k1,c,b⟩:=pI a;exact⟨k1,by simp[WH,hx,c],b⟩
def iB{a b n:Addr}(h:a<n)(h':n<=b):a≠b:=Wc (V6 h h')
theorem mH{α β:Type}[BEq α][LawfulBEq α]:∀ {l:List (α × β)} {x:α} {k:β},l.lookup x=some k->(x,k)∈l
 | [],_,_,h=>by simp at h
 | (n,k0)::r,x,k,h=>by
  cases hx:x == n with
  | true =>
   simp only [WH,hx]at h;cases h;have e:x=n:=by simpa using hx
   subst e;exact WP
  | false =>
   simp only [WH,hx]at h;exact WD _ (mH h)
section
variable {X:Cx}{elt tg iter:Expr}{ifs:List Expr}{scope:Scope}{Nc:List Str}{nv:Nat}{caps:List Nat}
def N9{f:List (Addr × Obj)}{σ:St}{H:Hp}{s:h6}{fp:List Addr}{R:Heap}{tk:Nat}{D C:Addr}{m:Str->Option Value}(S:cz X Nc nv caps scope)(I:af X f σ H s)
 (O:∀b∈fp,eU X f H b) (U:∀b∈fp,b<s.heap.objs.size) (hD:s.heap.objs.size<=D) (hC:s.heap.objs.size<=C) (hDC:D≠C) (hn:R.Ns C m) {oD:Obj} (hDo:R.get? D=some oD) (hDd:∀v,oD.data ≠ .cell v) (r:∀b o,s.heap.get? b=some o->R.get? b=some o) :
 af (cL X Nc scope C s H fp) (f++[(D,oD)]) (List.replicate nv none++caps.map λj=>(σ[j]?).join) H { s with heap:=R,toks:=tk }:=by
 have F:∀n,(n,NameKind.free)∈scope.names->∃c,X.env.cells.lookup n=some c:=λn hm=>I.ok.has n (S.free n hm);have clX:∀x c,(eS X.env.cells scope.names []).lookup x=some c->(x,NameKind.free)∈scope.names/\X.env.cells.lookup x=some c:=λx c e=>by
  rcases yc _ _ _ _ e F with h|h
  ·exact h
  ·simp at h
 have V:∀b∈cw X.stack,b<s.heap.objs.size:=λb hb=>by
  obtain⟨_,o,ho,_⟩:=I.stack.mem hb;exact V7 ho
 have cellLt:∀x c,X.env.cells.lookup x=some c->c<s.heap.objs.size:=λx c e=>by
  obtain⟨v,q⟩:=I.cell x c e;exact q.lt
 refine⟨⟨I.ok.mod,S.kind,I.ok.glob,I.ok.blt,hC,λx y c Y W=>I.ok.inj x y c (clX x c Y).2 (clX y c W).2,λx hx=>?_,λx c z=>YC z (by show ¬(false=true);decide),I.ok.hd,I.ok.frames,.inl rfl,λb hb=>⟨?_,λx c e z=>?_⟩,λb o e=>I.bs b o e,Wq I.ok.bsz I.sz,λb o e hb=>?_,λb hb z=>?_,I.stack,I.stkFree⟩,
  rfl,I.bare,Un.kept r,⟨m,hn,λi x v h1 G h3=>?_⟩,λx c e=>?_,I.hok.fresh hC,λx c e=>I.freeC x c (clX x c e).2,λp hp=>?_,I.hok.kept r,?_⟩
 ·-- a cell or free name of the block has its cell
  have l:(relabel scope X.env).names.lookup x=some .cell\/(relabel scope X.env).names.lookup x=some .free:=hx;have hm:(x,NameKind.free)∈scope.names:=by
   rcases l with l|l
   ·obtain⟨k0,e,z⟩:=pI l;rcases z with z|⟨z,_⟩
    ·subst z;exact YC Z (S.nocell _ (mH e))
    ·subst z;exact mH e
   ·obtain⟨k0,e,z⟩:=pI l;rcases z with z|⟨_,z⟩
    ·subst z;exact mH e
    ·cases z
  exact yd _ _ _ (.inl hm)
 ·exact Wc (V6 (U b hb) hC)
 ·exact (O b hb).2.2.2.2.1 x c (clX x c e).2 z
 ·have hx:=(O b hb).2.2.2.1;rcases hx with z|z
  ·exact I.ok.noex b o e z
  ·exact YC (V6 (V6 (V7 e) I.ok.bsz) z) (Wz _)
 ·rcases Wh.mp (I.stkSub b z) with q|q
  ·exact (O b hb).2.1 q
  ·exact (O b hb).2.2.1 q
 ·-- the names' values
  have hi:nv<=i:=by
   refine Nat.le_of_not_lt λB=>?_;rw[W6 (by simpa using B),Yh,YB B]at G;cases G
  obtain⟨k,rfl⟩:=Nat.le.dest hi;rw[W5 (by simp)]at G;simp only [XJ,XD,We]at G;cases ek:caps[k]? with
  | none=>rw[ek]at G;cases G
  | some j =>
   rw[ek]at G;have g:(σ[j]?).join=some v:=Wt G;have hσ:σ[j]? = some (some v):=by
    cases e:σ[j]? with
    | none=>rw[e]at g;cases g
    | some z=>rw[e]at g;cases z with
     | none=>cases g
     | some z=>have:z=v:=Wt g;rw[this]
   obtain⟨y,Y,W,e3⟩:=S.cap k j ek;have M:Nc[nv+k]? = some x:=h1;rw[Y]at M;cases M;have hm:=mH e3;have hk:=S.free x hm;obtain⟨m0,a2,hl⟩:=I.loc;obtain⟨u,ru,lk⟩:=hl j x v W hσ (by
    rcases hk with z|z
    ·exact .inr (.inl z)
    ·exact .inr (.inr z))
   refine⟨u,ru,?_⟩;rcases lk with ⟨z,_⟩|⟨_,c,hc,hcell⟩
   ·rcases hk with J|J<;>rw[z]at J<;>cases J
   ·refine .inr ⟨?_,c,?_,hcell.keeps r⟩
    ·rcases h3 with z|z|z
     ·exfalso
      obtain⟨k0,e,J⟩:=pI (show (relabel scope X.env).names.lookup x=some .local from z);rw[e3]at e;cases e;rcases J with J|⟨_,J⟩<;>cases J
     ·exact .inl z
     ·exact .inr z
    ·obtain⟨c',N⟩:=yd (cells:=X.env.cells) scope.names [] x (.inl hm);rw[(clX x c' N).2]at hc;cases hc;exact N
 ·obtain⟨v,z⟩:=I.cell x c (clX x c e).2;exact⟨v,z.keeps r⟩
 ·-- f
  have L:p∈X.pn++(f++[(D,oD)]):=hp;rw[<- WV]at L;rcases Wi.mp L with z|z
  ·obtain⟨e,n,ne,nf,d⟩:=I.pin p z;have B:=V7 e;refine⟨r _ _ e,n,Wc (V6 B hC),λq=>?_,d⟩;rcases Wh.mp (I.stkSub p.1 q) with q|q
   ·exact ne q
   ·exact nf q
  ·have e:p=(D,oD):=by simpa using z
   subst e;exact⟨hDo,I.hok.fresh hD,hDC,λq=>YC (V6 (V _ q) hD) (Wz _),hDd⟩
 ·show (List.replicate nv none++caps.map λj=>(σ[j]?).join).length=Nc.length;rw[Wb,XJ,V4,S.len]
abbrev gX(its:List Value)(n:Nat):Obj:={ cls:=.type "list",data:=.seq its.toArray n }
def CZ(a:List Value)(n:Nat):∀v,(gX a n).data ≠ .cell v:=λv z=>by
 have b:Data.seq a.toArray n=Data.cell v:=z;cases b
def Eu{g:TG}{tt:TT}{te:TE}{pos:Pos}{a:List (Addr × Obj)}{σ:St}{H:Hp}{s:h6}{Q:VK}{E:Value->h6->Prop}{RR:Value->Addr->Result->h6->Prop}(hc:X.calm=true)(S:cz X Nc nv caps scope)
 (hg:∀C s H fp,PG (cL X Nc scope C s H fp) tg g) (ht:∀C s H fp,lV (cL X Nc scope C s H fp) ifs tt) (he:∀C s H fp,PE (cL X Nc scope C s H fp) elt te)
 {it:Addr} {fp:List Addr} {tn:Nat->Heap->Prop} {J:It} (I:af X a σ H s) (T:je X.prog X.w X.K tg J fp it tn) (st:tn 0 s.heap) (Y:∀b∈fp,eU X a H b)
 {W:Nat->Nat->List V->St->Hp->Prop} {m0:Nat} (w0:W 0 m0 [] (List.replicate nv none++caps.map λj=>(σ[j]?).join) H)
 (ao:∀i m k U H2,W i m k U H2->(J.stop i H2/\k.length<=sizeLine/\∀p G,bi H2 p (.lst k) G->Q (.ref p) G) \/
   (J.go i H2/\k.length<sizeLine/\∃Nx:List V->St->Hp->Prop,(∀ys' σ' G,Nx ys' σ' G->∃m',m'<m/\W (i+1) m' ys' σ' G) /\
     ∀x G,J.yld i H2 x G->g x U G λσ2 H3=>tt σ2 H3 λb H4=>if b=true then te σ2 H4 λy H5=>Nx (k++[y]) σ2 H5 else Nx k σ2 H4))
 (hRR:∀(D C:Addr) (s1:h6) (G:Hp),af X a σ G s1->eU X a G C->(∃m,s1.heap.Ns C m)->Q (.ref D) G->RR (.ref D) C (.ok .next) s1) :
 wpAny (model X.prog X.w) X.A (newList []) (λai s₃=>wpAny (model X.prog X.w) X.A (newFunctionEnv scope X.env.globals (eS X.env.cells scope.names []) [] X.env.qual none .none (some X.env)) (λa4 s₄ =>
  codeAny (model X.prog X.w) X.A (.compStart (.ListComp elt [⟨tg,iter,ifs,0⟩] scope pos) 0 (.ref it) ai { a4 with scope:=relabel scope X.env }) (RR ai a4.locals) s₄) E s₃) E s:=by
 refine wpAny_newObj_type (wpAny_newFunctionEnv S.nocell (by intro y hy;simp at hy) (λh₁ L l=>?_) S.kind);dsimp only at L l ⊢;generalize hH2:s.heap.push { cls:=.type "list",dict:=none,data:=.seq ([]:List Value).toArray }=h2 at L l ⊢;have hC:h2.objs.size=s.heap.objs.size+1:=by rw[<- hH2,WZ]
 have hDC:s.heap.objs.size≠h2.objs.size:=by rw[hC];exact Wc (Wn _)
 have hCle:s.heap.objs.size<=h2.objs.size:=by rw[hC];exact WU _
 have a9:∀b o,s.heap.get? b=some o->h₁.get? b=some o:=λb o e=>l.extBut b o (Wc (V6 (V7 e) hCle)) (V9 _ (hH2 ▸ V9 _ e));have a5:h₁.get? s.heap.objs.size=some (gX [] 0):=l.extBut _ _ hDC (V9 _ (hH2 ▸ Ws _ rfl));have a1:∀b∈fp,b<s.heap.objs.size:=λb hb=>by
  obtain⟨o,ho,_⟩:=T.obj _ _ st b hb;exact V7 ho
 have aG:∀b∈cw X.stack,b<s.heap.objs.size:=λb hb=>by
  obtain⟨_,o,ho,_⟩:=I.stack.mem hb;exact V7 ho
 have cellLt:∀x c,X.env.cells.lookup x=some c->c<s.heap.objs.size:=λx c e=>by
  obtain⟨v,q⟩:=I.cell x c e;exact q.lt
 have a2:∀n,(n,NameKind.free)∈scope.names->∃c,X.env.cells.lookup n=some c:=λn hm=>I.ok.has n (S.free n hm);have clX:∀x c,(eS X.env.cells scope.names []).lookup x=some c->X.env.cells.lookup x=some c:=λx c e=>by
  rcases yc _ _ _ _ e a2 with h|h
  ·exact h.2
  ·simp at h
 have pinLt:∀p∈X.pn++a,p.1<s.heap.objs.size:=λp M=>V7 (I.pin p M).1;generalize hDD:s.heap.objs.size=D at a5 hDC ⊢;generalize hCC:h2.objs.size=C at hDC hCle L l ⊢;have leD:s.heap.objs.size<=D:=W4 hDD;have leC:s.heap.objs.size<=C:=by omega
 have a8:∀ {B:Hp} (o:Obj),(∀b∈fp,B b=none)->∀b∈fp,eU (cL X Nc scope C s H fp) (a++[(D,o)]) B b:=λ{B} o hn b hb=>by
  refine⟨hn b hb,Wc (V6 (a1 b hb) leC),λz=>?_,.inl hb,λx c e z=>(Y b hb).2.2.2.2.1 x c (clX x c e) z,λp M=>?_⟩
  ·rcases Wh.mp (I.stkSub b z) with q|q
   ·exact (Y b hb).2.1 q
   ·exact (Y b hb).2.2.1 q
  ·have am:p∈X.pn++(a++[(D,o)]):=M;rw[<- WV]at am;rcases Wi.mp am with z|z
   ·exact (Y b hb).2.2.2.2.2 p z
   ·have e:p=(D,o):=by simpa using z
    subst e;exact λq=>iB (a1 b hb) leD q.symm
 have N:∀s₃:h6,s₃ = { s with heap:=h₁,toks:=s.toks+([]:List (Str × Value)).length } ->
  codeAny (model X.prog X.w) X.A (.compLoop (.ListComp elt [⟨tg,iter,ifs,0⟩] scope pos) 0 (.ref it) (.ref D) (compEnvC scope (eS X.env.cells scope.names []) C X.env)) (RR (.ref D) C) s₃:=by
  rintro s₃ rfl;refine RB (λn s'=>∃(i:Nat) (k:List V) (f:List Value) (nn:Nat) (U:St) (B:Hp),af (cL X Nc scope C s H fp) (a++[(D,gX f nn)]) U B s'/\tn i s'.heap/\(∀b∈fp,B b=none)/\aA k f/\W i n k U B) ?_ m0
   ⟨0,[],[],0,_,H,N9 S I Y a1 leD leC hDC L a5 (CZ _ _) a9,T.keep _ _ _ st λb _ o e=>a9 b o e,λb hb=>(Y b hb).1,.nil,w0⟩
  rintro n s' ⟨i,k,f,nn,U,B,I1,aq,ak,rv,w1⟩;have pinD:∀ {σ':St} {G:Hp} {ab:h6} {pl:List (Addr × Obj)},af (cL X Nc scope C s H fp) ((a++[(D,gX f nn)])++pl) σ' G ab->ab.heap.get? D=some (gX f nn)/\G D=none:=λ{σ' G ab pl} I'=>by
   have z:=I'.pin (D,gX f nn) (Wx _ (WQ _ (Wx _ (by simp))));exact⟨z.1,z.2.1⟩
  rcases ao i n k U B w1 with ⟨stop,hz,q⟩|⟨go,hz,Nx,hNx,step⟩
  ·refine av (T.done (cL X Nc scope C s H fp) Z Z Z hc i _ s' U B _ I1 (a8 _ ak) aq stop) λr s4 ⟨hr,I4⟩=>?_;subst hr;obtain⟨eD,nD⟩:=pinD (pl:=[]) (by rw[Wv];exact I4);obtain⟨m,hnC,_⟩:=I4.loc;have u4:Un (cw X.stack) fp H B s.heap s4.heap:=I4.base;have dNone:s.heap.get? D=none:=Xh (W4 hDD);have noD:∀b o,s.heap.get? b=some o->b≠D:=λb o e z=>by rw[z,dNone]at e;cases e
   have u5:Un (cw X.stack) fp H (upd B D (.lst k)) s.heap s4.heap:=by
    refine⟨u4.keep,u4.slot,λb o e n hx=>?_,u4.there,λb xs e=>?_,λb o u e=>?_,λb ps e=>?_⟩
    ·rw[ap (noD b o e)];exact u4.free b o e n hx
    ·have z:=u4.tups b xs e;rw[ap (au z nD)];exact z
    ·have z:=u4.frzs b o u e;rw[ap (au z nD)];exact z
    ·obtain⟨more,z⟩:=u4.tbls b ps e;exact⟨more,by rw[ap (au z nD)];exact z⟩
   have hok:bz X.prog X.w (upd B D (.lst k)) s4.heap:=bz.adopt I4.hok nD ⟨hz,f,nn,rv,eD⟩;have IX:af X a σ (upd B D (.lst k)) s4:=I.call' I4.os u5 hok I4.bare λb hb=>⟨(Y b hb).2.2.2.1,(Y b hb).2.1,(Y b hb).2.2.2.2.1,(Y b hb).2.2.2.2.2⟩;have fpC:eU X a (upd B D (.lst k)) C:=by
    have hl:X.env.locals<s.heap.objs.size:=I.lt;exact⟨by rw[ap (Ne.symm hDC)];exact I4.free,(iB hl leC).symm,I.nofs leC,.inr (Wq I.sz leC),λx c e z=>iB (cellLt x c e) leC z,λp M z=>iB (pinLt p M) leC z⟩
   exact hRR D C s4 _ IX fpC ⟨m,hnC⟩ (q D _ (.mk' nD))
  ·refine av (T.item (cL X Nc scope C s H fp) Z Z Z hc i _ s' U B _ I1 (a8 _ ak) aq go) λr s4 ⟨u,hr,h4⟩=>?_;subst hr;refine av h4 λ_ s5 ⟨x,H5,I5,r5,y5,a6,aF⟩=>?_;have aI:=I5.pinned (a8 _ aF) (T.obj _ _ a6);have back:∀ {σ7:St} {H7:Hp} {s7:h6},af (cL X Nc scope C s H fp) ((a++[(D,gX f nn)])++mz fp s5.heap) σ7 H7 s7->tn (i+1) s7.heap/\∀b∈fp,H7 b=none:=λ{σ7 H7 s7} I7=>by
    refine⟨T.keep _ _ _ a6 λb hb o e=>(I7.pin (b,o) (Wx _ (Wx _ (pG hb e)))).1,λb hb=>?_⟩;obtain⟨o,e,d⟩:=T.obj _ _ a6 b hb;exact (I7.pin (b,o) (Wx _ (Wx _ (pG hb e)))).2.1
   refine av (hg _ _ _ _ _ s5 U H5 x u _ aI r5 (step x H5 y5)) λ_ s6 ⟨σ6,H6,I6,q6⟩=>?_;refine av (ht _ _ _ _ _ s6 σ6 H6 _ I6 q6) λb s7 ⟨H7,I7,q7⟩=>?_;cases b with
   | false =>
    obtain⟨m',hm,w7⟩:=hNx _ _ _ q7;obtain⟨t7,f7⟩:=back I7;exact⟨m',hm,i+1,k,f,nn,σ6,H7,I7.unpinned,t7,f7,rv,w7⟩
   | true =>
    refine av (he _ _ _ _ _ s7 σ6 H7 _ I7 q7) λR s8 ⟨y,H8,I8,r8,n8⟩=>?_;obtain⟨m',hm,w8⟩:=hNx _ _ _ n8;obtain⟨t8,f8⟩:=back I8;obtain⟨eD,nD⟩:=pinD I8;have aO:=rv.length;refine call_meets F.slot_list_append ⟨_,eD,rfl⟩ F.entry_list_append (F.args_list_append_2 _ _) (PySem.list_append D f.toArray nn R (by rw[Wd];omega)) ⟨eD,?_⟩;have ea:f.toArray.push R=(f++[R]).toArray:=by simp
    obtain⟨n9,e9⟩:∃n9,(s8.heap.update D (Obj.mapSeq (·.push R))).get? D=some (gX (f++[R]) n9):=⟨_,by
     have z:=PySem.IsL.update eD (·.push R);rw[ea]at z;exact z⟩
    have O:∀b o,b≠D->s8.heap.get? b=some o->(s8.heap.update D (Obj.mapSeq (·.push R))).get? b=some o:=λb o hb e=>(WF _ _ (Ne.symm hb)).trans e;have aD:∀b∈fp,b≠D:=λb hb z=>iB (a1 b hb) leD z;have aE:af (cL X Nc scope C s H fp) a σ6 H8 s8:=I8.pins_of λp M=>I8.pin p (Wx _ (WQ _ (WQ _ M)));have I9:=aE.turned (t':=s8.toks) (it:=D) O nD hDC (.inr leD) (λx c e z=>iB (cellLt x c (clX x c e)) leD z) (λp M z=>iB (pinLt p M) leD z);have t9:tn (i+1) (s8.heap.update D (Obj.mapSeq (·.push R))):=T.keep _ _ _ t8 λb hb o e=>O b o (aD b hb) e;refine⟨m',hm,i+1,k++[y],f++[R],n9,σ6,H8,I9.pins_of λp M=>?_,t9,f8,rv.append (.cons r8 .nil),w8⟩;rcases Wi.mp M with z|z
    ·exact I9.pin p (Wx _ z)
    ·have e:p=(D,gX (f++[R]) n9):=by simpa using z
     subst e;exact⟨e9,nD,hDC,λq=>iB (aG _ q) leD Z,CZ _ _⟩
 have bd:=λ(s₃:h6) (e:s₃ = { s with heap:=h₁,toks:=s.toks+([]:List (Str × Value)).length })=>N s₃ e;exact codeAny_compStart_list (N _ Z) (T.self _ 0 _ _ _ (T.keep _ _ _ st λb _ o e=>a9 b o e) (N _ Z))
def LB{l:TI}{g:TG}{p:TT}{r:TE}{pos:Pos}(O:X.calm=true)(S:cz X Nc nv caps scope)(hi:PI X tg iter l)
 (z:∀C s H fp,PG (cL X Nc scope C s H fp) tg g) (ht:∀C s H fp,lV (cL X Nc scope C s H fp) ifs p) (he:∀C s H fp,PE (cL X Nc scope C s H fp) elt r)
 (hs:∀x,foldedSetIterable iter X.env x=pure x:=by intro _;rfl):PE X (.ListComp elt [⟨tg,iter,ifs,0⟩] scope pos) (oC nv caps l g p r):=by
 intro d s σ H Q I h;rw[eval_ListComp];have a:∀n,(n,NameKind.free)∈scope.names->∃c,X.env.cells.lookup n=some c:=λn hm=>I.ok.has n (S.free n hm);refine wpAny_comprehension_free (use:=none) Z hs (Ew a) S.kind S.names (av (hi d s σ H _ I h) λv s1 L=>av L λB s2 G=>?_);obtain⟨it,fp,tn,J,H2,rfl,U,T,k,Y,W,⟨m0,w0⟩,f⟩:=G;refine Eu (RR:=λi C=>compPost (model X.prog X.w) X.A X.xe none (EP X d σ Q) i C) O S z ht he U T k Y w0 f λD C s4 u V fC j q=>?_;obtain⟨m,j⟩:=j;refine⟨m,j,λh' sb=>?_⟩;obtain⟨F,M,N,R,y,f5⟩:=fC;exact⟨.ref D,u,V.turned (t':=s4.toks) (it:=C) (λb o hb e=>sb.extBut b o hb e) F M R y f5,Z,q⟩
def KL{O:TI}{g:TG}{R:TT}{U:TE}{pos f k:Pos}{i:Nat}{y:Str}(hN:X.N.Nodup)(hy:X.N[i]? = some y)(hx:iF X.env.scope y)(hc:X.calm=true)(S:cz X Nc nv caps scope)(hi:PI X tg iter O)
 (Y:∀C s H fp,PG (cL X Nc scope C s H fp) tg g) (ht:∀C s H fp,lV (cL X Nc scope C s H fp) ifs R) (he:∀C s H fp,PE (cL X Nc scope C s H fp) elt U)
 (r:swapsWith (.ListComp elt [⟨tg,iter,ifs,0⟩] scope pos) (some (.Name y k)) f.line X.env=pure true:=by rfl)
 (hs:∀x,foldedSetIterable iter X.env x=pure x:=by intro _;rfl) (hf:X.fn y=true\/X.env.scope.names.lookup y=some .local:=by first|exact .inl rfl|exact .inr rfl|assumption) :
 PS X (.Assign [.Name y k] (.ListComp elt [⟨tg,iter,ifs,0⟩] scope pos) f) (jp (oC nv caps O g R U) (cK i)):=by
 intro a s σ H D0 I h;have d:∀n,(n,NameKind.free)∈scope.names->∃c,X.env.cells.lookup n=some c:=λn hm=>I.ok.has n (S.free n hm);rw[exec_Assign_Name_used _ _ _ _ r];refine kb (wpAny_standAt (kb ?_));show wpAny _ X.A (do let _ <- comprehension (.ListComp elt [⟨tg,iter,ifs,0⟩] scope pos) scope X.env _ (newList []) false (eval iter X.env) (some (assign (.Name y k) X.env))) _ _ s;refine kb (wpAny_mono (wpAny_comprehension_free (use:=some (assign (.Name y k) X.env)) (Q:=λ_ p=>SP X a D0 .next p) Z hs (Ew d) S.kind S.names
  (av (hi a s σ H _ I h) λv s1 h1=>av h1 λa0 s2 h2=>?_)) (λ_ p hq=>on (on hq)) λ_ _ e=>e)
 obtain⟨it,fp,tn,J,H2,rfl,I2,T,G,f2,W,⟨m0,w0⟩,l⟩:=h2;refine Eu (RR:=λu C=>compPost (model X.prog X.w) X.A X.xe (some (assign (.Name y k) X.env)) (λ_ p=>SP X a D0 .next p) u C) (Q:=λx H1=>cK i x σ H1 D0.nx) hc S Y ht he I2 T G f2 w0 l λD C s4 V I4 fC F q=>?_;obtain⟨m,F⟩:=F;obtain⟨f0,M,a4,f3,L,f5⟩:=fC;show wpAny _ X.A (assign (.Name y k) X.env (.ref D)) _ _ _;refine wpAny_assign_Name (A1 I4 hN hy hx (show aN (.ref D) (.ref D) from rfl) (λs5 I5 j=>?_) hf);obtain⟨a5,j,B⟩:=j;have hCa:C≠a5:=by
  rcases B with z|z
  ·rw[z];exact M
  ·exact λe=>L _ _ z e.symm
 refine⟨m,F.sameBut j hCa,λh' sb=>?_⟩;exact⟨_,V,I5.turned (t':=s5.toks) (it:=C) (λb o hb e=>sb.extBut b o hb e) f0 M f3 L f5,q⟩
end
def qU{K:W.Frag}{a:Addr}{xs:List V}{cs:St}{r:TT}{s:TE}{H:Hp}{Q:VK}(h:Nat->List V->Hp->Prop)(B:h 0 [] H)(hl:∀i c H,i<=xs.length->h i c H->aI K H a xs/\c.length<=i)(hz:xs.length<=sizeLine)
 (hs:∀i x c H (N:List V->Hp->Prop),xs[i]? = some x->h i c H->(∀d f,h (i+1) d f->N d f)->r (some x::cs) H λb l=>if b=true then s (some x::cs) l λy u=>N (c++[y]) u else N c l)
 (hd:∀c H p f,h xs.length c H->bi H p (.lst c) f->Q (.ref p) f) :
 ik (ji K a) H (List.replicate 1 none++cs) (cK 0) r s Q:=by
 refine⟨λi m c σ H=>m=xs.length-i/\i<=xs.length/\h i c H/\∃j,σ=j::cs,⟨xs.length,by simp,Wu _,B,none,rfl⟩,?_⟩;rintro i m c σ o ⟨rfl,v,p,j,rfl⟩;obtain⟨q,C⟩:=hl i c o v p;by_cases hlt:i<xs.length
 ·refine .inr ⟨⟨xs,xs[i],q,by simp[hlt]⟩,by omega,λd n f=>h (i+1) d f/\∃j,n=j::cs,λd n f ⟨k,e⟩=>⟨xs.length-(i+1),by omega,rfl,hlt,k,e⟩,λx f y=>?_⟩;obtain⟨e,y⟩:=y;subst e;exact hs i x c f (λd f=>h (i+1) d f/\∃j,some x::cs=j::cs) (y xs q) p λ_ _ z=>⟨z,_,Z⟩
 ·have e:i=xs.length:=by omega
  subst e;exact .inl ⟨⟨xs,q,V5 _⟩,by omega,λk f g=>hd c o k f p g⟩
def xv{lo:Int}{n:Nat}{cs:St}{q:TT}{r:TE}{H:Hp}{Q:VK}(f:Nat->List V->Hp->Prop)(v:f 0 [] H)(hl:∀i a H,i<=n->f i a H->a.length<=i)(hz:n<=sizeLine)
 (hs:∀i a H (N:List V->Hp->Prop),i<n->f i a H->(∀c d,f (i+1) c d->N c d)->q (some (.int (lo+i))::cs) H λb k=>if b=true then r (some (.int (lo+i))::cs) k λy s=>N (a++[y]) s else N a k)
 (hd:∀a H p d,f n a H->bi H p (.lst a) d->Q (.ref p) d) :
 ik (ig lo n) H (List.replicate 1 none++cs) (cK 0) q r Q:=by
 refine⟨λi m a σ H=>m=n-i/\i<=n/\f i a H/\∃h,σ=h::cs,⟨n,by simp,Wu _,v,none,rfl⟩,?_⟩;rintro i m a σ o ⟨rfl,u,p,h,rfl⟩;have B:=hl i a o u p;by_cases hlt:i<n
 ·refine .inr ⟨hlt,by omega,λc l d=>f (i+1) c d/\∃h,l=h::cs,λc l d ⟨j,e⟩=>⟨n-(i+1),by omega,rfl,hlt,j,e⟩,λx d y=>?_⟩;obtain⟨e,y⟩:=y;subst e y;exact hs i a d (λc d=>f (i+1) c d/\∃h,some (V.int (lo+i))::cs=h::cs) hlt p λ_ _ z=>⟨z,_,Z⟩
 ·have e:i=n:=by omega
  subst e;exact .inl ⟨V5 _,by omega,λj d g=>hd a o j d p g⟩
def fR{α:Type}(xs:List α)(lo a:Option Int):List α:=(xs.drop (HT.sIx xs.length 0 lo)).take (HT.sIx xs.length xs.length a-HT.sIx xs.length 0 lo)
def Rw{α β:Type}(f:α->β)(xs:List α)(lo a:Option Int):fR (xs.map f) lo a=(fR xs lo a).map f:=by
 unfold fR;rw[V4,List.map_take,List.map_drop]
def Eo{α:Type}(xs:List α)(k:Nat):fR xs none (some (k:Int))=xs.take k:=by
 unfold fR HT.sIx;simp only [List.drop_zero,Nat.sub_zero];have h:¬((k:Int)<0):=by omega
 rw[YA h,Xa,<- List.take_take,Wg]
def wU{α:Type}(xs:List α)(k:Nat):fR xs (some (k:Int)) none=xs.drop k:=by
 unfold fR HT.sIx;have h:¬((k:Int)<0):=by omega
 dsimp only;rw[YA h,Xa];by_cases hk:k<=xs.length
 ·rw[WX hk];exact Xb (by simp)
 ·rw[XT (by omega),XU,XV,XW (by omega)]
def Ep{α:Type}(xs:List α)(k m:Nat):fR xs (some (k:Int)) (some ((k:Int)+(m:Int)))=(xs.drop k).take m:=by
 unfold fR HT.sIx;have h:¬((k:Int)<0):=by omega
 have h':¬((k:Int)+(m:Int)<0):=by omega
 have e:((k:Int)+(m:Int)).toNat=k+m:=by omega
 dsimp only;rw[YA h,YA h',Xa,e];by_cases hk:k<=xs.length
 ·rw[WX hk];by_cases hm:k+m<=xs.length
  ·rw[WX hm,XD]
  ·rw[XT (by omega),Xb (by simp),Xb (by simp;omega)]
 ·rw[XT (by omega:xs.length<=k),XU,XV,XW (by omega),XV]
def ja(ns:g0)(lo a:Option Int):cX (ns.map V.int) lo a=(fR ns lo a).map V.int:=Rw _ _ _ _
def lO(ns ms:g0):PyData.eqv (.list (ns.map PyData.int)) (.list (ms.map PyData.int))=decide (ns=ms):=by
 show PyData.eqvAll _ _=_;exact W.ked_eqvAll ns ms
def D8{K:W.Frag}{H:Hp}{a b:Addr}{ns ms:g0}{neg:Bool}{Q:VK}(d:aI K H a (ns.map V.int))(c:aI K H b (ms.map V.int))(q:Q (.bl (if neg then !decide (ns=ms) else decide (ns=ms))) H) :
 mT K neg (.ref a) (.ref b) H Q:=by
 refine⟨_,_,ba.lst d (bG.ints ns),ba.lst c (bG.ints ms),W.ke_shaped_ints ns,W.ke_shaped_ints ms,?_⟩;rw[lO];exact q
structure QE (X:Cx) (e:Expr) (t:TE):Prop where
 h:PE X e t
structure QT (X:Cx) (e:Expr) (t:TT):Prop where
 h:PT X e t
structure QW (X:Cx) (e:Expr) (t:TT):Prop where
 h:PW X e t
structure QA (X:Cx) (es:List Expr) (t:TA):Prop where
 h:PA X es t
structure QS (X:Cx) (st:Stmt) (t:TS):Prop where
 h:PS X st t
structure dH (X:Cx) (st:List Stmt) (t:TS):Prop where
 h:eg X st t
structure QG (X:Cx) (e:Expr) (t:TG):Prop where
 h:PG X e t
structure nV (X:Cx) (es:List Expr) (t:gF):Prop where
 h:nW X es t
structure QI (X:Cx) (tg e:Expr) (t:TI):Prop where
 h:PI X tg e t
structure QO (X:Cx) (e:Option Expr) (t:TO):Prop where
 h:PO X e t
structure sJ (X:Cx) (es:List Expr) (t:TT):Prop where
 h:lV X es t
section
variable {X:Cx}{a b c e o:Expr}{es bB:List Expr}{pos p p2:Pos}{ta tb tc te to:TE}{tA tB' tt:TT}{t tk:TA}
def aj{i j pos}:QE X (.Constant (.int i) j pos) (tC (.int i)):=⟨mC⟩
def fO{b j pos}:QE X (.Constant (.bool b) j pos) (tC (.bl b)):=⟨Ce⟩
def bu{j pos}:QE X (.Constant .none j pos) (tC .non):=⟨Cb⟩
def eM{x j pos}:QE X (.Constant (.str x) j pos) (tC (.str x)):=⟨Ca⟩
def aa(i:Nat){x:Str}(hN:X.N[i]? = some x:=by rfl)(b:sE X.env.scope x:=by first|exact Or.inl rfl|exact Or.inr (Or.inl rfl)|exact Or.inr (Or.inr rfl))(hd:(x == ("__debug__" : Str))=false:=by decide)
 (a:(x == ("__classdict__" : Str))=false:=by decide):QE X (.Name x pos) (mV i):=⟨vv i hN b hd a⟩
def bQ{x:Str}{n:Int}{u:Tok}(hm:X.mg x=some (.int n u))(a:Gl X x:=by rfl)(hd:(x == ("__debug__" : Str))=false:=by decide):QE X (.Name x pos) (tC (.int n)):=⟨gi hm a hd⟩
def gh {x:Str} {v:V} {u:Value} (a:Gl X x) (hm:X.mg x=some u) (r:aN v u) (hd:(x == ("__debug__" : Str))=false:=by decide):QE X (.Name x pos) (tC v):=⟨Cd a hm r hd⟩
def gR {x:Str} {T:String} (a:Gl X x) (hm:X.mg x=none) (b:bootBuiltins x=some (.type T)) (c:x ≠ "__name__":=by decide) (hd:(x == ("__debug__" : Str))=false:=by decide):QE X (.Name x pos) (tC (.ty T)):=⟨R4 a hm b c hd⟩
def dY{j:Int}{k:Nat}(c:QE X a ta)(b:0<j/\j<1073741824:=by decide):QE X (.BinOp a .FloorDiv (.Constant (.int j) k p) pos) (CS j ta):=⟨NB c.h b⟩
def cJ{j:Int}{k:Nat}(c:QE X a ta)(b:0<j:=by decide):QE X (.BinOp a .Mod (.Constant (.int j) k p) pos) (CP j ta):=⟨Nz c.h b⟩
def Ks{j:Int}{k:Nat}(c:QE X a ta)(b : -(2 ^ 64)<j/\j<2 ^ 64:=by decide):QE X (.BinOp a .Mult (.Constant (.int j) k p) pos) (CO j ta):=⟨Ny c.h b⟩
def aO{c:Operator}{r:R2}(e:aV X (binaryOp c) r)(d:QE X a ta)(hb:QE X b tb):QE X (.BinOp a c b pos) (fH r ta tb):=⟨Lo e d.h hb.h⟩
def oW{b:UnaryOp}{r:V->Hp->VK->Prop}(d:nU X (unaryOp b) r)(c:QE X a ta):QE X (.UnaryOp b a pos) (AC r ta):=⟨Lm d c.h⟩
def B1(b:QE X a ta):QE X (.UnaryOp .Not a pos) (CN ta):=⟨Nv b.h⟩
def iu(c:QE X a ta)(hb:QE X (.BoolOp .And (b::bB) pos) tb):QE X (.BoolOp .And (a::b::bB) pos) (CU ta tb):=⟨NE c.h hb.h⟩
def oZ(c:QE X a ta)(hb:QE X (.BoolOp .Or (b::bB) pos) tb):QE X (.BoolOp .Or (a::b::bB) pos) (CM ta tb):=⟨Nu c.h hb.h⟩
def gP{op}(h:QE X a ta):QE X (.BoolOp op [a] pos) ta:=⟨Lp h.h⟩
def gQ{c:CmpOp}{r:R2}(e:aV X (compareOp c) r)(d:QE X a ta)(hb:QE X b tb)(hm:behindInMarks c b=false):QE X (.Compare a [c] [b] pos) (fH r ta tb):=⟨LC e d.h hb.h hm⟩
def my{e d:CmpOp}{r g:R2}(j:aV X (compareOp e) r)(f:aV X (compareOp d) g)(i:QE X a ta)(hb:QE X b tb)(k:QE X c tc)
 (hm:lastMarks [e,d] [b,c]=false:=by with_unfolding_all rfl):QE X (.Compare a [e,d] [b,c] pos) (pH r g ta tb tc):=⟨ND j f i.h hb.h k.h hm⟩
def gg(e:QT X c tA)(d:QE X a ta)(hb:QE X b tb):QE X (.IfExp c a b pos) (AO tA ta tb):=⟨Lu e.h d.h hb.h⟩
def cG(h:QW X e tt):QT X e tt:=⟨PW.pt h.h⟩
def gf(b:QT X a tA):QW X (.BoolOp .And [a] pos) tA:=⟨KC b.h⟩
def eB(b:QT X a tA):QW X (.BoolOp .Or [a] pos) tA:=⟨KA b.h⟩
def fL(c:QT X a tA)(hb:QW X (.BoolOp .And (b::bB) pos) tB'):QW X (.BoolOp .And (a::b::bB) pos) (AZ tA tB'):=⟨KD c.h hb.h⟩
def dy(c:QT X a tA)(hb:QW X (.BoolOp .Or (b::bB) pos) tB'):QW X (.BoolOp .Or (a::b::bB) pos) (tD tA tB'):=⟨KB c.h hb.h⟩
def dz(b:QT X a tA):QT X (.UnaryOp .Not a pos) (AI tA):=⟨KH b.h⟩
def aJ{c:CmpOp}{r:R2}(e:aV X (compareOp c) r)(d:QE X a ta)(hb:QE X b tb)(hm:behindInMarks c b=false):QT X (.Compare a [c] [b] pos) (mB (fH r ta tb)):=⟨Mw e d.h hb.h hm⟩
def BZ{e d:CmpOp}{r g:R2}(j:aV X (compareOp e) r)(f:aV X (compareOp d) g)(i:QE X a ta)(hb:QE X b tb)(k:QE X c tc)
 (hm:lastMarks [e,d] [b,c]=false:=by with_unfolding_all rfl):QT X (.Compare a [e,d] [b,c] pos) (mB (pH r g ta tb tc)):=⟨Mx j f i.h hb.h k.h hm⟩
def cV(h:QE X e te)(a:∀whole,isTrue e X.env whole=(do let v <- whole;standAt e.pos;holding [v] (truthy v)):=by intro _;rfl):QT X e (mB te):=⟨Ms h.h a⟩
def Kq(h:QE X e te)(a:∀whole,isTrue e X.env whole=(do let v <- whole;standAt e.pos;holding [v] (truthy v)):=by intro _;rfl):QT X e (uj X.K te):=⟨Mt h.h a⟩
def ae:QA X [] oB:=⟨Cg⟩
def ad(a:QE X e te)(hr:QA X es t)(hs:dj e=false:=by rfl):QA X (e::es) (tE te t):=⟨Cj a.h hr.h hs⟩
def oX{vs:List V}(h:qS es=some vs):QA X es (AW vs):=⟨Ci h⟩
def aT(h:QA X es t):QE X (.List es pos) (CQ t):=⟨NA h.h⟩
def bJ{x1}(h:QA X es t):QE X (.Tuple es x1 pos) (CL t):=⟨Nr h.h⟩
def B3:QE X (.Dict [] [] pos) CT:=⟨NC⟩
def fe:QO X none AJ:=⟨K7⟩
def cn(h:QE X e te):QO X (some e) (AH te):=⟨K6 h.h⟩
def de{r:V->Option Int->Option Int->Hp->VK->Prop}{lo a:Option Expr}{b c:TO}(hr:iD X r)(f:QE X e te)(hl:QO X lo b)(d:QO X a c):QE X (.Subscript e (.Slice lo a none p2) pos) (AE r te b c):=⟨Ln hr f.h hl.h d.h⟩
def aK{r:R2}(hr:eT X r)(c:QE X a ta)(hb:QE X b tb)(hs:EZ b):QE X (.Subscript a b pos) (fH r ta tb):=⟨Ls hr c.h hb.h hs⟩
section
variable {k j:Nat}{f:Addr}{fd:FuncData}{ps:List Str}{sp:Sp}{x:Str}
def aE(F:bh X.prog X.w X.K X.mg X.base x j f fd ps sp)(hr:bt k X.A)(c:QA X (e::es) t)(b:j<=k:=by decide)(d:Gl X x:=by rfl)
 (a:(x == ("__debug__" : Str))=false:=by decide) (g:cu (e::es)=true:=by rfl):QE X (.Call (.Name x p) (e::es) [] pos) (jn sp [] E0 t):=⟨RL F hr c.h b d a g⟩
def bp{id:String}{r:List V->Hp->VK->Prop}(f:cB X (.builtin id) r)(hm:X.mg x=none)(c:bootBuiltins x=some (.builtin id))(b:QA X (e::es) t)(d:Gl X x:=by rfl)(hx:x ≠ "__name__":=by decide)(a:(x == ("__debug__" : Str))=false:=by decide)
 (g:cu (e::es)=true:=by rfl):QE X (.Call (.Name x p) (e::es) [] pos) (jo r t):=⟨RK f hm c b.h d hx a g⟩
def dM{T:String}{r:List V->Hp->VK->Prop}(f:cB X (.type T) r)(hm:X.mg x=none)(c:bootBuiltins x=some (.type T))(b:QA X (e::es) t)(d:Gl X x:=by rfl)(hx:x ≠ "__name__":=by decide)(a:(x == ("__debug__" : Str))=false:=by decide)
 (g:cu (e::es)=true:=by rfl):QE X (.Call (.Name x p) (e::es) [] pos) (jo r t):=⟨RJ f hm c b.h d hx a g⟩
end
section
variable {name:Str}{apos cpos:Pos}{T id:String}{r:V->List V->Hp->VK->Prop}
def Kn (e:PlainAttrs T) (slot:Slot T name id) (c:typeOf (.builtin id)=pure (.type "method_descriptor")) (hm:fW X id r) (d:QE X o to)
 (b:attributeBase o name X.env (eval o X.env)=eval o X.env:=by rfl) (a:(apos.endLine == cpos.line)=true:=by rfl):QE X (.Call (.Attribute o name apos) [] [] cpos) (tF X.K T r to):=⟨LG e slot c hm d.h b a⟩
theorem Ct{env:Env}{pos:Pos}:∀ {a:List Expr},cu a=true->(backTo pos (starEach a env)).all (λx=>!x.1)=true
 | [],_=>rfl
 | e::r,h=>by
  obtain⟨c,b⟩:=bR h;rw[bV c];show (!false && (backTo pos (starEach r env)).all (λx=>!x.1))=true;rw[Ct b]
  rfl
def Ko (i:PlainAttrs T) (slot:Slot T name id) (c:typeOf (.builtin id)=pure (.type "method_descriptor")) (hm:fW X id r) (g:QE X o to) (f:QA X (e::es) t)
 (b:attributeBase o name X.env (eval o X.env)=eval o X.env:=by rfl) (d:cu (e::es)=true:=by rfl) (j:decide ((e::es).length+0+0<30)=true:=by rfl)
 (a:(apos.endLine == cpos.line)=true:=by rfl):QE X (.Call (.Attribute o name apos) (e::es) [] cpos) (tG X.K T r to t) :=
 ⟨LJ i slot c hm g.h f.h b (by rw[Ct d];exact j) a (bV (bR d).1) (dN (bR d).2)⟩
end
section
variable {st:Stmt}{sts ss2:List Stmt}{s t1 u1:TS}{tg it:Expr}{g:TG}{gs:gF}{wi:TI}
def aR:dH X [] AK:=⟨KJ⟩
def ai(b:QS X st t1)(a:dH X sts u1):dH X (st::sts) (tB t1 u1):=⟨KK b.h a.h⟩
def ak(a:QS X st t1):dH X [st] t1:=⟨KI a.h⟩
def iV:QS X st AL:=⟨KO⟩
def BV:QS X (.Break pos) AX:=⟨KY⟩
def aq(a:QE X e te):QS X (.Return (some e) pos) (AG te):=⟨KN a.h⟩
def bE(a:QE X e te)(hs:swapsWith e none pos.line X.env=pure false:=by rfl):QS X (.Expr e pos) (AS te):=⟨KU a.h hs⟩
def aQ(b:QT X c tA)(a:dH X sts t1)(hb:dH X ss2 u1):QS X (.If c sts ss2 pos) (ma tA t1 u1):=⟨KP b.h a.h hb.h⟩
def aF{i:Nat}{x:Str}{a:Pos}(hN:X.N.Nodup)(b:X.N[i]? = some x)(hx:iF X.env.scope x)(d:QE X e te)(hs:swapsWith e (some (.Name x a)) pos.line X.env=pure false:=by rfl)(c:X.fn x=true\/X.env.scope.names.lookup x=some .local:=by first|exact .inl rfl|exact .inr rfl|assumption) :
 QS X (.Assign [.Name x a] e pos) (jp te (cK i)):=⟨KM hN b hx d.h hs c⟩
def oU(b:QE X e te)(a:QG X tg g)(hs:swapsWithSole [tg] e pos.line X.env=pure false:=by rfl)(hw:swappedStores [tg] e X.env=pure none:=by rfl)
 (c:(assignEach [tg] X.env).map (·.2)=[assign tg X.env]:=by rfl):QS X (.Assign [tg] e pos) (jp te g):=⟨KZ b.h a.h hs hw c⟩
def bb{i:Nat}{x:Str}(hN:X.N.Nodup)(a:X.N[i]? = some x)(hx:iF X.env.scope x)(b:X.fn x=true\/X.env.scope.names.lookup x=some .local:=by first|exact .inl rfl|exact .inr rfl|assumption):QG X (.Name x pos) (cK i):=⟨Lk hN a hx b⟩
def fM:nV X [] pX:=⟨Lg⟩
def cF(b:QG X e g)(a:nV X es gs)(hs:(assignEach (e::es) X.env).map (·.2)=assign e X.env::(assignEach es X.env).map (·.2):=by rfl):nV X (e::es) (lN g gs):=⟨Lh b.h a.h hs⟩
def Km{k n:Nat}(a:X.calm=true)(h:nV X es gs)(b:(assignEach es X.env).length=n:=by rfl)(hst:(assignEach es X.env).findIdx? (·.1)=none:=by rfl):QG X (.Tuple es k pos) (mR X.K n gs):=⟨Li a h.h b hst⟩
def BX{i:Expr}{a:TE}{ts:sH}(d:QE X o to)(b:QE X i a)(hs:Ag X ts)
 (c:∀v,assign (.Subscript o i pos) X.env v=(do
   let ov <- holding [v] (eval o X.env)
   let iv <- holding [v,ov] (eval i X.env)
   standAt pos
   holding [v,ov,iv] (setItem ov iv v)
   release [v,ov,iv] []):=by intro _;rfl):QG X (.Subscript o i pos) (DV to a ts):=⟨Lj d.h b.h hs c⟩
def Kl{l:Expr}{a:TE}(hl:QE X l a):QI X tg l (ux X.K a):=⟨Le hl.h⟩
def Kj{l:Expr}{a:TE}(hl:QE X l a):QI X tg l (uw X.K a):=⟨La hl.h⟩
def gN (b:Gl X "range") (hm:X.mg "range" = none) (c:QA X [a] t) (hs:dj a=false:=by rfl):QI X tg (.Call (.Name "range" p) [a] [] pos) (Dk t):=⟨Ld b hm c.h (bV hs)⟩
def BW (d:Gl X "range") (hm:X.mg "range" = none) (e:QA X [a,b] t) (hs:dj a=false:=by rfl) (c:dj b=false:=by rfl):QI X tg (.Call (.Name "range" p) [a,b] [] pos) (Dj t) :=
 ⟨Lc d hm e.h (by rw[bV hs,bV c];rfl) (bV c)⟩
def cm{body:List Stmt}{tb1:TS}(b:PassesOwn (model X.prog X.w) X.A X.env X.xe)(d:X.calm=true)(a:QI X tg it wi)(c:QG X tg g)(hb:dH X body tb1)
 (hs:∀x,foldedSetIterable it X.env x=pure x:=by intro _;rfl):QS X (.For tg it body [] pos) (AQ wi g tb1):=⟨KQ b d a.h c.h hb.h hs⟩
def eK:sJ X [] fZ:=⟨KG⟩
def mw(h:QT X c tA):sJ X [c] tA:=⟨KF h.h⟩
def eO{scope:Scope}{Nc:List Str}{nv:Nat}{caps:List Nat}{a:List Expr}(f:X.calm=true)(S:cz X Nc nv caps scope)(b:QI X tg it wi)
 (c:∀C s H fp,QG (cL X Nc scope C s H fp) tg g) (ht:∀C s H fp,sJ (cL X Nc scope C s H fp) a tt) (d:∀C s H fp,QE (cL X Nc scope C s H fp) e te)
 (hs:∀x,foldedSetIterable it X.env x=pure x:=by intro _;rfl):QE X (.ListComp e [⟨tg,it,a,0⟩] scope pos) (oC nv caps wi g tt te) :=
 ⟨LB f S b.h (λC s H fp=>(c C s H fp).h) (λC s H fp=>(ht C s H fp).h) (λC s H fp=>(d C s H fp).h) hs⟩
def mx{scope:Scope}{Nc:List Str}{nv:Nat}{caps:List Nat}{b:List Expr}{a d:Pos}{i:Nat}{y:Str}(hN:X.N.Nodup)(k:X.N[i]? = some y)(hx:iF X.env.scope y)(m:X.calm=true)(S:cz X Nc nv caps scope)(f:QI X tg it wi)
 (j:∀C s H fp,QG (cL X Nc scope C s H fp) tg g) (ht:∀C s H fp,sJ (cL X Nc scope C s H fp) b tt) (l:∀C s H fp,QE (cL X Nc scope C s H fp) e te)
 (c:swapsWith (.ListComp e [⟨tg,it,b,0⟩] scope pos) (some (.Name y d)) a.line X.env=pure true:=by rfl)
 (hs:∀x,foldedSetIterable it X.env x=pure x:=by intro _;rfl) (n:X.fn y=true\/X.env.scope.names.lookup y=some .local:=by first|exact .inl rfl|exact .inr rfl|assumption) :
 QS X (.Assign [.Name y d] (.ListComp e [⟨tg,it,b,0⟩] scope pos) a) (jp (oC nv caps wi g tt te) (cK i)) :=
 ⟨KL hN k hx m S f.h (λC s H fp=>(j C s H fp).h) (λC s H fp=>(ht C s H fp).h) (λC s H fp=>(l C s H fp).h) c hs n⟩
end
end
section
variable {X:Cx}{K:W.Frag}{a b c e o:Expr}{es bB:List Expr}{pos p p2:Pos}{ta tb tc te to:TE}{tA tB' tt:TT}{t tk:TA}
def aL(h:X.K=K):eT X (DZ K):=by subst h;exact Qq
def dE(h:X.K=K):iD X (DX K):=by subst h;exact Qe
def bv(h:X.K=K):aV X (binaryOp .Add) (D4 K):=by subst h;exact QP
def ca(h:X.K=K)(a:X.A.units+64<cLine):aV X (compareOp .Eq) (mT K false):=by subst h;exact QF a
def fu(h:X.K=K)(a:X.A.units+64<cLine):aV X (compareOp .NotEq) (mT K true):=by subst h;exact Ql a
def Qz(h:X.K=K):aV X (compareOp .In) (pZ K false):=by subst h;exact QB
def uN(h:X.K=K):aV X (compareOp .NotIn) (pZ K true):=by subst h;exact Qk
def bS (h:X.K=K):cB X (.builtin "len") (uR K):=by subst h;exact RP
def ia (h:X.K=K):cB X (.type "list") (uQ K):=by subst h;exact RO
def yE (h:X.K=K):cB X (.type "tuple") (uP K):=by subst h;exact RM
def EA (h:X.K=K) (a:X.calm=true):cB X (.builtin "all") (uU K false):=by subst h;exact RS a
def ib (h:X.K=K):cB X (.builtin "isinstance") (uS K):=by subst h;exact RQ
def gj (h:X.K=K):fW X "list.extend" (uT K):=by subst h;exact Np
def fg(h:X.K=K)(q:QE X e te)(a:∀whole,isTrue e X.env whole=(do let v <- whole;standAt e.pos;holding [v] (truthy v)):=by intro _;rfl):QT X e (uj K te):=by subst h;exact Kq q a
def cO{tg l:Expr}{a:TE}(h:X.K=K)(hl:QE X l a):QI X tg l (ux K a):=by subst h;exact Kl hl
def Ki{tg l:Expr}{a:TE}(h:X.K=K)(hl:QE X l a):QI X tg l (uw K a):=by subst h;exact Kj hl
def fN{k n:Nat}{a:gF}(h:X.K=K)(b:X.calm=true)(q:nV X es a)(c:(assignEach es X.env).length=n:=by rfl)(hst:(assignEach es X.env).findIdx? (·.1)=none:=by rfl):QG X (.Tuple es k pos) (mR K n a):=by subst h;exact Km b q c hst
def cq {name:Str} {a b:Pos} {T id:String} {r:V->List V->Hp->VK->Prop} (h:X.K=K) (k:PlainAttrs T) (slot:Slot T name id) (f:typeOf (.builtin id)=pure (.type "method_descriptor")) (hm:fW X id r) (i:QE X o to) (g:QA X (e::es) t)
 (d:attributeBase o name X.env (eval o X.env)=eval o X.env:=by rfl) (l:cu (e::es)=true:=by rfl) (j:decide ((e::es).length+0+0<30)=true:=by rfl)
 (c:(a.endLine == b.line)=true:=by rfl):QE X (.Call (.Attribute o name a) (e::es) [] b) (tG K T r to t):=by subst h;exact Ko k slot f hm i g d l j c
def BY {name:Str} {a b:Pos} {T id:String} {r:V->List V->Hp->VK->Prop} (h:X.K=K) (g:PlainAttrs T) (slot:Slot T name id) (e:typeOf (.builtin id)=pure (.type "method_descriptor")) (hm:fW X id r) (f:QE X o to)
 (d:attributeBase o name X.env (eval o X.env)=eval o X.env:=by rfl) (c:(a.endLine == b.line)=true:=by rfl):QE X (.Call (.Attribute o name a) [] [] b) (tF K T r to):=by subst h;exact Kn g slot e hm f d c
end
def aG.okQ{P:Program}{w:World}{K:W.Frag}{mg:Str->Option Value}{base:Heap}{x qual:Str}{st:Stmt}{f:Addr}{c:FuncData}{N ps:List Str}{k:Nat}{sp:Sp}(F:aG K x qual st f c)(S:ay N ps (ag st))(len:∀vs H Q E,sp vs H Q E->vs.length=ps.length)
 (b:∀(a:Value) (A:Around) (outer:List Env) (s:h6) (H:Hp) (vs:List V) (Q:VK) (E:XK),bt k (A.deeper (envOfC qual (ag st) s.heap.objs.size f a))->sp vs H Q E ->
   ∃t,dH (d7 bD P w K mg base N qual (ag st) f a A outer s H E).nox (ax st) t/\t { nx:=λ_ d=>Q .non d,rt:=Q } (cU N vs) H):bn P w K mg base bD (k+1) f c ps sp :=
 F.ok S len λa A outer s H vs Q E hr h=>let ⟨t,q,r⟩:=b a A outer s H vs Q E hr h;⟨t,q.h,r⟩
section
variable {X:Cx}{pins:List (Addr × Obj)}{σ:St}{H:Hp}{s:h6}{h':Heap}
def af.turnedL{t':Nat}{fp:List Addr}(I:af X pins σ H s)(k:∀b o,b∉fp->s.heap.get? b=some o->h'.get? b=some o)(f:∀b∈fp,eU X pins H b):af X pins σ H { s with heap:=h',toks:=t' }:=by
 have d:∀b u,H b=some u->b∉fp:=λb u e z=>by rw[(f b z).1]at e;cases e
 refine I.step (g':=s.gens) (d':=s.drawn) (ch:=fp) (λb hb=>?_) (λb o _ _ a e _=>k b o a e) (λb o _ _ a e _=>⟨o.slots,k b o a e⟩) (λ_ _ _ _ n=>n) (λb o a e=>⟨o,k b o a e⟩) (λ_ _ e=>e) (λ_ _ _ e=>e) (λb ps e=>⟨#[],by rw[e];simp⟩) (λm hm=>?_) (λb u e=>?_) I.bare
 ·obtain⟨B,p,y,l,j,x⟩:=f b hb;exact⟨l,p,j,x⟩
 ·obtain⟨o,g,h,i,r⟩:=hm;exact⟨o,g,h,k _ o (λz=>(f _ z).2.1 Z) i,r⟩
 ·refine (I.hok b u e).stay (λc v a q=>k c v ?_ q) (λ_ q=>q) λ_ _ q=>q;rcases a with z|z
  ·rw[z];exact d b u e
  ·exact d c _ z
def af.turnedN{t':Nat}{fp:List Addr}{T:Addr}{c:HO}(I:af X pins σ H s)(k:∀b o,b∉fp->s.heap.get? b=some o->h'.get? b=some o)(d:∀b∈fp,eU X pins H b)(hT:s.heap.objs.size<=T)
 (new:bw X.prog X.w (upd H T c) h' T c):af X pins σ (upd H T c) { s with heap:=h',toks:=t' }:=by
 have j:af X pins σ H { s with heap:=h',toks:=t' }:=I.turnedL k d;have f:H T=none:=I.hok.fresh hT;have ne:∀b u,H b=some u->b≠T:=λb u e z=>by rw[z,f]at e;cases e
 refine I.step (g':=s.gens) (d':=s.drawn) (ch:=fp) (λb hb=>?_) (λb o _ _ a e _=>k b o a e) (λb o _ _ a e _=>⟨o.slots,k b o a e⟩) (λb o _ e n=>?_) (λb o a e=>⟨o,k b o a e⟩) (λb xs e=>by rw[ap (ne b _ e)];exact e) (λb o u e=>by rw[ap (ne b _ e)];exact e) (λb ps e=>⟨#[],by rw[ap (ne b _ e),e];simp⟩) (λm hm=>?_) (j.hok.adopt f new) I.bare
 ·obtain⟨y,q,x,p,l,v⟩:=d b hb;exact⟨p,q,l,v⟩
 ·rw[ap (λz=>YC (V6 (V7 e) (by rw[z];exact hT)) (Wz _))];exact n
 ·obtain⟨o,g,h,i,r⟩:=hm;exact⟨o,g,h,k _ o (λz=>(d _ z).2.1 Z) i,r⟩
end
def iG(K:W.Frag)(a:Addr):It :=
 ⟨λi H=>∃xs x,aI K H a xs/\xs[i]? = some x,λi H x b=>∃p v,x=.ref p/\(∀xs,aI K H a xs->xs[i]? = some v)/\bi H p (.tup [.int (i:Int),v]) b,λi H=>∃xs,aI K H a xs/\xs.length<=i⟩
def LL{P:Program}{w:World}{H:Hp}{h:Heap}{T:Addr}{c a:V}{b u2:Value}(hT:h.IsTuple T #[b,u2])(d:aN c b)(e:aN a u2):bw P w (upd H T (.tup [c,a])) h T (.tup [c,a]):=by
 refine⟨sz Z,[b,u2],.cons d (.cons e .nil),?_⟩;exact hT
def GQ{P:Program}{w:World}{K:W.Frag}{es:List Expr}{kk:Nat}{pp:Pos}(a e it:Addr)(C:e≠it):je P w K (.Tuple es kk pp) (iG K a) [e,it] e (λi h=>(∃f,IsEnum h e it i f)/\h.IsListIter it a i) where
 mem:=by simp
 obj:=λi h st b hb=>by
  obtain⟨⟨f,g⟩,o,e2,c,d⟩:=st;have m:b=e\/b=it:=by simpa using hb
  rcases m with z|z
  ·subst z;exact⟨_,g,λv z=>by cases (show Data.fields _=Data.cell v from z)⟩
  ·subst z;exact⟨o,e2,λv z=>by rw[d]at z;cases z⟩
 keep:=λi h h' st k=>by
  obtain⟨⟨f,g⟩,q⟩:=st
  exact⟨⟨f,k e (by simp) _ g⟩,q.at λo x=>k it (by simp) o x⟩
 item:=by
  intro X hP hw hK U i j s σ H E I J st L;subst hP hw hK;obtain⟨⟨f,g⟩,q⟩:=st;obtain⟨xs,x,G,hx⟩:=L;obtain⟨S,N,p,hz⟩:=I.list G;obtain⟨u,hu,ru⟩:=N.get hx;have l:e<s.heap.objs.size:=V7 g;have D:it<s.heap.objs.size:=by obtain⟨_,z,_⟩:=q;exact V7 z
  refine wpAny_pyNext_enum_item g q p.isList (x:=u) (by simpa using hu) C λh' Y r hT hsz hk=>?_;refine⟨_,rfl,wpAny_letOwnedTupleGo_enum (s:={ s with heap:=h',toks:=s.toks+1 }) Y λF M n=>?_⟩;have hTe:s.heap.objs.size≠e:=Xi l;have hT2:F.get? s.heap.objs.size=some { cls:=.type "tuple",data:=.seq #[.int i s.toks,u] }:=(n.2 _ hTe).trans hT;have I2:af X j σ (upd H s.heap.objs.size (.tup [.int (i:Int),x])) { s with heap:=F,toks:=s.toks+1 }:=by
   refine I.turnedN (fp:=[e,it]) (λb o hb O=>?_) J (V5 _) (LL ⟨_,hT2,Z,_,Z⟩ ⟨_,Z⟩ ru);have B:b≠e:=λz=>hb (by simp[z]);have R:b≠it:=λz=>hb (by simp[z]);exact (n.2 b B).trans (hk b o B R O)
  refine⟨.ref s.heap.objs.size,_,I2,rfl,⟨_,x,rfl,λys hy=>by rw[I.list_inj hy G];exact hx,.mk' I.fresh⟩,⟨⟨_,by simpa using M⟩,r.at λo y=>(n.2 it C.symm).trans y⟩,λb hb=>?_⟩;have m:b=e\/b=it:=by simpa using hb
  rw[ap (by rcases m with z|z<;>(rw[z];first|exact Wc l|exact Wc D))];exact (J b hb).1
 done:=by
  intro X hP hw hK U i j s σ H E I J st L;subst hP hw hK;obtain⟨⟨f,g⟩,q⟩:=st;obtain⟨xs,G,hx⟩:=L;obtain⟨S,N,p,hz⟩:=I.list G;have hl:=N.length;refine wpAny_pyNext_enum_end (I.ok.hd U) g q p.isList (by simp;omega) λh' V=>⟨rfl,I.turnedL (t':=s.toks) (fp:=[e,it]) (λb o hb O=>V b o (λz=>hb (by simp[z])) O) J⟩
 self:=λ_ _ _ _ _ st h=>wpAny_pyIter_enum st.1.choose_spec h
def Dl(K:W.Frag)(c:TA):TI:=λσ H R=>c σ H λvs b=>∃a xs,vs=[.ref a]/\aI K b a xs/\R (iG K a) b
section
variable {X:Cx}{tg:Expr}{es:List Expr}{kk:Nat}{pp:Pos}
def Lf {a:Expr} {j:TA} {p pos:Pos} (x:Gl X "enumerate") (hm:X.mg "enumerate" = none) (n:PA X [a] j) (hs:starEach [a] X.env=[(false,eval a X.env)]:=by rfl):PI X (.Tuple es kk pp) (.Call (.Name "enumerate" p) [a] [] pos) (Dl X.K j):=by
 intro c s σ H R I h;refine Call_ (gk I x hm boot_enumerate (WT (av (n pos c s σ H _ I h) λus s1 ⟨vs,m,f,o,B⟩=>?_) hs Z));obtain⟨l,xs,e,u,q⟩:=B;subst e;cases o with
 | cons r rr =>
  cases rr;cases r;obtain⟨y,D,pl,hz⟩:=f.list u;refine call_enumerate_list pl.isList λh' k i hsz v=>?_;refine wpAny_pyIter_enum (s:={ s1 with heap:=h' }) k ?_;have C:af X c σ m { s1 with heap:=h' }:=f.kept (t':=s1.toks) v;refine⟨s1.heap.objs.size+1,[s1.heap.objs.size+1,s1.heap.objs.size],_,iG X.K l,m,Z,C,GQ l _ _ (Nat.succ_ne_self _),⟨⟨_,k⟩,i⟩,λb hb=>?_,q⟩;have g:b=s1.heap.objs.size+1\/b=s1.heap.objs.size:=by simpa using hb
  have d:s1.heap.objs.size<=b:=by
   rcases g with z|z
   ·rw[z];exact WU _
   ·rw[z];exact V5 _
  exact f.fpOk d (f.hok.fresh d)
end
def JP:typeLookup (.type "list_reverseiterator") "__len__" = pure none:=by rw[typeLookup_type,builtinLookup_eq_fast];kernel_rfl
def JQ:typeLookup (.type "list_reverseiterator") "__length_hint__" = pure (some (.builtin "list_reverseiterator.__length_hint__")):=by rw[typeLookup_type,builtinLookup_eq_fast];kernel_rfl
section
variable {prog:Program}{w:World}{A:Around}{E:Value->h6->Prop}{s:h6}{r:Addr}
def JR {Q:Bool->h6->Prop} (hT:s.TypeIs (.ref r) "list_reverseiterator") (h:Q false s):wpAny (model prog w) A (Builtin.List.listLengthHint (.ref r)) Q E s:=by
 unfold Builtin.List.listLengthHint;refine kb (wpAny_specialOf hT JP ?_);show wpAny _ A (specialOf (Value.ref r) (Str.ofString "__length_hint__") >>= _) _ _ _;refine kb (wpAny_specialOf hT JQ ?_);generalize hid:("list_reverseiterator.__length_hint__" : String)=id0
 wp_delta
 rw[show splitId id0=some ("list_reverseiterator", "__length_hint__") from by subst hid;decide +kernel];subst hid;refine kb (wpAny_isInstance (T := "list_reverseiterator") (b:=true) hT (by rw[isSubtype_type];kernel_rfl) ?_);refine wpAny_ite_split (λa=>YC a (by decide)) (λ_=>?_);refine wpAny_ite_split (λ_=>?_) (λa=>YC (by decide +kernel) a);refine wpAny_ite_split (λa=>YC a (by decide +kernel)) (λ_=>?_);exact on h
def JS{R:Result->h6->Prop}{l:Addr}{items:Array Value}(C:A.handled=none)(S:Addr)(res:Value)(u:Nat)(p:l≠r)(hSr:S≠r)(hSl:S≠l)(d:s.heap.IsRevIter r l ((items.size:Int)-1))(hl:s.heap.IsList l items)
 (hS:s.heap.get? S=some { cls:=.type "list",data:=.seq #[] u })
 (hR:∀h' tk a h,(∀b o,b≠S->b≠r->s.heap.get? b=some o->h'.get? b=some o)->h'.get? S=some { cls:=.type "list",dict:=none,data:=.seq a h,slots:=#[] }->ItemsOf (λi v=>items[items.size-1-i]? = some v) a items.size->R (.ok (.ret res)) { s with heap:=h',toks:=tk }) (B:items.size<=sizeLine) :
 wpAny (model prog w) A.in1 (Builtin.List.listExtendWith (.ref S) (.ref r) res)
  (λn g=>match n with|.done f=>R (.ok f) g|.again h=>h.quiet=true/\codeAny (model prog w) A h R g) (λe g=>R (.error e) g) s:=by
 have W:=(Walks.listRev (prog:=prog) (w:=w) (A:=A.in1) C r l p items);have hSf:S∉[r,l]:=by simp[hSr,hSl]
 unfold Builtin.List.listExtendWith;refine kb (wpAny_typeOf (T := "list_reverseiterator") d.typeIs ?_);have y:Builtin.List.listSameRef (.ref S) (.ref r)=false:=by simp[Builtin.List.listSameRef,hSr]
 have x:(Value.type "list_reverseiterator" == Value.type "list")=false:=by decide
 have z:(Value.type "list_reverseiterator" == Value.type "tuple")=false:=by decide
 simp only [y,x,z,Bool.or_false,XR,if_false];refine kb (wpAny_pyIter_revIter d ?_);refine kb (wpAny_holding (JR d.typeIs ?_));refine wpAny_ite_split (λm=>YC m (by decide +kernel)) (λ_=>on ⟨plainId_quiet PySem.F.plain_extend_loop _,?_⟩);refine codeAny_extend_loopS W.toS B S hSf res items.size 0 _ #[] u rfl (Wu _) ⟨Wu _,by simpa using d,hl⟩ hS (ItemsOf.nil _) λg a h hm k j=>?_;rw[Moved.eq_with hm];refine hR g.heap g.toks a h (λb o hb q e=>hm.heap b o (λc=>?_) e) k j;rcases Wh.mp c with e'|c
 ·exact hb e'
 ·exact q (Wl.mp c)
def JT{l:Addr}{items:Array Value}{Q:Value->h6->Prop}(n:A.handled=none)(h:l≠r)(f:s.heap.IsRevIter r l ((items.size:Int)-1))(hl:s.heap.IsList l items)(u:items.size<=sizeLine)
 (hQ:∀h' g a j,(∀b o,b≠r->s.heap.get? b=some o->h'.get? b=some o)->h'.get? s.heap.objs.size=some { cls:=.type "list",dict:=none,data:=.seq a j,slots:=#[] }->ItemsOf (λi v=>items[items.size-1-i]? = some v) a items.size->Q (.ref s.heap.objs.size) { s with heap:=h',toks:=g }) :
 wpAny (model prog w) A (call (.type "list") [.ref r]) Q E s:=by
 refine callType_codes (Q₁:=λobj m=>obj=.ref s.heap.objs.size/\m = { s with heap:=s.heap.push { cls:=.type "list",data:=.seq #[] } }) PySem.F.called_list (PySem.F.typeCall_list_1 _) PySem.F.entry_list_init
  (code_list_new _ ⟨rfl,rfl⟩) λobj m q=>?_
 obtain⟨rfl,rfl⟩:=q;have hS:(s.heap.push { cls:=.type "list",data:=.seq #[] }).get? s.heap.objs.size=some { cls:=.type "list",data:=.seq #[] }:=Ws _ rfl;have lr:r<s.heap.objs.size:=by obtain⟨o,e,_⟩:=f;exact V7 e
 have ll:l<s.heap.objs.size:=by obtain⟨o,e,_⟩:=hl;exact V7 e
 refine⟨⟨_,hS,Z⟩,PySem.F.args_list_init_2 _ _,?_⟩;show wpAny _ _ (do let old <- Builtin.List.listItems (.ref s.heap.objs.size);Builtin.List.listUpdate (.ref s.heap.objs.size) (λ_=>#[]);letGo old.toList.reverse;Builtin.List.listExtendWith (.ref s.heap.objs.size) (.ref r) .none) _ _ _;refine kb ?_;unfold Builtin.List.listItems;refine kb (wpAny_seqItems hS Z (on ?_));show wpAny _ _ (updateSeq s.heap.objs.size (λ_=>#[]) >>= λ_=>letGo (#[]:Array Value).toList.reverse >>= λ_=>Builtin.List.listExtendWith (.ref s.heap.objs.size) (.ref r) .none) _ _ _;refine kb (wpAny_updateSeq hS Z ?_);have hS₂:=WL (Obj.mapSeq (λ_=>(#[]:Array Value))) hS rfl;have c:∀b o,b≠s.heap.objs.size->s.heap.get? b=some o->((s.heap.push { cls:=.type "list",data:=.seq #[] }).update s.heap.objs.size (Obj.mapSeq (λ_=>(#[]:Array Value)))).get? b=some o :=
  λb o hb e=>(WF _ _ (Ne.symm hb)).trans (V9 _ e)
 refine kb (wpAny_letGo ?_);refine JS (A:=A.in1) n _ .none _ h (Xi lr) (Xi ll) (f.at λo e=>c r o (Wc lr) e) (hl.at λo e=>c l o (Wc ll) e) hS₂ (λh' g a j p k d=>?_) u;exact⟨rfl,hQ h' g a j (λb o hb e=>p b o (Wc (V7 e)) hb (c b o (Wc (V7 e)) e)) k d⟩
end
def AF(K:W.Frag)(c:TA):TE:=λσ H Q=>c σ H λvs b=>∃a xs,vs=[.ref a]/\aI K b a xs/\∀p H',bi b p (.lst xs.reverse) H'->Q (.ref p) H'
def Nt {X:Cx} {a:Expr} {J:TA} {Y y pos f:Pos} (O:X.calm=true) (D:Gl X "list") (x:X.mg "list" = none) (C:Gl X "reversed") (B:X.mg "reversed" = none) (L:PA X [a] J) (hs:starEach [a] X.env=[(false,eval a X.env)]:=by rfl)
 (p:starEach [.Call (.Name "reversed" y) [a] [] f] X.env=[(false,eval (.Call (.Name "reversed" y) [a] [] f) X.env)]:=by rfl):PE X (.Call (.Name "list" Y) [.Call (.Name "reversed" y) [a] [] f] [] pos) (AF X.K J):=by
 intro j s σ H Q I h;refine Call_ (gk I D x boot_list (WT ?_ p Z));rw[p];refine Calls.spliced_cons (Call_ (gk I C B boot_reversed (WT (av (L f j s σ H _ I h) λus s1 ⟨vs,U,m,V,W⟩=>?_) hs Z)));obtain⟨l,xs,e,S,q⟩:=W;subst e;cases V with
 | cons r F =>
  cases F;cases r;obtain⟨c,G,pl,hz⟩:=m.list S;have n:=G.length;refine call_reversed_list pl.isList (Calls.spliced_nil ?_);have ll:l<s1.heap.objs.size:=by obtain⟨o,_,e,_⟩:=pl;exact V7 e
  have R:af X j σ U { s1 with heap:=s1.heap.push (revObj l ((c.toArray.size:Int)-1)) }:=m.kept (t':=s1.toks) λb o e=>V9 _ e;refine JT (s:={ s1 with heap:=s1.heap.push (revObj l ((c.toArray.size:Int)-1)) }) (items:=c.toArray) (I.ok.hd O) (Wc ll) ⟨_,Ws _ rfl,rfl,rfl⟩ (pl.isList.at λo e=>V9 _ e) (by rw[Wd,<- n];exact hz) λh' N d c' M hS g=>?_;have k:d.toList=c.reverse:=by
   refine List.ext_getElem? λi=>?_;have hn:d.size=c.length:=g.1.trans Wd;have hi:∀i v,d[i]? = some v->c.toArray[c.length-1-i]? = some v:=λi v e=>by
    have z:=g.2 i v e
    rwa [Wd]at z
   by_cases hlt:i<c.length
   ·have u:i<d.size:=by omega
    have e1:=hi i d[i] (XX u);rw[Yo hlt,Ym,XX u,<- e1];simp
   ·rw[Xc (by rw[Xz];omega),Xc (by rw[XY];omega)]
  have F:aA xs.reverse c.reverse:=G.reverse;refine⟨.ref _,_,?_,Z,q _ _ (.mk' R.fresh)⟩;refine m.turnedN (s:=s1) (fp:=[s1.heap.objs.size]) (t':=N) (λb o hb e=>M b o (λz=>hb (by simp[z])) (V9 _ e)) (λb hb=>?_) ?_ ⟨by rw[XY];exact hz,c.reverse,c',F,?_⟩
  ·have e:b=s1.heap.objs.size:=by simpa using hb
   subst e;exact m.fpOk (V5 _) m.fresh
  ·exact Wq (WU _) (W4 (WZ _ _).symm)
  ·have e:d=c.reverse.toArray:=by rw[<- k]
   rw[<- e];exact hS
def sN(lo c:Int)(n:Nat):It:=⟨λi _=>i<n,λi H x a=>a=H/\x=.int (lo+i*c),λi _=>n<=i⟩
def GN{P:Program}{w:World}{K:W.Frag}{tg:Expr}(it:Addr)(lo c:Int)(n:Nat):je P w K tg (sN lo c n) [it] it (λi h=>IsRangeIter h it (lo+(i:Nat)*c) ((n:Int)-(i:Nat)) c) where
 mem:=by simp
 obj:=λi h st b hb=>by
  have e:b=it:=by simpa using hb
  subst e;exact⟨_,st,λv z=>by
   have D:Data.fields _=Data.cell v:=z;cases D⟩
 keep:=λi h h' st k=>k it (by simp) _ st
 item:=by
  intro X hP hw hK m i a s σ H E I f st j;subst hP hw hK;obtain⟨l,p,y,q,g,r⟩:=f it (by simp);have W:=Walks.range (prog:=X.prog) (w:=X.w) (I.ok.hd m) it lo c n;refine W.item i s _ _ j st λv h' u F d B=>?_;obtain⟨t,rfl⟩:=F;have x:af X a σ H { s with heap:=h',toks:=u }:=I.turned (λb o hb e=>B b o (by simpa using hb) e) l p q g r;exact⟨_,rfl,pT (s:={ s with heap:=h',toks:=u }) (n := "range_iterator") d rfl rfl (by decide) ⟨.int (lo+i*c),H,x,⟨t,rfl⟩,⟨rfl,rfl⟩,d,λb hb=>(f b hb).1⟩⟩
 done:=by
  intro X hP hw hK m i a s σ H E I f st j;subst hP hw hK;obtain⟨l,p,y,q,g,r⟩:=f it (by simp);exact wpAny_pyNext_range_end (I.ok.hd m) st (by have:n<=i:=j;omega) λh' C=>⟨rfl,I.turned (t':=s.toks) (λb o hb e=>C b o hb e) l p q g r⟩
 self:=λ_ _ _ _ _ st h=>wpAny_pyIter_rangeiter st h
def Di(a:TA):TI:=λσ H R=>a σ H λvs b=>∃(n c:Nat),vs=[.int 0,.int (n:Int),.int (c:Int)]/\n<=1000000000/\0<c/\c<=1000000/\R (sN 0 (c:Int) ((n+(c-1))/c)) b
def IC{n c:Nat}(g:n<=1000000000)(f:0<c)(d:c<=1000000):Builtin.Range.rangeSize 0 (n:Int) (c:Int)=(((n+(c-1))/c:Nat):Int)/\Builtin.Range.small 0 (n:Int) (c:Int)=true:=by
 have e:Builtin.Range.rangeSize 0 (n:Int) (c:Int)=(((n+(c-1))/c:Nat):Int):=by
  rw[rangeSize_pos (by omega) (by omega)];rw[Int.natCast_ediv]
  congr 1
  omega
 refine⟨e,?_⟩;have b:(n+(c-1))/c<=n+(c-1):=Nat.div_le_self _ _;have a:(((n+(c-1))/c:Nat):Int)*(c:Int)<=n+(c-1):=by
  have:=Nat.div_mul_le_self (n+(c-1)) c;rw[<- Int.natCast_mul];omega
 unfold Builtin.Range.small;rw[e];generalize (n+(c-1))/c=k at b a ⊢;simp only [Builtin.Range.rangeFitsLong,Wy,Bool.or_eq_true,decide_eq_true_eq,beq_iff_eq];refine⟨by omega,Or.inr ?_⟩;rw[YB (by omega)];simp only [Wy,decide_eq_true_eq];omega
section
variable {X:Cx}{tg:Expr}
def Lb {a b d:Expr} {l:TA} {p pos:Pos} (z:Gl X "range") (hm:X.mg "range" = none) (u:PA X [a,b,d] l) (hs:starEach [a,b,d] X.env=(false,eval a X.env)::starEach [b,d] X.env:=by rfl) (k:(backTo pos (starEach [b,d] X.env)).any (·.1)=false:=by rfl) :
 PI X tg (.Call (.Name "range" p) [a,b,d] [] pos) (Di l):=by
 intro f s σ H R I h;refine Call_ (gk I z hm boot_range (WT (av (u pos f s σ H _ I h) λus s1 ⟨vs,m,x,v,i⟩=>?_) hs k));obtain⟨n,c,e,i,B,C,q⟩:=i;subst e;cases v with
 | cons r rr =>
  cases rr with
  | cons r' rr =>
   cases rr with
   | cons r'' rr =>
    cases rr;obtain⟨t,rfl⟩:=r;obtain⟨t',rfl⟩:=r';obtain⟨g,rfl⟩:=r'';obtain⟨e,sm⟩:=IC i B C;refine call_range_3 (by omega) ?_ (Or.inl (Yf (by omega)));refine wpAny_pyIter_range (IsRange.new ..) sm ?_;have j:af X f σ m { s1 with heap:=s1.heap.push { cls:=.type "range",data:=.fields #[.int 0 t,.int n t',.int c g] },toks:=s1.toks }:=x.kept λb o e=>V9 _ e;refine⟨_,[_],_,_,m,Z,j.kept (t':=s1.toks) λb o e=>V9 _ e,GN _ 0 (c:Int) ((n+(c-1))/c),?_,λb hb=>?_,q⟩
    ·show IsRangeIter _ _ (0+((0:Nat):Int)*_) ((((n+(c-1))/c:Nat):Int)-((0:Nat):Int)) _;have D:(0:Int)+((0:Nat):Int)*(c:Int)=0:=by simp
     have y:((((n+(c-1))/c:Nat):Int)-((0:Nat):Int))=Builtin.Range.rangeSize 0 (n:Int) (c:Int):=by rw[e];simp
     rw[D,y];exact Ws _ Z
    ·have e:=Wl.mp hb;subst e;exact j.fpOk (V5 _) (j.hok.fresh (V5 _))
def mU{K:W.Frag}{a:Addr}{xs:List V}{g:TG}{tb:TS}{D:fX}{σ:St}{H:Hp}(c:Nat->St->Hp->Prop)(l:c 0 σ H)(hl:∀i σ H,i<=xs.length->c i σ H->aI K H a xs)
 (hs:∀i x p σ H b,xs[i]? = some x->c i σ H->bi H p (.tup [.int (i:Int),x]) b->g (.ref p) σ b λh f=>tb { D with nx:=c (i+1),ct:=c (i+1),bk:=D.nx } h f) (hd:∀σ H,c xs.length σ H->D.nx σ H) :
 ∃W:Nat->Nat->St->Hp->Prop,(∃m,W 0 m σ H)/\∀i m σ H,W i m σ H ->
  ((iG K a).stop i H/\D.nx σ H)\/((iG K a).go i H/\∃N:St->Hp->Prop,(∀d b,N d b->∃m',m'<m/\W (i+1) m' d b)/\∀x b,(iG K a).yld i H x b->g x σ b λh f=>tb { D with nx:=N,ct:=N,bk:=D.nx } h f):=by
 refine⟨λi m σ H=>m=xs.length-i/\i<=xs.length/\c i σ H,⟨xs.length,by simp,Wu _,l⟩,?_⟩;rintro i m σ H ⟨rfl,j,p⟩;have q:=hl i σ H j p;by_cases hlt:i<xs.length
 ·refine .inr ⟨⟨xs,xs[i],q,by simp[hlt]⟩,c (i+1),λd b k=>⟨xs.length-(i+1),by omega,rfl,hlt,k⟩,λx b y=>?_⟩;obtain⟨pp,v,rfl,y,n⟩:=y;exact hs i v pp σ H b (y xs q) p n
 ·have e:i=xs.length:=by omega
  subst e;exact .inl ⟨⟨xs,q,V5 _⟩,hd σ H p⟩
end
def U3(i j:Int):Prop:=0<=j/\(Builtin.Int.intBits i:Int)+j<=2 ^ 27
def DS{X:Cx}:aV X (binaryOp .LShift) (gI U3 λi j=>.int (i*2 ^ j.toNat)):=p0 (mD λ_ _ _ _ _ _ _ a q=>lshift_int a.1 a.2 q)
def D2:V->List V->Hp->VK->Prop:=λx vs H Q=>match x,vs with
 | .int i,[]=>Q (.int (Builtin.Int.intBits i)) H
 | _,_=>False
def Nq {X:Cx}:fW X "int.bit_length" D2:=by
 intro a s σ H x vs v us Q I b c q;unfold D2 at q
 split at q
 ·obtain⟨t,rfl⟩:=b;cases c;exact call_int_bit_length ⟨.int _,H,I.tok _,⟨_,Z⟩,q⟩
 ·exact q.elim
def xw{K:W.Frag}{a:Addr}{xs:List V}{cs:St}{s:TT}{u:TE}{H:Hp}{Q:VK}(h:Nat->List V->Hp->Prop)(F:h 0 [] H)(hl:∀i d H,i<=xs.length->h i d H->aI K H a xs/\d.length<=i)(hz:xs.length<=sizeLine)
 (hs:∀i x d H c (N:List V->Hp->Prop),xs[i]? = some x->h i d H->ah H c->(∀f c,h (i+1) f c->N f c)->s (some (.int (i:Int))::some x::cs) c λb o=>if b=true then u (some (.int (i:Int))::some x::cs) o λy C=>N (d++[y]) C else N d o)
 (hd:∀d H p c,h xs.length d H->bi H p (.lst d) c->Q (.ref p) c) :
 ik (iG K a) H (List.replicate 2 none++cs) (mR K 2 (lN (cK 0) (lN (cK 1) pX))) s u Q:=by
 refine⟨λi m d σ H=>m=xs.length-i/\i<=xs.length/\h i d H/\∃j k,σ=j::k::cs,⟨xs.length,by simp,Wu _,F,none,none,rfl⟩,?_⟩;rintro i m d σ l ⟨rfl,D,p,j,k,rfl⟩;obtain⟨q,G⟩:=hl i d l D p;by_cases hlt:i<xs.length
 ·refine .inr ⟨⟨xs,xs[i],q,by simp[hlt]⟩,by omega,λf r c=>h (i+1) f c/\∃j k,r=j::k::cs,λf r c ⟨n,e⟩=>⟨xs.length-(i+1),by omega,rfl,hlt,n,e⟩,λx c y=>?_⟩;obtain⟨pp,v,rfl,y,B⟩:=y;refine⟨pp,_,Z,B.tup,Z,_,_,Z,_,_,Z,Z,?_⟩;exact hs i v d l c (λf c=>h (i+1) f c/\∃j k,some (V.int (i:Int))::some v::cs=j::k::cs) (y xs q) p B.sm λ_ _ z=>⟨z,_,_,Z⟩
 ·have e:i=xs.length:=by omega
  subst e;exact .inl ⟨⟨xs,q,V5 _⟩,by omega,λn c g=>hd d l n c p g⟩
section
variable {X:Cx}{K:W.Frag}{a b c e o:Expr}{es bB:List Expr}{pos p p2 pos2:Pos}{t:TA}{kk:Nat}
def B0 (h:X.K=K) (g:X.calm=true) (b:X.mg "list" = none) (d:X.mg "reversed" = none) (f:QA X [a] t) (c:Gl X "list":=by rfl) (e:Gl X "reversed":=by rfl) (hs:dj a=false:=by rfl) :
 QE X (.Call (.Name "list" p) [.Call (.Name "reversed" p2) [a] [] pos2] [] pos) (AF K t):=by subst h;exact⟨Nt g c b e d f.h (bV hs) (bV Z)⟩
def gO (h:X.K=K) (b:Gl X "enumerate") (hm:X.mg "enumerate" = none) (c:QA X [a] t) (hs:dj a=false:=by rfl):QI X (.Tuple es kk p2) (.Call (.Name "enumerate" p) [a] [] pos) (Dl K t):=by subst h;exact⟨Lf b hm c.h (bV hs)⟩
def Kk {tg:Expr} (f:Gl X "range") (hm:X.mg "range" = none) (g:QA X [a,b,c] t) (hs:dj a=false:=by rfl) (d:dj b=false:=by rfl) (e:dj c=false:=by rfl):QI X tg (.Call (.Name "range" p) [a,b,c] [] pos) (Di t) :=
 ⟨Lb f hm g.h (bV hs) (by rw[bV d,bV e];rfl)⟩
end
def cH:g0->List Value->Bool
 | [],[]=>true
 | n::r,.int m _::u=>n == m && cH r u
 | _,_=>false
theorem cH.vals:∀ {ns:g0} {us:List Value},cH ns us=true->aA (ns.map V.int) us
 | [],[],_=>.nil
 | n::r,.int m _::u,h=>by
  have h':(n == m && cH r u)=true:=h;rw[Wy,beq_iff_eq]at h';obtain⟨rfl,a⟩:=h';exact .cons ⟨_,Z⟩ (cH.vals a)
def du {K:W.Frag} {a:Addr} {c:Option Addr} {b:Array Value} {n:Nat} {e:Array (Option Value)} {ns:g0} (h:K.lookup a=some ⟨.type "tuple",c,.seq b n,e⟩) (d:cH ns b.toList=true) (hz:b.size<=1000:=by decide) (H:Hp):be K H a (ns.map V.int) :=
 .inr ⟨_,b,n,h,rfl,rfl,sz (Yp hz),cH.vals d⟩
def bi.after{H b a:Hp}{p:Addr}{o:HO}(s:ah H b)(g:bi b p o a):bi H p o a:=⟨s.free g.nw,s.trans g.sm,g.at_⟩
def bZ(b:Nat)(ps:g0):Int:=ps.foldl (λa p=>a*2 ^ b+p) 0
theorem tq(b:Nat):∀(ps:g0) (a:Int),ps.foldl (λa p=>a*2 ^ b+p) a=a*2 ^ (b*ps.length)+bZ b ps
 | [],a=>by simp[bZ]
 | p::r,a=>by
  unfold bZ;rw[Xp,Xp,tq b r,tq b r,WE,XZ,X0];generalize (2:Int) ^ (b*r.length)=X;generalize (2:Int) ^ b=Y;rw[X1,X1,Int.mul_assoc,X2 Y X];omega
def AB(b:Nat)(ps a:g0):bZ b (ps++a)=bZ b ps*2 ^ (b*a.length)+bZ b a:=by
 conv=>lhs;unfold bZ
 rw[X3,tq b a]
 rfl
def GR(b:Nat)(ps:g0)(p:Int):bZ b (ps++[p])=bZ b ps*2 ^ b+p:=by
 rw[AB];simp[bZ]
def oy(k:Nat):(0:Int)<2 ^ k:=Int.pow_pos (by decide)
def GS{b:Nat}:∀ {ps:g0},(∀p∈ps,0<=p/\p<2 ^ b)->0<=bZ b ps/\bZ b ps<2 ^ (b*ps.length):=by
 intro ps h
 induction ps with
 | nil=>simp[bZ]
 | cons p r ih =>
  have c:=h p (.head _);have f:=ih λq d=>h q (.tail _ d);have e:bZ b (p::r)=p*2 ^ (b*r.length)+bZ b r:=by
   have:=AB b [p] r;simpa [bZ] using this
  rw[e,WE,XZ,X0];have a:=oy (b*r.length);generalize (2:Int) ^ (b*r.length)=X at *;generalize (2:Int) ^ b=Y at *;have i:0<=p*X:=Int.mul_nonneg c.1 (Xq a);have g:p*X+X<=X*Y:=by
   have:(p+1)*X<=Y*X:=Int.mul_le_mul_of_nonneg_right (by omega) (Xq a);rw[X1,Int.one_mul]at this;rw[X2 X Y];exact this
  omega
def dC(b a:Nat)(n:Int):g0:=(List.range a).map λi=>n/2 ^ (b*(a-1-i))%2 ^ b
def K1(b a:Nat)(n:Int):(dC b a n).length=a:=by simp[dC]
def K0(b a:Nat)(n:Int):((List.range a).map λi=>n/2 ^ (b*i)%2 ^ b).reverse=dC b a n:=by
 refine List.ext_getElem? λi=>?_;by_cases h:i<a
 ·rw[Yo (by simpa using h)];simp[dC,h,show a-1-i<a by omega]
 ·rw[Xc (by simp;omega),Xc (by simp[dC];omega)]
def Ri(n:Int)(b j:Nat):n/2 ^ (b*j)/2 ^ b=n/2 ^ (b*(j+1)):=by
 rw[Int.ediv_ediv_of_nonneg (Xq (oy _)),<- X0,XZ]
def Ng(x:Int)(b:Nat):x-x/2 ^ b*2 ^ b=x%2 ^ b:=by
 rw[Int.emod_def,X2]
abbrev eW(r:g0):Prop:=∀p∈r,0<=p/\p<256
def db{α:Type}{a:List α}{i:Nat}{y:α}(h:a[i]? = some y):a.take (i+1)=a.take i++[y]:=by rw[XE,h];rfl
def Pq{α β:Type}{xs:List α}{a:List β}{i:Nat}{x:α}(hl:a.length=xs.length)(h:xs[i]? = some x):∃y,a[i]? = some y:=by
 have:=(V8.mp h).1;exact⟨a[i]'(by omega),by simp⟩
def jb{K:W.Frag}{a:Addr}{xs:List V}{cs:St}{f:TE}{H:Hp}{Q:VK}(e:List V)(hl:e.length=xs.length)(k:aI K H a xs)(hz:xs.length<=sizeLine)
 (hs:∀(i:Nat) x y b (N:VK),xs[i]? = some x->e[i]? = some y->ah H b->(∀c,ah b c->N y c)->f (some x::cs) b N) (hd:∀p b,bi H p (.lst e) b->Q (.ref p) b) :
 ik (ji K a) H (List.replicate 1 none++cs) (cK 0) fZ f Q:=by
 refine qU (λi d b=>ah H b/\d=e.take i) ⟨ah.refl _,rfl⟩ (λi d b l z=>⟨z.1.seq k,by rw[z.2,Wa];omega⟩) hz (λi x d b N hx z hN=>?_) λd b p c z g=>?_
 ·obtain⟨s,rfl⟩:=z;obtain⟨y,h⟩:=Pq hl hx;simp only [fZ,if_true];exact hs i x y b _ hx h s λc j=>hN _ _ ⟨s.trans j,by rw[db h]⟩
 ·obtain⟨s,rfl⟩:=z;rw[<- hl,Wg]at g;exact hd p c (g.after s)
def Rz{lo:Int}{n:Nat}{cs:St}{f:TE}{H:Hp}{Q:VK}(c:List V)(hl:c.length=n)(hz:n<=sizeLine)
 (hs:∀(i:Nat) y a (N:VK),i<n->c[i]? = some y->ah H a->(∀b,ah a b->N y b)->f (some (.int (lo+(i:Int)))::cs) a N) (hd:∀p a,bi H p (.lst c) a->Q (.ref p) a) :
 ik (ig lo n) H (List.replicate 1 none++cs) (cK 0) fZ f Q:=by
 refine xv (λi d a=>ah H a/\d=c.take i) ⟨ah.refl _,rfl⟩ (λi d a e z=>by rw[z.2,Wa];omega) hz (λi d a N e z hN=>?_) λd a p b z g=>?_
 ·obtain⟨s,rfl⟩:=z;have h:c[i]? = some (c[i]'(by omega)):=by simp
  simp only [fZ,if_true];exact hs i (c[i]'(by omega)) a _ e h s λb j=>hN _ _ ⟨s.trans j,by rw[db h]⟩
 ·obtain⟨s,rfl⟩:=z;rw[<- hl,Wg]at g;exact hd p b (g.after s)
def dD{ns:g0}{i:Nat}{x:V}(h:(ns.map V.int)[i]? = some x):∃p,ns[i]? = some p/\x=.int p:=by
 rw[We]at h;cases e:ns[i]? with
 | none=>rw[e]at h;cases h
 | some p=>rw[e]at h;cases h;exact⟨p,Z,Z⟩
def jv{t u:TS}{D:fX}{σ:St}{H:Hp}(M:St->Hp->Prop)(b:∀nx:St->Hp->Prop,(∀σ' H',M σ' H'->nx σ' H')->t { D with nx:=nx } σ H)(a:∀σ' H',M σ' H'->u D σ' H'):tB t u D σ H:=b (u D) a
structure cy (P:Program) (w:World) (K:W.Frag) (mg:Str->Option Value) (base:Heap) (C:Addr) (m:Str) (k:Nat) (f:Addr) (fd:FuncData) (ps:List Str) (sp:Sp):Prop where
 c:cA K C
 mt:aW K C m f
 b:ao K fd ps []
 ok:bn P w K mg base bD k f fd ps sp
structure VL (P:Program) (w:World) (K:W.Frag) (mg:Str->Option Value) (base:Heap) (x:Str) (C:Addr) (k:Nat) (f:Addr) (fd:FuncData) (ps:List Str) (sp:Sp):Prop where
 g:mg x=some (.ref C)
 mkx:Mk K C f
 b:ao K fd ps []
 ok:bn P w K mg base bD k f fd ps sp
section
variable {X:Cx}{K:W.Frag}{k j:Nat}{f C:Addr}{fd:FuncData}{ps:List Str}{sp:Sp}{x m:Str}{p pos apos pos':Pos}{e o value:Expr}{es:List Expr}{ta tv:TE}{t:TA}
def ph{X:Cx}:iE bD X E0:=λ_ _ _ _ _ _ _ z=>z.elim
def c6{pl:Sem Bool}(F:cy X.prog X.w X.K X.mg X.base C m j f fd ps sp)(hr:bt k X.A)(i:QE X o ta)(g:QA X (e::es) t)(d:j<=k:=by decide)(a:cu (e::es)=true:=by rfl)
 (ht:eval (.Call (.Attribute o m apos) (e::es) [] pos) X.env=(do
   let ov <- eval o X.env
   standAt apos.atName
   let (f,first) <- holding [ov] (getMethod ov m pl)
   callWith pos f first (backTo pos (starEach (e::es) X.env)) (backToKw pos (keywordEach [] X.env))):=by rfl) :
 QE X (.Call (.Attribute o m apos) (e::es) [] pos) (jm C m sp [] E0 ta t) :=
 ⟨Cc (pl:=pl) i.h F.c F.mt F.ok (hr.mono d) F.b .nil ph g.h (bV (bR a).1) (dN (bR a).2) ht⟩
def di{pl:Sem Bool}(F:cy X.prog X.w X.K X.mg X.base C m j f fd ps sp)(hr:bt k X.A)(d:QE X o ta)(a:j<=k:=by decide)
 (ht:eval (.Call (.Attribute o m apos) [] [] pos) X.env=(do
   let ov <- eval o X.env
   standAt apos.atName
   let (f,first) <- holding [ov] (getMethod ov m pl)
   callWith pos f first (backTo pos (starEach [] X.env)) (backToKw pos (keywordEach [] X.env))):=by rfl) :
 QE X (.Call (.Attribute o m apos) [] [] pos) (jm C m sp [] E0 ta oB) :=
 ⟨Lq (pl:=pl) d.h F.c F.mt F.ok (hr.mono a) F.b .nil ph ht⟩
def aU{f:Str}(h:X.K=K)(a:QE X e ta)(hb:attributeBase e f X.env (eval e X.env)=eval e X.env:=by rfl):QE X (.Attribute e f pos) (AR K ta f):=by subst h;exact⟨Lv a.h hb⟩
def ce{f:Str}(h:X.K=K)(a:QE X o ta)(b:QE X value tv)(hs:swapsWith value (some (.Attribute o f pos')) pos.line X.env=pure false:=by rfl):QS X (.Assign [.Attribute o f pos'] value pos) (BK K ta tv f):=by subst h;exact⟨KS a.h b.h hs⟩
end
structure sM (K:W.Frag) (C:Addr):Prop where
 makes:W.makesIn K C=true
 init:W.findIn K (.ref C) "__init__" = some (some (.builtin "object.__init__"))
 kp:W.keepIn K (.ref C)=true
def AM(C:Addr):TE:=λ_ H Q=>∀x dx,H x=none->H dx=none->dx≠x->Q (.ref x) (upd (upd H dx (.own x)) x (.ins C dx []))
section
variable {X:Cx}{C:Addr}{x:Str}{p pos:Pos}
def JU{c:List (Addr × Obj)}{σ:St}{H:Hp}{s:h6}{Q:VK}(M:sM X.K C)(I:af X c σ H s)(h:AM C σ H Q) :
 wpAny (model X.prog X.w) X.A (call (.ref C) []) (EP X c σ Q) X.xe s:=by
 have l:=h (s.heap.objs.size+1) s.heap.objs.size (I.hok.fresh (WU _)) (I.hok.fresh (V5 _)) (Wc (Wn _));have k:=af.made (C:=C) I;have Y:=W.makes_of (M:=model X.prog X.w) I.kIn M.makes;refine wpAny_call (NG I.kIn M.makes M.init (λself=>W.Looks.of_pure (W.oi_bind self)) ?_);obtain⟨a,g,d,t,os⟩:=s;have f:((a.push W.emptyDict).push (W.instObj C a.objs.size)).get? (a.objs.size+1)=some (W.instObj C a.objs.size):=by
  have:=Ws (a.push W.emptyDict) (o:=W.instObj C a.objs.size) rfl
  rwa [WZ]at this
 have j:W.Looks (model X.prog X.w) ((a.push W.emptyDict).push (W.instObj C a.objs.size)) (typeOf (.ref (a.objs.size+1))) (.ref C):=(W.Looks.ld f).andThen .now;have i:W.Looks (model X.prog X.w) ((a.push W.emptyDict).push (W.instObj C a.objs.size)) (isInstance (.ref (a.objs.size+1)) (.type "object")) true :=
  j.andThen (Y.top.keeps λb o e=>V9 _ (V9 _ e))
 refine codeAny_call_builtin W.oi_plain W.entry_oi (@W.check_slot (model X.prog X.w) _ _ _ "object.__init__" "object" "__init__" (.ref (a.objs.size+1)) [] [] _ W.oi_kind W.oi_split i (W.oi_args (.ref (a.objs.size+1))) ?_);rw[W.oi_run];exact on (And.intro Z ⟨V.ref (a.objs.size+1),_,k,Z,l⟩)
def oY(M:sM X.K C)(hm:X.mg x=some (.ref C))(c:Gl X x:=by rfl)(a:(x == ("__debug__" : Str))=false:=by decide):QE X (.Call (.Name x p) [] [] pos) (AM C):=⟨by
 intro b s σ H Q I h;refine wpAny_Call_Name_kw (hG I c hm ?_ a);exact W.callWith_K0 I.kIn M.kp (JU M I h)⟩
end
structure ck (K:W.Frag) (x qual:Str) (st:Stmt) (f:Addr) (fd:FuncData) (vs:List Value):Prop where
 ex:∃(oc:Value) (od:Option Addr) (kV doc pm:Value) (an:Option Addr) (cdv ct:Value) (osl:Array (Option Value)) (d:Addr) (dc:Value) (dd:Option Addr) (n:Nat) (dsl:Array (Option Value)),
  fd=W.fnOf x qual (aB st) (ax st) (ag st) (.ref d) kV doc pm an cdv ct/\K.lookup f=some ⟨oc,od,.func fd,osl⟩/\W.codeIn K cdv qual=true/\K.lookup d=some ⟨dc,dd,.seq vs.toArray n,dsl⟩
 kp:W.keepIn K (.ref f)=true
section
variable {P:Program}{w:World}{K:W.Frag}{mg:Str->Option Value}{base:Heap}{x qual:Str}{st:Stmt}{f:Addr}{fd:FuncData}{N ps:List Str}{k:Nat}{sp:Sp}{vs:List Value}
def ck.okQ(F:ck K x qual st f fd vs)(S:ay N ps (ag st))(len:∀vs H Q E,sp vs H Q E->vs.length=ps.length)
 (b:∀(a:Value) (A:Around) (outer:List Env) (s:h6) (H:Hp) (vs:List V) (Q:VK) (E:XK),bt k (A.deeper (envOfC qual (ag st) s.heap.objs.size f a))->sp vs H Q E ->
   ∃t,dH (d7 bD P w K mg base N qual (ag st) f a A outer s H E).nox (ax st) t/\t { nx:=λ_ j=>Q .non j,rt:=Q } (cU N vs) H):bn P w K mg base bD (k+1) f fd ps sp:=by
 obtain⟨p,v,kV,i,m,o,a,ct,l,d,r,u,n,g,rfl,lk,c,_⟩:=F.ex;refine p7 lk c S len λA outer s H vs Q E hr e=>?_;obtain⟨t,h,q⟩:=b a A outer s H vs Q E hr e;exact⟨t,h.h.nox,q⟩
def c8{m o:Value}{p i j:Option Addr}{g e:Array (Option Value)}{kV b h a ct:Value}{d:Addr}{n:Nat}(l:K.lookup f=some ⟨m,p,.func (W.fnOf x qual (aB st) (ax st) (ag st) (.ref d) kV b h i a ct),g⟩)
 (c:W.codeIn K a qual=true) (k:W.keepIn K (.ref f)=true) (ld:K.lookup d=some ⟨o,j,.seq vs.toArray n,e⟩):ck K x qual st f (W.fnOf x qual (aB st) (ax st) (ag st) (.ref d) kV b h i a ct) vs :=
 ⟨⟨m,p,kV,b,h,i,a,ct,g,d,o,j,n,e,rfl,l,c,ld⟩,k⟩
def ck.binds{ds:List Value}(F:ck K x qual st f fd vs)
 (h:∀(d:Addr) (kV a c:Value) (e:Option Addr) (b ct:Value) (us:List Value),(us++ds).length=ps.length->∃g:Option (Array Value)->Sem (List (Str × Value)),
   bindArgs (W.fnOf x qual (aB st) (ax st) (ag st) (.ref d) kV a c e b ct) ⟨us,[]⟩=seqItems? (.ref d) >>= g/\g (some vs.toArray)=pure (ps.zip (us++ds))):ao K fd ps ds:=by
 obtain⟨p,u,kV,a,c,e,b,ct,o,d,q,r,n,i,rfl,lk,k,ld⟩:=F.ex;intro s us j hl;obtain⟨g,m,l⟩:=h d kV a c e b ct us hl;exact BindsTo.of_defaults (T:=d) Z (j _ _ ld) Z m l
end
structure dS (P:Program) (w:World) (K:W.Frag) (mg:Str->Option Value) (base:Heap) (C:Addr) (m:Str) (k:Nat) (f:Addr) (fd:FuncData) (ps:List Str) (dvs:List V) (sp:Sp):Prop where
 c:cA K C
 mt:aW K C m f
 b:∃ds,ao K fd ps ds/\aA dvs ds
 ok:bn P w K mg base bD k f fd ps sp
section
variable {X:Cx}{k j:Nat}{f C:Addr}{fd:FuncData}{ps:List Str}{sp:Sp}{m:Str}{pos apos:Pos}{e o:Expr}{es:List Expr}{ta:TE}{t:TA}{dvs:List V}
def dB{pl:Sem Bool}(F:dS X.prog X.w X.K X.mg X.base C m j f fd ps dvs sp)(hr:bt k X.A)(i:QE X o ta)(g:QA X (e::es) t)(d:j<=k:=by decide)(a:cu (e::es)=true:=by rfl)
 (ht:eval (.Call (.Attribute o m apos) (e::es) [] pos) X.env=(do
   let ov <- eval o X.env
   standAt apos.atName
   let (f,first) <- holding [ov] (getMethod ov m pl)
   callWith pos f first (backTo pos (starEach (e::es) X.env)) (backToKw pos (keywordEach [] X.env))):=by rfl) :
 QE X (.Call (.Attribute o m apos) (e::es) [] pos) (jm C m sp dvs E0 ta t):=by
 obtain⟨ds,hb,hd⟩:=F.b;exact⟨Cc (pl:=pl) i.h F.c F.mt F.ok (hr.mono d) hb hd ph g.h (bV (bR a).1) (dN (bR a).2) ht⟩
end
def vI:Value->Option Int
 | .int k _=>some k
 | _=>none
def vR:Value->Option Addr
 | .ref a=>some a
 | _=>none
def Gn{v:Value}{k:Int}(h:vI v=some k):∃t,v=.int k t:=by
 cases v<;>cases h;exact⟨_,Z⟩
def Gm{v:Value}{a:Addr}(h:vR v=some a):v=.ref a:=by
 cases v<;>cases h
 rfl
def i9:List DictEntry->Option (List (Int × Addr))
 | []=>some []
 | e::r=>(vI e.key).bind λk=>(vR e.val).bind λa=>if e.hash == hashInt k then (i9 r).bind λl=>some ((k,a)::l) else none
theorem i9.pairs{P:Program}{w:World}:∀ {b:List DictEntry} {m:List (Int × Addr)},i9 b=some m ->
 (∀e∈b,∃k,(ci P w).is k e.key=true/\e.hash=(ci P w).hash k)/\Pairs (ci P w) b (m.map λp=>((Sum.inl p.1:aS),Value.ref p.2))
 | [],m,h=>by cases h;exact⟨λ_ z=>(nomatch z),.nil⟩
 | e::r,m,h=>by
  obtain⟨k,f,h⟩:=Xr.mp h;obtain⟨a,d,h⟩:=Xr.mp h;obtain⟨n,f⟩:=Gn f;have d:=Gm d;by_cases c:e.hash == hashInt k
  ·rw[YB c]at h;obtain⟨l,q,h⟩:=Xr.mp h;cases h;obtain⟨i,j⟩:=i9.pairs (P:=P) (w:=w) q;have g:(ci P w).is (.inl k) e.key=true:=by rw[f];exact CD P w k n
   refine⟨λx hx=>?_,.cons g d j⟩;cases hx with
   | head=>exact⟨.inl k,g,eq_of_beq c⟩
   | tail _ z=>exact i x z
  ·rw[YA c]at h;cases h
structure sT (K:W.Frag) (a:Addr) (m:List (Int × Addr)):Prop where
 ex:∃es ep,K.lookup a=some ⟨.type "dict",none,.dict es ep,#[]⟩/\i9 es.toList=some m
 nd:(m.map (·.1)).Nodup
 ns:(a == sysModules)=false
def sT.rd{K:W.Frag}{a:Addr}{m:List (Int × Addr)}{P:Program}{w:World}{h:Heap}(D:sT K a m)(X:K.In h):h.DictOf (ci P w) a (m.map λp=>((Sum.inl p.1:aS),Value.ref p.2)):=by
 obtain⟨d,f,l,e⟩:=D.ex;obtain⟨c,g⟩:=i9.pairs (P:=P) (w:=w) e;refine⟨_,d,f,X _ _ l,⟨rfl,rfl,rfl⟩,rfl,λe j=>c e (Yq.mpr j),g,?_⟩;rw[WY];have:(((λx=>x.1) ∘ λp:Int × Addr=>((Sum.inl p.1:aS),Value.ref p.2)):Int × Addr->aS)=(λi:Int=>(Sum.inl i:aS)) ∘ (·.1):=rfl;rw[this,<- WY];exact List.Pairwise.map _ (λa b (z:a≠b) (q:(Sum.inl a:aS)=Sum.inl b)=>z (Sum.inl.inj q)) D.nd
def mP(m:List (Int × Addr))(i:Int):Option V:=(m.find? λp=>decide (p.1=i)).map λp=>V.ref p.2
theorem DM:∀(m:List (Int × Addr)) (i:Int) (z:V) (r:Value),aN z r->aN ((mP m i).getD z) ((valueAt (m.map λp=>((Sum.inl p.1:aS),Value.ref p.2)) (Sum.inl i)).getD r)
 | [],i,z,r,h=>h
 | p::m,i,z,r,h=>by
  have ih:=DM m i z r h;unfold mP valueAt at ih ⊢;rw[WA,WI,WI];by_cases c:p.1=i
  ·have a:(Sum.inl p.1:aS)=Sum.inl i:=congrArg _ c;simp only [YE c,YE a,W8,Option.getD_some]
   rfl
  ·have a:¬(Sum.inl p.1:aS)=Sum.inl i:=λq=>c (Sum.inl.inj q);simp only [YF c,YF a];exact ih
def AT(m:List (Int × Addr))(ty c:TE):TE:=λσ H Q=>ty σ H λy b=>c σ b λz a=>∃i,y=.int i/\Q ((mP m i).getD z) a
section
variable {X:Cx}{K:W.Frag}{a:Addr}{m:List (Int × Addr)}{e f:Expr}{x:Str}{p apos cpos:Pos}{ty tx:TE}
def Ky (h:X.K=K) (D:sT K a m) (B:Gl X x) (hm:X.mg x=some (.ref a)) (he:QE X e ty) (hf:QE X f tx) (hd:(x == ("__debug__" : Str))=false:=by decide)
 (g:attributeBase (.Name x p) "get" X.env (eval (.Name x p) X.env)=eval (.Name x p) X.env:=by rfl)
 (j:((backTo cpos (starEach [e,f] X.env)).all (λx=>!x.1) && (backToKw cpos (keywordEach [] X.env)).all (λx=>x.1.isSome)
   && decide (([e,f]:List Expr).length+([]:List Keyword).length+(if ([]:List Keyword).isEmpty then 0 else 1)<30))=true:=by rfl)
 (d:(apos.endLine == cpos.line)=true:=by rfl) (l:backTo cpos (starEach [e,f] X.env)=[(false,eval e X.env),(false,eval f X.env)]:=by rfl) :
 QE X (.Call (.Attribute (.Name x p) "get" apos) [e,f] [] cpos) (AT m ty tx):=⟨by
 subst h;intro c s σ H Q I h;have L:PE X (.Name x p) (tC (.ref a)):=(gh (v:=.ref a) B hm rfl hd).h;refine wpAny_Call_method g j d Yk Xm Yl (av (L c s σ H (λv H'=>v=.ref a/\AT m ty tx σ H' Q) I ⟨rfl,h⟩) λu s1 ⟨x,R,n,rx,ex,Y⟩=>?_);subst ex;obtain rfl:u=Value.ref a:=rx;have d1:=D.rd (P:=X.prog) (w:=X.w) n.kIn;refine⟨d1.typeIs,λb q=>?_,?_⟩
 ·cases q;obtain⟨U,_,_,N,M,_⟩:=d1;exact⟨U,N,M.2.1⟩
 rw[l];refine Calls.callWith_builtin Z (Calls.evalArgs_plain (Calls.spliced_cons (av (he.h c s1 σ R _ n Y) λiv s2 ⟨y,V,O,S,C⟩ =>
  Calls.spliced_cons (av (hf.h c s2 σ V _ O C) λr s3 ⟨z,H3,o,G,i,W,J⟩=>Calls.spliced_nil ?_))))
 subst W;have d3:=D.rd (P:=X.prog) (w:=X.w) o.kIn;exact call_meetsIn Xm d3.typeIs XM (PySem.F.args_dict_get_3 _ _ _) (meets_dict_get_default (ci X.prog X.w) a (hU (k:=.inl i) S) D.ns r) ⟨_,d3.mapOf,_,_,o.tok _,DM m i z r G,J⟩⟩
end
def gW{o:Obj}{vs:Array Value}(hd:o.data=.fields vs)(f:Array Value->Array Value):o.mapFields f = { o with data:=.fields (f vs) }:=by
 obtain⟨c,d,a,b⟩:=o;obtain rfl:a=.fields vs:=hd
 rfl
structure bU (h:Heap) (e C:Addr) (od:Option Addr) (tb:Value) (oe:Obj) (vs:Array Value) (q:Option Addr:=none):Prop where
 at_:h.get? e=some oe
 cls:oe.cls=.ref C
 dict:oe.dict=od
 data:oe.data=.fields vs
 size:vs.size=6
 tb1:vs[1]? = some tb
 cx:vs[2]? = some (q.elim .none .ref)
def iC(h:Heap)(e T:Addr)(fl:Value):Prop:=∃oT ts,h.get? T=some oT/\oT.data=.fields ts/\ts[3]? = some fl/\T≠e
section
variable {M:Model}{A:Around}{E:Value->h6->Prop}{s:h6}
structure lW (l:List Env) (e C T':Addr) (od:Option Addr) (tb fl:Value) (h h':Heap) (q:Option Addr:=none):Prop where
 keep:∀b o,h.get? b=some o->b≠e->.ref b≠tb->b∉cw l->h'.get? b=some o
 slot:∀b o,h.get? b=some o->b∈cw l->∃sl,h'.get? b=some { o with slots:=sl }
 there:∀b o,h.get? b=some o->∃o',h'.get? b=some o'
 new:h.objs.size<=T'
 size:h.objs.size<=h'.objs.size
 exc:∃oe vs,bU h' e C od (.ref T') oe vs q
 ent:iC h' e T' fl
def Cu{base:Heap}{env:Env}{outer:List Env}{L e C:Addr}{l:Option Addr}{i:Obj}{vs:Array Value}{hd tb:Value}{nx:Bool}{q:Option Addr}{Q:Unit->h6->Prop}
 (hA:A.frames=some (env::outer)) (hF:s.heap.FunFrames base (env::outer)) (hL:env.frame=some L) (x:bU s.heap e C l tb i vs q)
 (k:∀h' T',lW (env::outer) e C T' l .none (rawInt L) s.heap h' q->Q () { s with heap:=h' }) :
 wpAny M A (do let a <- frameOf env;let pl <- entryPlaceOf L nx;let b <- EntryCells.newEntry hd a .none (rawInt L) .none pl;setField (.ref e) 1 b) Q E s:=by
 have ne:e∉cw (env::outer):=λm=>by
  obtain⟨_,o,f,v⟩:=hF.mem m;rw[x.at_]at f;cases f;exact v vs x.data
 refine kb (wpAny_frameOf_fun hA hF hL λc y=>kb (wpAny_entryPlaceOf λpl p=>?_));unfold EntryCells.newEntry newFields;refine kb (wpAny_newObj_type ?_ (p.sizeOk5 _ _ _ _ _));have g:c.get? e=some i:=(y.2.1 e ne).trans x.at_;obtain⟨N,hN⟩:∃N:Obj,N = { cls:=.type "traceback",dict:=none,data:=.fields ([hd,.ref L,.none,rawInt L,.none]++(if pl.isEmpty then List.replicate 6 Value.none else pl)).toArray }:=⟨_,rfl⟩;rw[<- hN];have h:=V9 N g;have nT:c.objs.size≠e:=Xi (V7 g);refine wpAny_setField h x.data (by rw[x.size];decide) (k _ c.objs.size ?_);have d:=WL (Obj.mapFields (·.setIfInBounds 1 (Value.ref c.objs.size))) h (by rw[gW x.data];rfl);rw[gW x.data]at d;have tN:N.data=.fields ([hd,.ref L,.none,rawInt L,.none]++(if pl.isEmpty then List.replicate 6 Value.none else pl)).toArray:=by rw[hN]
 have r:=(WF (c.push N) (Obj.mapFields (·.setIfInBounds 1 (Value.ref c.objs.size))) (Ne.symm nT)).trans (Ws c (o:=N) (by rw[hN];rfl));have kp:∀b o,b≠e->c.get? b=some o->((c.push N).update e (Obj.mapFields (·.setIfInBounds 1 (Value.ref c.objs.size)))).get? b=some o:=λb o n q=>by
  rw[WF _ _ (Ne.symm n)];exact V9 _ q
 have sz:s.heap.objs.size=c.objs.size:=y.1.symm;refine⟨λb o q B _ u=>kp b o B ((y.2.1 b u).trans q),λb o q m=>?_,λb o q=>?_,W4 sz,by rw[Xs,WZ,sz];exact WU _,⟨_,_,d,x.cls,x.dict,Z,?_,?_,?_⟩,⟨N,_,r,tN,?_,nT⟩⟩
 ·obtain⟨j,hs⟩:=y.2.2 b o q;exact⟨j,kp b _ (λz=>ne (z ▸ m)) hs⟩
 ·by_cases n:b=e
  ·subst n;exact⟨_,d⟩
  ·obtain⟨j,hs⟩:=y.2.2 b o q;exact⟨_,kp b _ n hs⟩
 ·rw[XF];exact x.size
 ·have:1<vs.size:=by rw[x.size];decide
  simp[this]
 ·rw[Array.getElem?_setIfInBounds_ne (by decide)];exact x.cx
 ·rcases p with rfl|⟨_,_,_,_,_,_,_,rfl⟩<;>simp
def sG(h:Heap)(e:Addr)(tb:Value):Prop:=tb=.none\/∃T,tb=.ref T/\iC h e T .none
def Cr{base:Heap}{env:Env}{outer:List Env}{L e C:Addr}{g:Option Addr}{i:Obj}{vs:Array Value}{tb:Value}{q:Option Addr}{Q:Unit->h6->Prop}
 (hA:A.frames=some (env::outer)) (hF:s.heap.FunFrames base (env::outer)) (hL:env.frame=some L) (x:bU s.heap e C g tb i vs q) (ht:sG s.heap e tb)
 (k:∀h' c,lW (env::outer) e C c g tb (rawInt L) s.heap h' q->Q () { s with heap:=h' }):wpAny M A (noteFrame (.ref e) env) Q E s:=by
 unfold noteFrame;simp only [hL];refine kb (wpAny_field x.at_ x.data x.tb1 ?_);rcases ht with rfl|⟨T,rfl,oT,ts,hT,dT,fT,nT⟩
 ·rw[YA (by decide)];exact Cu hA hF hL x k
 ·rw[YB (show (Value.ref T != Value.none)=true by simp)];refine kb (wpAny_field hT dT fT ?_);rw[YA (show ¬(Value.none == rawInt L)=true by simp[rawInt])];refine kb (wpAny_setField hT dT (XS.mp fT).1 ?_);have a:∀b,b≠T->(s.heap.update T (Obj.mapFields (·.setIfInBounds 3 Value.none))).get? b=s.heap.get? b:=λb n=>WF _ _ (Ne.symm n);have self:=WL (Obj.mapFields (·.setIfInBounds 3 Value.none)) hT (by rw[gW dT];rfl);have nF:T∉cw (env::outer):=λm=>by
   obtain⟨_,o,f,d⟩:=hF.mem m;rw[hT]at f;cases f;exact d ts dT
  refine Cu (base:=base) hA (hF.of_keeps λb o q d=>⟨o,(a b λz=>?_).trans q,rfl⟩) hL ⟨(a e (Ne.symm nT)).trans x.at_,x.cls,x.dict,x.data,x.size,x.tb1,x.cx⟩ λh' c N=>k h' c ⟨λb o q l j h=>?_,λb o q m=>?_,λb o q=>?_,by have:=N.new;rwa [Xs]at this,by have:=N.size;rwa [Xs]at this,N.exc,N.ent⟩
  ·subst z;rw[hT]at q;cases q;exact d ts dT
  ·exact N.keep b o ((a b λz=>j (by rw[z])).trans q) l (by simp) h
  ·exact N.slot b o ((a b λz=>nF (z ▸ m)).trans q) m
  ·by_cases n:b=T
   ·subst n;exact N.there _ _ self
   ·exact N.there b o ((a b n).trans q)
def Da{e C T:Addr}{c:Option Addr}{d:Obj}{vs:Array Value}{fl:Value}{q:Option Addr}{Q:Unit->h6->Prop}(x:bU s.heap e C c (.ref T) d vs q)(t:iC s.heap e T fl)
 (k:∀h',h'.objs.size=s.heap.objs.size->(∀b o,s.heap.get? b=some o->b≠T->h'.get? b=some o)->(∀b o,s.heap.get? b=some o->∃o',h'.get? b=some o')->bU h' e C c (.ref T) d vs q->iC h' e T .none->Q () { s with heap:=h' }):wpAny M A (setFlight (.ref e) none) Q E s:=by
 obtain⟨oT,ts,hT,dT,fT,nT⟩:=t;unfold setFlight;refine kb (wpAny_field x.at_ x.data x.tb1 ?_);rw[YB (show (Value.ref T != Value.none)=true by simp)];have z3:=(XS.mp fT).1;have a:∀b,b≠T->(s.heap.update T (Obj.mapFields (·.setIfInBounds 3 ((none:Option Addr).elim Value.none λf=>rawInt f)))).get? b=s.heap.get? b:=λb n=>WF _ _ (Ne.symm n);have self:=WL (Obj.mapFields (·.setIfInBounds 3 ((none:Option Addr).elim Value.none λf=>rawInt f))) hT (by rw[gW dT];rfl);refine wpAny_setField hT dT z3 (k _ (Xs ..) (λb o q n=>(a b n).trans q) (λb o q=>?_) ⟨(a e (Ne.symm nT)).trans x.at_,x.cls,x.dict,x.data,x.size,x.tb1,x.cx⟩ ⟨_,_,self,by rw[gW dT],by simp[z3],nT⟩);by_cases n:b=T
 ·subst n;exact⟨_,self⟩
 ·exact⟨o,(a b n).trans q⟩
def NR{base:Heap}{env:Env}{outer:List Env}{L e C:Addr}{d:Option Addr}{n:Obj}{vs:Array Value}{tb:Value}{q:Option Addr}{Q:Unit->h6->Prop}
 (hA:A.frames=some (env::outer)) (hF:s.heap.FunFrames base (env::outer)) (hL:env.frame=some L) (x:bU s.heap e C d tb n vs q) (ht:sG s.heap e tb)
 (k:∀h' T',lW (env::outer) e C T' d tb .none s.heap h' q->Q () { s with heap:=h' }):wpAny M A (leaving env (.ref e)) Q E s:=by
 unfold leaving;refine kb (Cr hA hF hL x ht λD f a=>?_);obtain⟨v,h,y⟩:=a.exc;have c:∀b o,s.heap.get? b=some o->b≠f:=λb o q=>Wc (V6 (V7 q) a.new);refine Da y a.ent λu sz k2 p i j=>k u f ⟨λb o q B r l=>?_,λb o q m=>?_,λb o q=>?_,a.new,by rw[sz];exact a.size,⟨_,_,i⟩,j⟩
 ·exact k2 b o (a.keep b o q B r l) (c b o q)
 ·obtain⟨z,hs⟩:=a.slot b o q m;exact⟨z,k2 b _ hs (c b o q)⟩
 ·obtain⟨g,hs⟩:=a.there b o q;exact p b g hs
end
def xφ(e C:Addr)(a:Option Addr)(q:Option Addr):Heap->Prop:=λh=>∃tb oe vs,bU h e C a tb oe vs q
def xν(e C:Addr)(a:Option Addr):Heap->Prop:=λh=>∃oe vs,bU h e C a .none oe vs
def XO(e C:Addr)(a:Option Addr)(q:Option Addr:=none):HO:=.ext (xφ e C a q)
def XN(e C:Addr)(a:Option Addr):HO:=.ext (xν e C a)
def bU.keeps{h h':Heap}{e C:Addr}{a:Option Addr}{tb:Value}{b:Obj}{vs:Array Value}{q:Option Addr}(x:bU h e C a tb b vs q)(k:∀o,h.get? e=some o->h'.get? e=some o):bU h' e C a tb b vs q:=⟨k _ x.at_,x.cls,x.dict,x.data,x.size,x.tb1,x.cx⟩
section
variable {P:Program}{w:World}{H:Hp}{h:Heap}{e C:Addr}{od:Option Addr}
def sX{tb:Value}{a:Obj}{vs:Array Value}{q:Option Addr}(x:bU h e C od tb a vs q):bw P w H h e (XO e C od q) :=
 ⟨⟨tb,a,vs,x⟩,⟨a,x.at_⟩,λ_ _ ⟨tb,a,vs,y⟩ k=>⟨tb,a,vs,y.keeps k⟩⟩
def oi{a:Obj}{vs:Array Value}(x:bU h e C od .none a vs):bw P w H h e (XN e C od) :=
 ⟨⟨a,vs,x⟩,⟨a,x.at_⟩,λ_ _ ⟨a,vs,y⟩ k=>⟨a,vs,y.keeps k⟩⟩
end
def dn(P:Program)(w:World):fE:=λouter H s E v a=>∃(e C T:Addr) (c:Option Addr) (q:Option Addr) (b:Hp) (d:Obj) (vs:Array Value),v=.ref e/\a.os=s.os/\AllBare a.gens /\
 Un (cw outer) [] H b s.heap a.heap/\bz P w b a.heap/\b e=some (XO e C c q)/\s.heap.get? e=none/\s.heap.objs.size<=T/\s.heap.objs.size<=a.heap.objs.size/\b T=none /\
 bU a.heap e C c (.ref T) d vs q/\iC a.heap e T .none/\E (.ref C) (some e) b
def bw.there{P:Program}{w:World}{H:Hp}{h:Heap}{a:Addr}{o:HO}(x:bw P w H h a o):∃u,h.get? a=some u:=by
 cases o with
 | lst xs=>obtain⟨_,_,_,_,e⟩:=x;exact⟨_,e⟩
 | tup xs=>obtain⟨_,_,_,b,e,_⟩:=x;exact⟨_,e⟩
 | dK kvs=>obtain⟨_,_,_,_,b,_,_,e,_⟩:=x;exact⟨_,e⟩
 | dT kvs=>obtain⟨_,_,_,_,b,_,_,e,_⟩:=x;exact⟨_,e⟩
 | set S n=>obtain⟨b,_,_,_,e,_⟩:=x;exact⟨_,e⟩
 | ins C dx fs=>obtain⟨_,_,_,e,_⟩:=x;exact⟨_,e⟩
 | own y=>exact x
 | xd fs=>obtain⟨_,⟨_,_,_,e,_⟩,_⟩:=x;exact⟨_,e⟩
 | rng lo hi=>obtain⟨_,_,_,e⟩:=x;exact⟨_,e⟩
 | frz b u=>obtain⟨e,_⟩:=x;exact⟨_,e⟩
 | tbl ps=>exact⟨_,show h.get? a=some _ from x⟩
 | met f y=>exact⟨_,show h.get? a=some _ from x⟩
 | ext φ=>exact x.2.1
def sP(X:Cx)(a:List (Addr × Obj))(Es:St->XK)(v:Value)(c:h6):Prop:=∃(σ:St) (b:Hp) (e C:Addr) (d:Option Addr) (q:Option Addr) (tb:Value) (f:Obj) (vs:Array Value),v=.ref e/\af X a σ b c /\
 b e=some (XO e C d q)/\bU c.heap e C d tb f vs q/\sG c.heap e tb/\(∀T,tb=.ref T->b T=none/\X.s₀.heap.objs.size<=T/\∀p∈X.pn++a,p.1≠T)/\(X.ex=[]->X.s₀.heap.get? e=none)/\Es σ (.ref C) (some e) b
structure dR (X:Cx) (Es:St->XK):Prop where
 up:∀pins v s',sP X pins Es v s'->X.xe v s'
section
variable {X:Cx}{pins:List (Addr × Obj)}{σ:St}{H:Hp}{s s':h6}{Es:St->XK}{v:Value}
def af.newx{e:Addr}(I:af X pins σ H s)(hx:X.ex=[])(a:s.heap.get? e=none):X.s₀.heap.get? e=none:=by
 cases q:X.s₀.heap.get? e with
 | none=>rfl
 | some o =>
  obtain⟨b,z⟩:=I.base.there e o q (by rw[hx];simp);rw[a]at z;cases z
def Q4(I:af X pins σ H s)(h:dn X.prog X.w X.stack H s (Es σ) v s'):sP X pins Es v s':=by
 obtain⟨e,C,T,l,f,c,j,vs,rfl,d,g,un,hok,hx,k,hT,hz,nT,x,tb,q⟩:=h;refine⟨σ,c,e,C,l,f,.ref T,j,vs,rfl,I.call' (ch:=[]) d un hok g (λb z=>YC z (by simp)),hx,x,.inr ⟨T,rfl,tb⟩,λm z=>?_,λa=>I.newx a k,q⟩;cases z;refine⟨nT,Wq I.sz hT,λp i z=>?_⟩;exact YC (V6 (V7 (I.pin p i).1) hT) (by rw[z];exact Wz _)
def af.old_x{e C:Addr}{a:Option Addr}(I:af X pins σ H s)(hx:H e=some (XN e C a)):af X pins σ (upd H e (XO e C a)) s:=by
 obtain⟨⟨c,vs,x⟩,_⟩:=I.hok e _ hx;have q:=af.write (t':=s.toks) (e:=e) (h':=s.heap) (o:=XO e C a) I (by rw[hx];trivial) (.inl rfl) (λb u _ z=>z) ⟨_,x.at_⟩ (sX x);exact q
def Q3{e C:Addr}{a:Option Addr}(I:af X pins σ H s)(hx:H e=some (XN e C a))(c:X.ex=[]->X.s₀.heap.get? e=none)(q:Es σ (.ref C) (some e) (upd H e (XO e C a))):sP X pins Es (.ref e) s:=by
 obtain⟨⟨b,vs,x⟩,_⟩:=I.hok e _ hx;exact⟨σ,_,e,C,a,none,.none,b,vs,rfl,I.old_x hx,az,x,.inl rfl,λT z=>(by cases z),c,q⟩
def lW.hok{P:Program}{w:World}{l:List Env}{e C j:Addr}{f:Option Addr}{tb fl:Value}{h h':Heap}{g:Option Addr}(N:lW l e C j f tb fl h h' g)(ok:bz P w H h)(hx:H e=some (XO e C f g))(ht:∀T,tb=.ref T->H T=none)
 (k:∀b∈cw l,H b=none):bz P w H h':=λb o q=>by
 have kp:∀c u d,H c=some u->c≠e->h.get? c=some d->h'.get? c=some d:=λc u d z n y=>N.keep c d y n (λi=>by rw[ht c i.symm]at z;cases z) λm=>by rw[k c m]at z;cases z
 by_cases n:b=e
 ·subst n;rw[hx]at q;cases q;obtain⟨p,vs,x⟩:=N.exc;exact sX x
 ·refine (ok b o q).stay (λc u a y=>?_) (λ_ z=>z) λ_ _ z=>z;rcases a with rfl|a
  ·exact kp c o u q n y
  ·refine kp c _ u a (λz=>?_) y;rw[z,hx]at a;cases a
end
def fj{P:Program}{w:World}{K:W.Frag}{mg:Str->Option Value}{base:Heap}{Ns:List Str}{qual:Str}{scope:Scope}{f:Addr}{cd:Value}{A:Around}{outer:List Env}{s:h6}{H:Hp}{E:XK} :
 dR (d7 (dn P w) P w K mg base Ns qual scope f cd A outer s H E) (λ_=>E):=⟨by
 rintro j v J ⟨σ,c,e,C,D,r,tb,G,vs,rfl,I,hx,x,ht,hT,k,q⟩;refine NR (base:=base) I.ok.frames I.stack Z x ht λM a N=>?_;have L:s.heap.objs.size<=(d7 (dn P w) P w K mg base Ns qual scope f cd A outer s H E).env.locals:=I.ok.above;have F:∀b o,s.heap.get? b=some o->b∉cw outer->b∉cw (d7 (dn P w) P w K mg base Ns qual scope f cd A outer s H E).stack:=λb o z n m=>by
  rcases Wh.mp (I.stkSub b m) with y|y
  ·exact YC (V6 (V7 z) L) (by rw[y];exact Wz _)
  ·exact n y
 have nx:∀b:Addr,b∉([]:List Addr):=λb z=>by cases z
 have ne:∀b o,s.heap.get? b=some o->b≠e:=λb o z y=>by
  have:=k rfl;rw[<- y]at this;have z2:(d7 (dn P w) P w K mg base Ns qual scope f cd A outer s H E).s₀.heap.get? b=some o:=z;rw[this]at z2;cases z2
 have B:∀b o,s.heap.get? b=some o->Value.ref b≠tb:=λb o z y=>YC (V6 (V7 z) (hT b y.symm).2.1) (Wz _);obtain⟨i,h,x'⟩:=N.exc;have g:c a=none:=by
  cases z:c a with
  | none=>rfl
  | some o =>
   obtain⟨u,y⟩:=bw.there (I.hok a o z);exact YC (V6 (V7 y) N.new) (Wz _)
 refine⟨e,C,a,D,r,c,i,h,Z,I.os,I.bare,⟨λb o z n m _=>?_,λb o z n m _=>?_,λb o z n _=>?_,λb o z _=>?_,I.base.tups,I.base.frzs,I.base.tbls⟩,
  N.hok I.hok hx (λT z=>(hT T z).1) I.stkFree,hx,k rfl,Wq I.sz N.new,Wq I.sz N.size,g,x',N.ent,q⟩
 ·exact N.keep b o (I.base.keep b o z n m (nx b)) (ne b o z) (B b o z) (F b o z m)
 ·obtain⟨O,y⟩:=I.base.slot b o z n m (nx b);obtain⟨d,l⟩:=N.slot b _ y (by show b∈cw (_::outer);unfold cw;rw[Xy];exact WD _ m);exact⟨d,l⟩
 ·exact I.base.free b o z n (nx b)
 ·obtain⟨p,y⟩:=I.base.there b o z (nx b);exact N.there b p y⟩
section
variable {P:Program}{w:World}{K:W.Frag}{mg:Str->Option Value}{base:Heap}{x qual:Str}{st:Stmt}{f:Addr}{fd:FuncData}{N ps:List Str}{k:Nat}{sp:Sp}{ds:List Value}
def aG.okX(F:aG K x qual st f fd)(S:ay N ps (ag st))(len:∀vs H Q E,sp vs H Q E->vs.length=ps.length)
 (b:∀(a:Value) (A:Around) (outer:List Env) (s:h6) (H:Hp) (vs:List V) (Q:VK) (E:XK),bt k (A.deeper (envOfC qual (ag st) s.heap.objs.size f a))->sp vs H Q E ->
   ∃t,dH (d7 (dn P w) P w K mg base N qual (ag st) f a A outer s H E) (ax st) t/\t { nx:=λ_ e=>Q .non e,rt:=Q } (cU N vs) H):bn P w K mg base (dn P w) (k+1) f fd ps sp:=by
 obtain⟨m,n,kV,g,j,l,a,ct,i,rfl,lk,c⟩:=F.ex;exact p7 lk c S len λA outer s H vs Q E hr d=>let ⟨t,h,q⟩:=b a A outer s H vs Q E hr d;⟨t,h.h,q⟩
def ck.okX(F:ck K x qual st f fd ds)(S:ay N ps (ag st))(len:∀vs H Q E,sp vs H Q E->vs.length=ps.length)
 (b:∀(a:Value) (A:Around) (outer:List Env) (s:h6) (H:Hp) (vs:List V) (Q:VK) (E:XK),bt k (A.deeper (envOfC qual (ag st) s.heap.objs.size f a))->sp vs H Q E ->
   ∃t,dH (d7 (dn P w) P w K mg base N qual (ag st) f a A outer s H E) (ax st) t/\t { nx:=λ_ j=>Q .non j,rt:=Q } (cU N vs) H):bn P w K mg base (dn P w) (k+1) f fd ps sp:=by
 obtain⟨p,v,kV,i,m,o,a,ct,l,d,r,u,n,g,rfl,lk,c,_⟩:=F.ex;exact p7 lk c S len λA outer s H vs Q E hr e=>let ⟨t,h,q⟩:=b a A outer s H vs Q E hr e;⟨t,h.h,q⟩
end
structure E6 (P:Program) (w:World) (K:W.Frag) (mg:Str->Option Value) (base:Heap) (x:Str) (k:Nat) (f:Addr) (fd:FuncData) (ps:List Str) (dvs:List V) (sp:Sp):Prop where
 g:mg x=some (.ref f)
 kp:W.keepIn K (.ref f)=true
 b:∃ds,ao K fd ps ds/\aA dvs ds
 ok:bn P w K mg base (dn P w) k f fd ps sp
structure iH (P:Program) (w:World) (K:W.Frag) (mg:Str->Option Value) (base:Heap) (C:Addr) (m:Str) (k:Nat) (f:Addr) (fd:FuncData) (ps:List Str) (dvs:List V) (sp:Sp):Prop where
 c:cA K C
 mt:aW K C m f
 b:∃ds,ao K fd ps ds/\aA dvs ds
 ok:bn P w K mg base (dn P w) k f fd ps sp
structure VJ (P:Program) (w:World) (K:W.Frag) (mg:Str->Option Value) (base:Heap) (x:Str) (C:Addr) (k:Nat) (f:Addr) (fd:FuncData) (ps:List Str) (dvs:List V) (sp:Sp):Prop where
 g:mg x=some (.ref C)
 mkx:Mk K C f
 b:∃ds,ao K fd ps ds/\aA dvs ds
 ok:bn P w K mg base (dn P w) k f fd ps sp
def G4(sp:Sp)(a:List V)(Es:St->XK)(t:TA):TE:=λσ H Q=>t σ H λvs b=>sp (vs++a) b Q (Es σ)
def eZ(C:Addr)(m:Str)(sp:Sp)(b:List V)(Es:St->XK)(d:TE)(t:TA):TE:=λσ H Q=>d σ H λx c=>∃a dx fs,x=.ref a/\c a=some (.ins C dx fs)/\fs.lookup m=none /\
 t σ c λvs e=>sp (x::(vs++b)) e Q (Es σ)
section
variable {X:Cx}{k j:Nat}{f C:Addr}{fd:FuncData}{ps:List Str}{sp:Sp}{x m:Str}{p pos apos:Pos}{e o:Expr}{es:List Expr}{ta:TE}{t:TA}{dvs:List V}{ds:List Value}{Es:St->XK}
def BN{a:List (Addr × Obj)}{σ:St}{H:Hp}{s:h6}{Q:VK}{us:List Value}{vs:List V}(F:bn X.prog X.w X.K X.mg X.base (dn X.prog X.w) k f fd ps sp)(hr:bt k X.A)(hb:ao X.K fd ps ds)(hd:aA dvs ds)(hx:dR X Es)
 (I:af X a σ H s) (r:aA vs us) (h:sp (vs++dvs) H Q (Es σ)):wpAny (model X.prog X.w) X.A (call (.ref f) us) (EP X a σ Q) X.xe s:=by
 have c:aA (vs++dvs) (us++ds):=r.append hd;refine wpAny_call (codeAny_mono (F.run X.A X.stack s H ⟨us,[]⟩ (us++ds) (vs++dvs) Q (Es σ) hr I.env0 (hb s us I.kIn (by rw[<- c.length];exact F.len _ _ _ _ h)) c h) λr d b=>?_);cases r with
 | error e=>exact hx.up _ _ _ (Q4 I b)
 | ok fl =>
  cases fl with
  | ret u=>exact I.after b
  | next=>exact b.elim
  | brk=>exact b.elim
  | cont=>exact b.elim
def B6(F:E6 X.prog X.w X.K X.mg X.base x j f fd ps dvs sp)(hr:bt k X.A)(hx:dR X Es)(m:QA X (e::es) t)(l:j<=k:=by decide)(n:Gl X x:=by rfl)
 (c:(x == ("__debug__" : Str))=false:=by decide) (i:cu (e::es)=true:=by rfl):QE X (.Call (.Name x p) (e::es) [] pos) (G4 sp dvs Es t):=⟨by
 intro a s σ H Q I h;obtain⟨ds,hb,hd⟩:=F.b;refine wpAny_Call_Name_kw (hG I n F.g ?_ c);refine W.callWith_K (h₀:=X.base) I.ok.mod.kin F.kp (av (m.h pos a s σ H _ I h) λus s1 ⟨vs,o,d,r,q⟩=>⟨d.kIn,?_⟩) (bV (bR i).1) (dN (bR i).2);exact BN F.ok (hr.mono l) hb hd hx d r q⟩
end
section
variable {X:Cx}{pins:List (Addr × Obj)}{σ:St}{H:Hp}{s:h6}{h':Heap}
def af.adopt{e:Addr}{o:HO}{t':Nat}(I:af X pins σ H s)(k:∀b u,s.heap.get? b=some u->h'.get? b=some u)(d:s.heap.get? e=none)(new:bw X.prog X.w (upd H e o) h' e o):af X pins σ (upd H e o) { s with heap:=h',toks:=t' }:=by
 have a:H e=none:=by
  cases q:H e with
  | none=>rfl
  | some u=>obtain⟨z,y⟩:=bw.there (I.hok e u q);rw[d]at y;cases y
 have ne:∀b u,s.heap.get? b=some u->b≠e:=λb u q z=>by rw[z,d]at q;cases q
 refine I.un ⟨λb u q _ _ _=>k b u q,λb u q _ _ _=>⟨u.slots,k b u q⟩,λb u q n _=>by rw[ap (ne b u q)];exact n,λb u q _=>⟨u,k b u q⟩,λb xs q=>by rw[ap (au q a)];exact q,λb u xs q=>by rw[ap (au q a)];exact q,λb ps q=>⟨#[],by rw[ap (au q a),q];simp⟩⟩ λb u q=>?_;by_cases hb:b=e
 ·subst hb;rw[az]at q;cases q;exact new
 ·rw[ap hb]at q;exact (I.hok b u q).stay (λc v _ z=>k c v z) (λc z=>by rw[ap (au z a)];exact z) λc xs z=>by rw[ap (au z a)];exact z
end
abbrev ic:List Value:=[.type "ValueError",.type "Exception",.type "BaseException",.type "object"]
section
variable {X:Cx}{pins:List (Addr × Obj)}{σ:St}{H:Hp}{s:h6}{h':Heap}
abbrev Cx.tryc(X:Cx)(pn:List (Addr × Obj))(W:Value->h6->Prop):Cx:={ X with pn:=pn,xe:=W }
abbrev Cx.hand(X:Cx)(e:Addr)(W:Value->h6->Prop):Cx:={ X with A:=X.A.mark (some (.ref e)),calm:=false,xe:=W }
def Cx.Ok.tryc{pn:List (Addr × Obj)}{W:Value->h6->Prop}(ok:X.Ok):(X.tryc pn W).Ok :=
 ⟨ok.mod,ok.kind,ok.glob,ok.blt,ok.above,ok.inj,ok.has,ok.cab,ok.hd,ok.frames,ok.stk,ok.exf,ok.bs,ok.bsz,ok.noex,ok.exfs,ok.funs,ok.frf⟩
def Cx.Ok.untry{pn:List (Addr × Obj)}{W:Value->h6->Prop}(ok:(X.tryc pn W).Ok):X.Ok :=
 ⟨ok.mod,ok.kind,ok.glob,ok.blt,ok.above,ok.inj,ok.has,ok.cab,ok.hd,ok.frames,ok.stk,ok.exf,ok.bs,ok.bsz,ok.noex,ok.exfs,ok.funs,ok.frf⟩
def af.tryc{W:Value->h6->Prop}(I:af X pins σ H s):af (X.tryc (X.pn++pins) W) [] σ H s :=
 ⟨I.ok.tryc,I.os,I.bare,I.base,I.loc,I.cell,I.free,I.freeC,λp a=>I.pin p (by simpa using a),I.hok,I.len⟩
def af.untry{W:Value->h6->Prop}{a:List (Addr × Obj)}(I:af (X.tryc (X.pn++pins) W) a σ H s):af X pins σ H s :=
 ⟨I.ok.untry,I.os,I.bare,I.base,I.loc,I.cell,I.free,I.freeC,λp b=>I.pin p (WQ _ b),I.hok,I.len⟩
def af.hand{e:Addr}{W:Value->h6->Prop}(I:af X pins σ H s):af (X.hand e W) pins σ H s :=
 ⟨⟨I.ok.mod,I.ok.kind,I.ok.glob,I.ok.blt,I.ok.above,I.ok.inj,I.ok.has,I.ok.cab,(λz=>nomatch z),I.ok.frames,I.ok.stk,I.ok.exf,I.ok.bs,I.ok.bsz,I.ok.noex,I.ok.exfs,I.ok.funs,I.ok.frf⟩,I.os,I.bare,I.base,I.loc,I.cell,I.free,I.freeC,I.pin,I.hok,I.len⟩
def af.unhand{e:Addr}{W:Value->h6->Prop}(I:af (X.hand e W) pins σ H s)(hd:X.calm=true->X.A.handled=none):af X pins σ H s :=
 ⟨⟨I.ok.mod,I.ok.kind,I.ok.glob,I.ok.blt,I.ok.above,I.ok.inj,I.ok.has,I.ok.cab,hd,I.ok.frames,I.ok.stk,I.ok.exf,I.ok.bs,I.ok.bsz,I.ok.noex,I.ok.exfs,I.ok.funs,I.ok.frf⟩,I.os,I.bare,I.base,I.loc,I.cell,I.free,I.freeC,I.pin,I.hok,I.len⟩
def SP.untry{W:Value->h6->Prop}{D:fX}{f:Flow}(h:SP (X.tryc (X.pn++pins) W) [] D f s):SP X pins D f s:=by
 cases f with
 | next=>obtain⟨a,b,I,q⟩:=h;exact⟨a,b,I.untry,q⟩
 | brk=>obtain⟨a,b,I,q⟩:=h;exact⟨a,b,I.untry,q⟩
 | cont=>obtain⟨a,b,I,q⟩:=h;exact⟨a,b,I.untry,q⟩
 | ret u=>obtain⟨v,a,b,I,r,q⟩:=h;exact⟨v,a,b,I.untry,r,q⟩
def af.noTb{T e:Addr}{fl:Value}(I:af X pins σ H s)(t:iC s.heap e T fl):T≠X.env.locals/\∀x c,X.env.cells.lookup x=some c->c≠T:=by
 obtain⟨oT,ts,d,b,_⟩:=t;refine⟨λz=>?_,λx c f z=>?_⟩
 ·obtain⟨m,⟨o,g,h,a,hd,_⟩,_⟩:=I.loc;rw[<- z,d]at a;cases a;rw[b]at hd;cases hd
 ·obtain⟨v,o,a,hd⟩:=I.cell x c f;rw[z,d]at a;cases a;rw[b]at hd;cases hd
def af.noted{e C a:Addr}{f:Option Addr}{tb fl:Value}{d:Option Addr}(I:af X pins σ H s)(hx:H e=some (XO e C f d))(ht:sG s.heap e tb)(hT:∀T,tb=.ref T->H T=none/\X.s₀.heap.objs.size<=T/\∀p∈X.pn++pins,p.1≠T)
 (N:lW X.stack e C a f tb fl s.heap h' d):af X pins σ H { s with heap:=h' }:=by
 have ne:∀b,H b=none->b≠e:=λb n z=>by rw[z,hx]at n;cases n
 have ok:=N.hok I.hok hx (λT z=>(hT T z).1) I.stkFree;have un:∀ch:List Addr,(∀T,tb=.ref T->T∈ch)->Un (cw X.stack) ch H H s.heap h':=λch l=>⟨λb o q n m c=>N.keep b o q (ne b n) (λz=>c (l b z.symm)) m,λb o q n m c=>N.slot b o q m,λ_ _ _ n _=>n,λb o q _=>N.there b o q,λ_ _ q=>q,λ_ _ _ q=>q,λb ps q=>⟨#[],by rw[q];simp⟩⟩;rcases ht with rfl|⟨T,rfl,t⟩
 ·exact I.call (g':=s.gens) (d':=s.drawn) (t':=s.toks) (ch:=[]) (un [] λT z=>by cases z) ok I.bare λb z=>YC z (by simp)
 ·refine I.call (g':=s.gens) (d':=s.drawn) (t':=s.toks) (ch:=[T]) (un [T] λa z=>by cases z;simp) ok I.bare λb hb=>?_;have h:b=T:=by simpa using hb
  subst h;obtain⟨r,k,j⟩:=hT b rfl;obtain⟨g,i⟩:=I.noTb t;exact⟨.inr k,g,i,j⟩
end
structure ij (P:Program) (w:World) (K:W.Frag) (mg:Str->Option Value) (base:Heap) (x:Str) (C:Addr) (k:Nat) (f:Addr) (fd:FuncData) (ps:List Str) (dvs:List V) (sp:Sp):Prop where
 g:mg x=some (.ref C)
 mkx:Mk K C f
 b:∃ds,ao K fd ps ds/\aA dvs ds
 ok:bn P w K mg base bD k f fd ps sp
section
variable {X:Cx}{k j:Nat}{f C:Addr}{fd:FuncData}{ps:List Str}{sp:Sp}{x:Str}{p pos:Pos}{e:Expr}{es:List Expr}{t:TA}{dvs:List V}
def bW{c b:TE}(f:QE X e c)(d:QE X e b):QE X e (λσ H Q=>c σ H Q\/b σ H Q) :=
 ⟨λa s σ H Q I z=>z.elim (f.h a s σ H Q I) (d.h a s σ H Q I)⟩
def fh(F:ij X.prog X.w X.K X.mg X.base x C j f fd ps dvs sp)(hr:bt k X.A)(i:QA X (e::es) t)(d:j+1<=k:=by decide)(l:Gl X x:=by rfl)(a:(x == ("__debug__" : Str))=false:=by decide)(c:cu (e::es)=true:=by rfl) :
 QE X (.Call (.Name x p) (e::es) [] pos) (AN C sp dvs E0 t):=by
 obtain⟨ds,hb,hd⟩:=F.b;exact⟨Lr F.mkx F.ok (hr.mono d) l F.g hb hd ph i.h a (bV (bR c).1) (dN (bR c).2)⟩
end
end L2
namespace L2
open PySem PySem.Spec PyProof.Rows PySem.W
structure nS (K:W.Frag) (C:Addr):Prop where
 ga:findIn K (.ref C) "__getattribute__" = some (some (.builtin "BaseException.__getattribute__"))
 noga:findIn K (.ref C) "__getattr__" = some none
 base:mroIn K C (.type "BaseException")=some true
 obj:mroIn K C (.type "object")=some true
 hd:hasDictIn K C=true
 cls:findIn K (.ref C) "__class__" = some (some (.builtin "object.__class__"))
 clsG:specialIn K (.builtin "object.__class__") "__get__" = some (some (.builtin "getset_descriptor.__get__"))
 clsT:takesIn K (.builtin "object.__class__")=some true
inductive Ae (K:W.Frag) (H:Hp):V->Value->Prop where
 | of {x:V} {t:Value} (h:cj K H x t):Ae K H x t
 | exc {e C:Addr} {q:Option Addr} (h:H e=some (XO e C none q)) (c:nS K C):Ae K H (.ref e) (.ref C)
def dm(K:W.Frag)(C:Addr)(bmB:List Value)(newId:String):Bool:=match K.lookup C with
 | some ⟨.type "type",_,.cls cd,sl⟩=>(match cd.mro,sl.toList with
  | .ref C'::bm,[_,_,_,_,some (.builtin n),_]=>C' == C && (n == newId && (!cd.hasDel && (W.tailIn K bmB bm && W.nsOkIn K cd.ns)))
  | _,_=>false)
 | _=>false
def dm.obj{K:W.Frag}{h:Heap}{C:Addr}{bmB:List Value}{newId:String}(g:K.In h)(q:dm K C bmB newId=true) :
 ∃bm N f c bs hdct d sub e b dd k0 k1 k2 k3 k5,h.get? C=some (excClassObj f c C N bs bm hdct d sub e b dd k0 k1 k2 k3 k5 newId)/\OwnTail h bmB bm:=by
 unfold dm at q
 split at q
 ·rename_i dd cd sl ho
  split at q
  ·rename_i C' bm k0 k1 k2 k3 n k5 hm hs;simp only [Wy,beq_iff_eq,Bool.not_eq_true']at q;obtain⟨j,i,a,ht,_⟩:=q;subst j i;obtain⟨f,bs,mro,ns,c,hd,d,sub,e,b,k⟩:=cd;simp only at hm a;subst hm a;obtain⟨l⟩:=sl;simp only at hs;subst hs;exact⟨bm,ns,f,c,bs,hd,d,sub,e,b,dd,k0,k1,k2,k3,k5,g _ _ ho,W.tail_of_in g ht⟩
  ·cases q
 ·cases q
section
variable {prog:Program}{w:World}{A:Around}{E:Value->h6->Prop}{h:Heap}{g:Array GenState}{d:Drawn}{t:Nat}{os:OsState}{K:W.Frag}
variable {nm q:Str}{C N:Addr}{bs bm bmB:List Value}{hdct:Bool}{sn:List Str}{sub:List Value}{ab:Bool}{col:Option Bool}{dd:Option Addr}{k0 k1 k2 k3 k5:Option Value}{B newId initId:String}{us:List Value}{fI:Addr}
def Gf(F:ExcBaseFacts B newId initId bmB)(T:OwnTail h bmB bm)(m:K.In h){Q:Fin->h6->Prop}
 (hC:h.get? C=some (excClassObj nm q C N bs bm hdct sn sub ab col dd k0 k1 k2 k3 k5 newId)) (n:W.findIn K (.ref C) "__init__" = some (some (.ref fI))) (v:W.typeIn K (.ref fI)=some (.type "function"))
 (l:∀h' e,Heap.MadeExcOf h h' e (.ref C) us->wpAny (model prog w) A (call (.ref fI) (.ref e::us)) (λr k=>r=.none/\Q (.done (.ret (.ref e))) k) E ⟨h',g,d,t,os⟩) (hz:us.length<=sizeLine) :
 wpAny (model prog w) A (Builtin.«type.__call__» ⟨.ref C::us,[]⟩) Q E ⟨h,g,d,t,os⟩:=by
 repeat (first|with_reducible refine wpAny_madeBy_exc hC ?_|with_reducible refine wpAny_loadPart_at hC ?_|wp_step)
 refine codeAny_call_builtin_code (Code.quiet_builtin _ F.quiet) (wpAny_check_new_subT F T hC (codeAny_exc_new_subT F T hC ?_ hz));show wpAny _ _ _ _ _ _;obtain⟨c,f⟩:∃c,c=(h.push { cls:=.type "tuple",data:=.seq us.toArray }).push { cls:=.ref C,data:=.fields #[.ref h.objs.size,.none,.none,.none,.bool false,.none] }:=⟨_,rfl⟩;have up:∀b o,h.get? b=some o->c.get? b=some o:=λb o z=>by rw[f];exact V9 _ (V9 _ z)
 have new:c.get? (h.objs.size+1)=some { cls:=.ref C,data:=.fields #[.ref h.objs.size,.none,.none,.none,.bool false,.none] }:=by rw[f];heap_get
 have i:c.get? h.objs.size=some { cls:=.type "tuple",data:=.seq us.toArray }:=by rw[f];exact V9 _ (Heap.get?_push_at Z Z)
 have hC2:=up _ _ hC;have j:K.In c:=λa o z=>up a o (m a o z);have p:=W.looks_findIn (M:=model prog w) j n;have s:=W.looks_typeIn (M:=model prog w) j v;have u:(Value.ref C::bm).contains (.ref C)=true:=by simp
 rw[<- f];unfold isInstance
 repeat (first|with_reducible refine wpAny_loadPart_at new ?_|(with_reducible refine wpAny_isSubtype_exc hC2 ?_;rw[u])|wp_step)
 show wpAny _ _ (typeLookup (.ref C) _) _ _ _;refine p.at ?_;refine wpAny_holding (kb ?_);unfold bindSpecial;refine kb (s.at ?_);rw[YB (by decide)];refine on (kb (wpAny_mono (l c (h.objs.size+1) ⟨up,Xh (WU _),h.objs.size,new,Xh (V5 _),i⟩) (λr k ⟨z1,z2⟩=>?_) λ_ _ x=>x));subst z1
 wp_walk
 exact z2
def Am(F:ExcBaseFacts B newId initId bmB)(T:OwnTail h bmB bm)(a:K.In h){Q:Value->h6->Prop}
 (hC:h.get? C=some (excClassObj nm q C N bs bm hdct sn sub ab col dd k0 k1 k2 k3 k5 newId)) (b:W.findIn K (.ref C) "__init__" = some (some (.ref fI))) (i:W.typeIn K (.ref fI)=some (.type "function"))
 (f:∀h' e,Heap.MadeExcOf h h' e (.ref C) us->wpAny (model prog w) (A.under (.builtin "type.__call__" ⟨.ref C::us,[]⟩)) (call (.ref fI) (.ref e::us)) (λr c=>r=.none/\Q (.ref e) c) E ⟨h',g,d,t,os⟩) (hz:us.length<=sizeLine) :
 wpAny (model prog w) A (call (.ref C) us) Q E ⟨h,g,d,t,os⟩:=by
 have k:=tc_lookup;have j:=tc_bind (.ref C);have hT:(⟨h,g,d,t,os⟩:h6).TypeIs (.ref C) "type":=⟨_,hC,rfl⟩;refine wpAny_call (codeAny_of_tree ?_);show wpAny _ _ (callAny (.ref C) ⟨us,[]⟩) _ _ _
 repeat (any_goals (first|with_reducible refine wpAny_loadPart_at hC ?_|assumption|wp_step))
 refine⟨rfl,codeAny_call_builtin_at (Code.quiet_builtin _ (by decide +kernel)) entry_typeCall (wpAny_check_type_call_sub hC (Gf (hz:=hz) F T a hC b i λh' e hm=>?_))⟩;exact f h' e hm
end
section
variable {prog:Program}{w:World}{A:Around}{E:Value->h6->Prop}{s:h6}{K:W.Frag}
def Sb {C e:Addr} {h:Option Addr} {tb:Value} {j:Obj} {vs:Array Value} {us:List Value} {Q:Value->h6->Prop} (m:K.In s.heap) (hC:dm K C ic "ValueError.__new__" = true) (x:bU s.heap e C h tb j vs) (hz:us.length<=sizeLine)
 (k:∀h',(∀b o,b≠e->s.heap.get? b=some o->h'.get? b=some o)->(∃oe' vs',bU h' e C h tb oe' vs')->Q .none { s with heap:=h' }) :
 wpAny (model prog w) A (call (.builtin "ValueError.__init__") (.ref e::us)) Q E s:=by
 have F:=Xt;obtain⟨u,N,B,r,bs,l,y,sub,D,n,v,k0,k1,k2,k3,k5,hC0,T⟩:=dm.obj m hC;obtain⟨a,g,d,p,os⟩:=s;refine wpAny_call (codeAny_call_builtin F.init.plain F.initEntry (wpAny_check_init_subT F T hC0 x.at_ x.cls ?_));obtain⟨i,c⟩:∃i,vs[0]? = some i:=⟨vs[0]'(by rw[x.size];decide),by rw[XX]⟩;have ne:e≠a.objs.size:=Wc (V7 x.at_);have f:(a.push { cls:=.type "tuple",data:=.seq us.toArray }).get? e=some j:=V9 _ x.at_;unfold Builtin.«BaseException.__init__» Builtin.BaseException.bexcPut
 repeat (any_goals (first|assumption|with_reducible refine wpAny_field f x.data c ?_|with_reducible refine wpAny_setField f x.data (by rw[x.size];decide) ?_|wp_step))
 have self:=WL (Obj.mapFields (·.setIfInBounds 0 (.ref a.objs.size))) f (by rw[gW x.data];rfl);have q:Q .none ⟨(a.push { cls:=.type "tuple",data:=.seq us.toArray }).update e (Obj.mapFields (·.setIfInBounds 0 (.ref a.objs.size))),g,d,p,os⟩ :=
  k _ (λb o nb z=>(WF _ _ (Ne.symm nb)).trans (V9 _ z)) ⟨_,vs.setIfInBounds 0 (.ref a.objs.size),self,by rw[gW x.data];exact x.cls,by rw[gW x.data];exact x.dict,by rw[gW x.data],by simp[x.size],by rw[Xd,YA (by decide)];exact x.tb1,by rw[Xd,YA (by decide)];exact x.cx⟩
 split
 ·repeat (any_goals (first|assumption|wp_step))
 ·repeat (any_goals (first|assumption|wp_step))
end
structure sL (K:W.Frag) (C f:Addr):Prop where
 x:dm K C ic "ValueError.__new__" = true
 init:W.findIn K (.ref C) "__init__" = some (some (.ref f))
 fn:W.isFn K (.ref f)=true
 kp:W.keepIn K (.ref C)=true
structure Fb (P:Program) (w:World) (K:W.Frag) (mg:Str->Option Value) (base:Heap) (x:Str) (C:Addr) (k:Nat) (f:Addr) (fd:FuncData) (ps:List Str) (sp:Sp):Prop where
 g:mg x=some (.ref C)
 mkx:sL K C f
 b:ao K fd ps []
 ok:bn P w K mg base bD k f fd ps sp
def Go{H:Hp}{e:Addr}{o:HO}(h:H e=some o):upd H e o=H:=funext λb=>by
 by_cases q:b=e
 ·subst q;rw[az,h]
 ·rw[ap q]
def GW {h:Heap} {a:List Value} (self:Value) (T:OwnTail h ic a):refuseLoop self "__setattr__" a=pure ():=by
 induction T with
 | base=>exact PySem.F.store_ValueError.passes self
 | own _ _ _ _ ih=>rw[refuseLoop_ref];exact ih
section
variable {prog:Program}{w:World}{A:Around}{E:Value->h6->Prop}{h:Heap}{g:Array GenState}{d:Drawn}{t:Nat}{os:OsState}{K:W.Frag}{C e:Addr}{od:Option Addr}{tb v:Value}{oe:Obj}{vs:Array Value}{name:Str}{tk:Tok}
def Ge {Q:Fin->h6->Prop} (l:K.In h) (hC:dm K C ic "ValueError.__new__" = true) (c:nS K C) (G:W.findIn K (.ref C) name=some none) (x:bU h e C od tb oe vs)
 (k0:od=none->∀h' d0 oe' tk',h.get? d0=none->(∀b o,b≠e->h.get? b=some o->h'.get? b=some o)->bU h' e C (some d0) tb oe' vs->h'.Ns1 d0 (λy=>if y=name then some v else none)->Q (.done (.ret .none)) ⟨h',g,d,tk',os⟩)
 (k1:∀d0,od=some d0->∃mA ns,h.Ns1 d0 mA/\Within mA ns/\ns.length+1<=1000/\∀h' tk',(∀b o,b≠d0->h.get? b=some o->h'.get? b=some o)->h'.Ns1 d0 (λy=>if y=name then some v else mA y)->Q (.done (.ret .none)) ⟨h',g,d,tk',os⟩) :
 wpAny (model prog w) A (Builtin.«object.__setattr__» ⟨[.ref e,.str name tk,v],[]⟩) Q E ⟨h,g,d,t,os⟩:=by
 obtain⟨F,N,Y,U,bs,a,sn,sub,ab,R,dd,s0,s1,s2,s3,V,hC0,T⟩:=dm.obj l hC;have p:refuseLoop (.ref e) "__setattr__" (.ref C::F)=pure ():=by rw[refuseLoop_ref];exact GW _ T
 have S:=W.looks_findIn (M:=model prog w) l G;have r:a=true:=by
  obtain⟨cd,f,q⟩:=W.any_some c.hd;have L:=W.looks_clsIn (M:=model prog w) l f;unfold W.clsIn at f
  split at f
  ·rename_i ho;have y:=l _ _ ho;rw[hC0]at y;cases y;cases f;exact q
  ·cases f
 subst r;unfold Builtin.«object.__setattr__»
 repeat (first|rw[refuse_eq]|rw[p]|(with_reducible refine wpAny_loadPart_at x.at_ ?_;rw[x.cls])|with_reducible refine wpAny_mroOf_exc hC0 ?_|with_reducible refine S.at ?_|wp_step)
 rw[x.dict];cases od with
 | none =>
  dsimp only;rw[YA (by simp[typeHasDict]),x.data];have s:(h.push { cls:=.type "dict",data:=.dict #[] }).get? e=some oe:=V9 _ x.at_;have ne:e≠h.objs.size:=Wc (V7 x.at_);refine kb (wpAny_alloc' (kb (wpAny_update' s (on ?_))));obtain⟨i,m⟩:∃i,i=(h.push { cls:=.type "dict",data:=.dict #[] }).update e λo=>{ cls:=o.cls,dict:=some h.objs.size,data:=o.data,slots:=o.slots }:=⟨_,rfl⟩;have O:i.get? h.objs.size=some { cls:=.type "dict",data:=.dict #[] }:=by rw[m];exact (Yr _ _ _ _ ne.symm).trans (Heap.get?_push_at Z Z)
  have ge:i.get? e=some { cls:=oe.cls,dict:=some h.objs.size,data:=oe.data,slots:=oe.slots }:=by
   rw[m];refine WL _ s ?_;obtain⟨oc,D,u,B⟩:=oe;have q:=x.data;simp only at q;subst q
   rfl
  have nd:i.Ns h.objs.size (λ_=>none):=⟨_,#[],_,O,rfl,λe J=>YC J (by simp),λ_=>rfl⟩;rw[<- m];show wpAny _ _ (Builtin.ObjectAttr.storeInDict h.objs.size (.str name tk) name v) _ _ _;unfold Builtin.ObjectAttr.storeInDict Builtin.ObjectAttr.newKeyGuard;refine kb (on (kb (wpAny_nsSet1 (Heap.Ns1.of_empty nd) λh' j sb=>?_)));obtain⟨oD,esD,epD,hoD,hdD,hcD⟩:=j.count (Within.cons name v Within.nil);refine kb (wpAny_lookBehind hoD (by rw[hdD];exact pastItsLine_dict (Wq hcD (by rw[WE,List.length_nil,sizeLine_eq];omega))) ?_)
  wp_walk
  exact k0 rfl h' h.objs.size _ _ (Xh (V5 _)) (λb o nb z=>(sb.2 b (Wc (V7 z))).trans (by rw[m];exact (Yr _ _ _ _ nb).trans (V9 _ z)))
   ⟨(sb.2 e ne).trans ge,x.cls,rfl,x.data,x.size,x.tb1,x.cx⟩ j
 | some d0 =>
  obtain⟨mA,ns,n,I,hz,k⟩:=k1 d0 rfl;dsimp only;refine on ?_;show wpAny _ _ (Builtin.ObjectAttr.storeInDict d0 (.str name tk) name v) _ _ _;unfold Builtin.ObjectAttr.storeInDict Builtin.ObjectAttr.newKeyGuard;refine kb (on (kb (wpAny_nsSet1 n λh' j sb=>?_)));obtain⟨oD,esD,epD,hoD,hdD,hcD⟩:=j.count (Within.cons name v I);refine kb (wpAny_lookBehind hoD (by rw[hdD];exact pastItsLine_dict (Wq hcD (by rw[WE,sizeLine_eq];omega))) ?_)
  wp_walk
  exact k h' _ (λb o nb z=>(sb.2 b nb).trans z) j
end
section
variable {X:Cx}{pins:List (Addr × Obj)}{σ:St}{H:Hp}{s:h6}{h':Heap}{e C d0:Addr}{fs:List (Str × V)}{f:Str}
def af.none_of{a:Addr}(I:af X pins σ H s)(h:s.heap.get? a=none):H a=none:=by
 cases q:H a with
 | none=>rfl
 | some u=>obtain⟨z,y⟩:=bw.there (I.hok a u q);rw[h]at y;cases y
def af.xdict{l:Obj}{vs:Array Value}{t':Nat}(I:af X pins σ H s)(hx:H e=some (XN e C none))(j:s.heap.get? d0=none)(kp:∀b o,b≠e->s.heap.get? b=some o->h'.get? b=some o)(i:bU h' e C (some d0) .none l vs)
 (nd:∃mA,h'.Ns1 d0 mA/\∀f,cM (fs.lookup f) (mA f)):af X pins σ (upd (upd H d0 (.xd fs)) e (XN e C (some d0))) { s with heap:=h',toks:=t' }:=by
 have h:=I.none_of j;have k:d0≠e:=λz=>by rw[z,hx]at h;cases h
 have g:∀b u,s.heap.get? b=some u->b≠d0:=λb u q z=>by rw[z,j]at q;cases q
 have a:∀b,H b=none->b≠e:=λb q z=>by rw[z,hx]at q;cases q
 have two:∀b o,b≠e->H b=some o->upd (upd H d0 (.xd fs)) e (XN e C (some d0)) b=some o:=λb o n q=>by rw[ap n,ap (au q h)];exact q
 refine I.un ⟨λb u q n _ _=>kp b u (a b n) q,λb u q n _ _=>⟨u.slots,kp b u (a b n) q⟩,λb u q n _=>by rw[ap (a b n),ap (g b u q)];exact n,λb u q _=>?_,λb xs q=>two b _ (λz=>by rw[z,hx]at q;cases q) q,λb u xs q=>two b _ (λz=>by rw[z,hx]at q;cases q) q,λb ps q=>⟨#[],?_⟩⟩ λb u q=>?_
 ·by_cases z:b=e
  ·subst z;exact⟨_,i.at_⟩
  ·exact⟨u,kp b u z q⟩
 ·rw[two b _ (λz=>by rw[z,hx]at q;cases q) q];simp
 ·by_cases hb:b=e
  ·subst hb;rw[az]at q;cases q;exact oi i
  ·rw[ap hb]at q;by_cases hd:b=d0
   ·subst hd;rw[az]at q;cases q;exact nd
   ·rw[ap hd]at q;refine (I.hok b u q).stay (λc v d z=>?_) (λc z=>two c _ (λy=>by rw[y,hx]at z;cases z) z) λc xs z=>two c _ (λy=>by rw[y,hx]at z;cases z) z;rcases d with rfl|d
    ·exact kp c v hb z
    ·exact kp c v (λy=>by rw[y,hx]at d;cases d) z
def af.xput{e:List (Str × V)}{t':Nat}(I:af X pins σ H s)(hd:H d0=some (.xd fs))(kp:∀b o,b≠d0->s.heap.get? b=some o->h'.get? b=some o)
 (nd:∃mA,h'.Ns1 d0 mA/\∀f,cM (e.lookup f) (mA f)):af X pins σ (upd H d0 (.xd e)) { s with heap:=h',toks:=t' }:=by
 have a:∀b,H b=none->b≠d0:=λb q z=>by rw[z,hd]at q;cases q
 have one:∀b o,b≠d0->H b=some o->upd H d0 (.xd e) b=some o:=λb o n q=>by rw[ap n];exact q
 refine I.un ⟨λb u q n _ _=>kp b u (a b n) q,λb u q n _ _=>⟨u.slots,kp b u (a b n) q⟩,λb u q n _=>by rw[ap (a b n)];exact n,λb u q _=>?_,λb xs q=>one b _ (λz=>by rw[z,hd]at q;cases q) q,λb u xs q=>one b _ (λz=>by rw[z,hd]at q;cases q) q,λb ps q=>⟨#[],?_⟩⟩ λb u q=>?_
 ·by_cases z:b=d0
  ·subst z;obtain⟨_,⟨o,_,_,y,_⟩,_⟩:=nd;exact⟨o,y⟩
  ·exact⟨u,kp b u z q⟩
 ·rw[one b _ (λz=>by rw[z,hd]at q;cases q) q];simp
 ·by_cases hb:b=d0
  ·subst hb;rw[az]at q;cases q;exact nd
  ·rw[ap hb]at q;refine (I.hok b u q).stay (λc v d z=>?_) (λc z=>one c _ (λy=>by rw[y,hd]at z;cases z) z) λc xs z=>one c _ (λy=>by rw[y,hd]at z;cases z) z;rcases d with rfl|d
   ·exact kp c v hb z
   ·exact kp c v (λy=>by rw[y,hd]at d;cases d) z
def Gh{mA:Str->Option Value}(r:∀f,cM (fs.lookup f) (mA f)):Within mA (fs.map (·.1)):=λy d=>by
 have z:=r y;cases q:fs.lookup y with
 | none =>
  rw[q]at z;cases p:mA y with
  | none=>exact YC p d
  | some u=>rw[p]at z;exact z.elim
 | some v =>
  clear z d r
  induction fs with
  | nil=>cases q
  | cons a l ih =>
   obtain⟨a,b⟩:=a;rw[WH]at q;by_cases c:(y == a)=true
   ·rw[beq_iff_eq.mp c];exact WP
   ·have c:(y == a)=false:=by simpa using c
    rw[c]at q;exact WD _ (ih q)
structure sI (K:W.Frag) (C:Addr):Prop where
 x:dm K C ic "ValueError.__new__" = true
 c:nS K C
 sa:W.findIn K (.ref C) "__setattr__" = some (some (.builtin "object.__setattr__"))
def IK{A:Around}{E:Value->h6->Prop}{m:Option Addr}{y:V}{u:Value}{Q:Unit->h6->Prop}(I:af X pins σ H s)(hx:H e=some (XN e C m))(S:sI X.K C)(J:bL X.K C f)(D:aN y u)
 (k0:m=none->∀d0,H d0=none->d0≠e->∀s',af X pins σ (upd (upd H d0 (.xd [(f,y)])) e (XN e C (some d0))) s'->Q () s')
 (k1:∀d0,m=some d0->∃fs,H d0=some (.xd fs)/\fs.length<999/\∀s',af X pins σ (upd H d0 (.xd (bX f y fs))) s'->Q () s'):wpAny (model X.prog X.w) A (setAttr (.ref e) f u) Q E s:=by
 obtain⟨⟨N,vs,b⟩,_⟩:=I.hok e _ hx;have j:=PySem.F.store_ValueError;obtain⟨l,v⟩:∃l,W.InstAt s.heap e N C l:=by
  cases m with
  | none=>exact⟨none,b.at_,b.cls,by unfold W.notCls;rw[b.data],by rw[b.dict];trivial⟩
  | some d0 =>
   obtain⟨fs,hd,_⟩:=k1 d0 rfl;obtain⟨mA,⟨o,O,R,z,_⟩,_⟩:=(show ∃mA,s.heap.Ns1 d0 mA/\∀f,cM (fs.lookup f) (mA f) from I.hok d0 _ hd);exact⟨some o,b.at_,b.cls,by unfold W.notCls;rw[b.data],by rw[b.dict];exact z⟩
 have L:W.Looks (model X.prog X.w) s.heap (isInstance (.ref e) (.type "object")) true:=v.type.andThen (W.looks_mroIn I.kIn S.c.obj);have G:argsOk "object.__setattr__" ⟨[.ref e,.str f s.toks,u],[]⟩:=j.args _ _ _;refine W.set_plain I.kIn v S.sa (codeAny_call_builtin j.slot.plain j.entry ?_);refine @W.check_slot (model X.prog X.w) _ _ { s with toks:=s.toks+1 } "object.__setattr__" "object" "__setattr__" (.ref e) [.str f s.toks,u] [] _ j.kind j.split L G ?_;refine Ge (h:=s.heap) (g:=s.gens) (d:=s.drawn) (t:=s.toks+1) (os:=s.os) I.kIn S.x S.c J b (λz h' d1 M i B kp n p=>?_) (λd1 z=>?_)
 ·subst z;have a:=I.none_of B;refine k0 rfl d1 a (λq=>by rw[q,hx]at a;cases a) _ (I.xdict (t':=i) hx B kp n ⟨_,p,λg=>?_⟩);by_cases q:g=f
  ·subst q;rw[YB rfl,WH,beq_self_eq_true];exact D
  ·rw[YA q,WH,show (g == f)=false by simpa using q];trivial
 ·obtain⟨fs,hd,hz,k⟩:=k1 d1 z;obtain⟨mA,a,r⟩:=(show ∃mA,s.heap.Ns1 d1 mA/\∀f,cM (fs.lookup f) (mA f) from I.hok d1 _ hd);refine⟨mA,fs.map (·.1),a,Gh r,by rw[V4];omega,λh' i kp p=>k _ ?_⟩;refine I.xput (t':=i) hd kp ⟨_,p,λg=>?_⟩;rw[uk];by_cases q:g=f
  ·rw[YB q,YB q];exact D
  ·rw[YA q,YA q];exact r g
end
def JN(K:W.Frag)(c b:TE)(f:Str):TS:=λD σ H=>b σ H λy d=>c σ d λx a=>∃e C od,x=.ref e/\a e=some (XN e C od)/\sI K C/\bL K C f /\
 (od=none->∀d0,a d0=none->d0≠e->D.nx σ (upd (upd a d0 (.xd [(f,y)])) e (XN e C (some d0))))/\(∀d0,od=some d0->∃fs,a d0=some (.xd fs)/\fs.length<999/\D.nx σ (upd a d0 (.xd (bX f y fs))))
structure U4 (K:W.Frag) (Y:Addr):Prop where
 sp:W.specialIn K (.ref Y) "__getattribute__" = some (some (.builtin "type.__getattribute__"))
 rd:W.readsIn K Y (.type "type")=true
 fc:W.findCls K (.ref Y) (.type "type") "__init__" = some (.val (.builtin "ValueError.__init__"))
def AY(K:W.Frag)(t:TA):TE:=λσ H Q=>t σ H λvs a=>match vs with
 | .ref e::bB=>bB.length<=1000/\∃C od,a e=some (XN e C od)/\dm K C ic "ValueError.__new__" = true/\Q .non a
 | _=>False
section
variable {X:Cx}{K:W.Frag}{Y:Addr}{y f:Str}{np apos pos pos':Pos}{a o value:Expr}{es:List Expr}{t:TA}{ta tv:TE}
def oS(h:X.K=K)(g:QE X o ta)(m:QE X value tv)(hs:swapsWith value (some (.Attribute o f pos')) pos.line X.env=pure false:=by rfl):QS X (.Assign [.Attribute o f pos'] value pos) (JN K ta tv f):=⟨by
 subst h;intro a s σ H D I h;refine plainObj_wpAny_Assign_Attribute (av (m.h a s σ H _ I h) λu s1 ⟨y,n,l,B,q⟩=>av (g.h a s1 σ n _ l q) λj G ⟨x,F,r,p,e,C,J,ex,hx,S,i,k0,k1⟩=>?_) hs;subst ex;obtain rfl:j=Value.ref e:=p;exact IK r hx S i B (λz d0 d c v b=>⟨σ,_,b,k0 z d0 d c⟩) λd0 z=>let ⟨fs,d,c,k⟩:=k1 d0 z;⟨fs,d,c,λv b=>⟨σ,_,b,k⟩⟩⟩
def B7{pl:Sem Bool}(h:X.K=K)(B:U4 K Y)(hm:X.mg y=some (.ref Y))(n:QA X (a::es) t)(D:Gl X y:=by rfl)(hd:(y == ("__debug__" : Str))=false:=by decide)(m:cu (a::es)=true:=by rfl)
 (ht:eval (.Call (.Attribute (.Name y np) "__init__" apos) (a::es) [] pos) X.env=(do
   let ov <- eval (.Name y np) X.env
   standAt apos.atName
   let (f,first) <- holding [ov] (getMethod ov "__init__" pl)
   callWith pos f first (backTo pos (starEach (a::es) X.env)) (backToKw pos (keywordEach [] X.env))):=by rfl) :
 QE X (.Call (.Attribute (.Name y np) "__init__" apos) (a::es) [] pos) (AY K t):=⟨by
 subst h;intro b s σ H Q I h;have J:PE X (.Name y np) (tC (.ref Y)):=(gh (v:=.ref Y) D hm rfl hd).h;refine W.methodCall_KW (pl:=pl) (av (J b s σ H (λv O=>v=.ref Y/\AY X.K t σ O Q) I ⟨rfl,h⟩) λu s1 ⟨x,N,g,R,ex,q⟩=>?_) ht;subst ex;obtain rfl:u=Value.ref Y:=R;refine W.method_cls g.kIn B.sp (W.cls_value (s:=s1) g.kIn B.rd B.fc Z ?_);have M:=g.tok (s1.toks+1);have z:=n.h pos b { s1 with toks:=s1.toks+1 } σ N _ M q;rw[bV (bR m).1]at z ⊢;refine Calls.callWith_builtin (first:=[]) (dN (bR m).2) (Calls.evalArgs_plain (av z λus S ⟨vs,j,i,r,c⟩=>?_));cases vs with
 | nil=>exact c.elim
 | cons v0 bB =>
  cases v0 with
  | ref e =>
   obtain⟨hz,C,k,hx,L,c⟩:=(show bB.length<=1000/\∃C k,j e=some (XN e C k)/\dm X.K C ic "ValueError.__new__" = true/\Q .non j from c);cases r with
   | cons r1 r2 =>
    obtain rfl:=(show _=Value.ref e from r1);obtain⟨⟨V,F,p⟩,_⟩:=i.hok e _ hx;refine Sb i.kIn L p (bA (by rw[<- aA.length r2];omega)) λh' kp ⟨U,G,d⟩=>?_;have l:=af.write (t':=S.toks) (x:=e) (e:=e) (h':=h') (o:=XN e C k) i (by rw[hx];trivial) (.inl rfl) kp ⟨_,d.at_⟩ (oi d);rw[Go hx]at l;exact⟨.non,j,l,Z,c⟩
  | _=>exact c.elim⟩
end
inductive EV (K:W.Frag) (H:Hp):V->Value->Prop where
 | of {x:V} {t:Value} (h:Ae K H x t):EV K H x t
 | exd {e C d0:Addr} {fs:List (Str × V)} (h:H e=some (XN e C (some d0))\/∃q,H e=some (XO e C (some d0) q)) (hd:H d0=some (.xd fs)) (c:nS K C):EV K H (.ref e) (.ref C)
section
variable {M:Model}{A:Around}{E:Value->h6->Prop}{env:Env}
def J2{s:h6}{x:Sem Value}{Q:Flow->h6->Prop}(D:A.handled=none)
 (h:wpAny M A x (λv c=>∃e C u k vs m q N bs j a r sub p f n k0 k1 k2 k3 k5 newId,v=.ref e/\bU c.heap e C u .none k vs /\
   c.heap.get? C=some (excClassObj m q C N bs j a r sub p f n k0 k1 k2 k3 k5 newId)/\j.contains (.type "BaseException")=true/\E (.ref e) c) E s) :
 wpAny M A (raiseStmt env (some x) none) Q E s:=by
 unfold raiseStmt;refine kb (wpAny_mono h (λv c F=>?_) λ_ _ x=>x);obtain⟨e,C,u,k,vs,m,q,N,bs,j,a,r,sub,p,f,n,k0,k1,k2,k3,k5,newId,rfl,i,hC,b,hE⟩:=F;have hcB:(Value.ref C::j).contains (.type "BaseException")=true:=by rw[List.contains_cons,b,Bool.or_true]
 obtain⟨J,g,d,G,os⟩:=c;obtain⟨I,z,y,B⟩:=k;have l:=i.at_;have o:=i.cls;have hd:=i.data;simp only at l o hd;subst o hd
 repeat (first|with_reducible refine wpAny_field l rfl i.tb1 ?_|with_reducible refine wpAny_loadPart_at l ?_|with_reducible refine wpAny_loadPart_at hC ?_|(with_reducible refine wpAny_isSubtype_exc hC ?_;rw[hcB])|wp_step)
 exact wpAny_raiseNew_none D hE
end
def EY(C:Addr)(Es:St->XK)(σ:St):VK:=λx H=>∃e od,x=.ref e/\H e=some (XN e C od)/\Es σ (.ref C) (some e) (upd H e (XO e C od))
def GZ(C:Addr)(sp:Sp)(Es:St->XK)(t:TA):TS:=λ_ σ H=>t σ H λvs a=>vs.length<=1000/\∀e,a e=none->sp (.ref e::vs) (upd a e (XN e C none)) (λv b=>v=.non/\EY C Es σ (.ref e) b) E0
section
variable {X:Cx}{k j:Nat}{f C:Addr}{fd:FuncData}{ps:List Str}{sp:Sp}{x m:Str}{np cpos pos apos:Pos}{a e o:Expr}{es:List Expr}{ta:TE}{t:TA}{Es:St->XK}{dvs:List V}
def JW{b:List (Addr × Obj)}{σ:St}{H:Hp}{s:h6}{Q:VK}{us:List Value}{vs:List V}(M:sL X.K C f)(F:bn X.prog X.w X.K X.mg X.base bD k f fd ps sp)(hr:bt (k+1) X.A)(hb:ao X.K fd ps [])(I:af X b σ H s)(r:aA vs us)(hz:vs.length<=1000)
 (h:∀e,H e=none->sp (.ref e::vs) (upd H e (XN e C none)) (λv L=>v=.non/\Q (.ref e) L) E0):wpAny (model X.prog X.w) X.A (call (.ref C) us) (λu l=>(∃e,u=.ref e/\s.heap.get? e=none)/\EP X b σ Q u l) X.xe s:=by
 obtain⟨W,N,U,S,bs,i,sn,sub,ab,R,Y,k0,k1,k2,k3,k5,hC0,T⟩:=dm.obj I.kIn M.x;refine Am (h:=s.heap) (g:=s.gens) (d:=s.drawn) (t:=s.toks) (os:=s.os) Xt T I.kIn hC0 M.init (beq_iff_eq.mp M.fn) (λh' e m=>?_) (bA (by rw[<- r.length];omega));obtain⟨t',ht,B,p⟩:=m.there;have y:bU h' e C none .none _ _:=⟨ht,rfl,rfl,rfl,rfl,rfl,rfl⟩;have c:=I.adopt (t':=s.toks) (o:=XN e C none) m.keeps m.new (oi y);have j:=h e (I.none_of m.new);have n:aA (V.ref e::vs) (Value.ref e::us):=.cons rfl r;have hl:(Value.ref e::us++([]:List Value)).length=ps.length:=by
  have z:=n.length;rw[F.len _ _ _ _ j]at z;rw[Wv];exact z.symm
 refine wpAny_call (codeAny_mono (F.run _ X.stack _ _ ⟨Value.ref e::us,[]⟩ (Value.ref e::us) _ _ E0 (hr.make C us []) (c.env0.make C us []) (by have:=hb _ (Value.ref e::us) c.kIn hl;rwa [Wv]at this) n j) λr l a=>?_);cases r with
 | error e=>exact a.elim
 | ok fl =>
  cases fl with
  | ret u =>
   obtain⟨v,O,q,D,J,G⟩:=c.after a;subst J;exact⟨D,⟨e,Z,m.new⟩,⟨V.ref e,O,q,Z,G⟩⟩
  | next=>exact False.elim a
  | brk=>exact False.elim a
  | cont=>exact False.elim a
def mv(F:Fb X.prog X.w X.K X.mg X.base x C j f fd ps sp)(hr:bt k X.A)(hc:X.calm=true)(hx:dR X Es)(O:QA X (a::es) t)(hj:j+1<=k:=by decide)(S:Gl X x:=by rfl)(n:(x == ("__debug__" : Str))=false:=by decide)(L:cu (a::es)=true:=by rfl) :
 QS X (.Raise (some (.Call (.Name x np) (a::es) [] cpos)) none pos) (GZ C sp Es t):=⟨by
 intro c s σ H D I h;have Y:wpAny (model X.prog X.w) X.A (eval (.Call (.Name x np) (a::es) [] cpos) X.env) (λu G=>(∃e,u=.ref e/\(X.ex=[]->X.s₀.heap.get? e=none))/\EP X c σ (EY C Es σ) u G) X.xe s:=by
  refine wpAny_Call_Name_kw (hG I S F.g ?_ n);refine W.callWith_K (h₀:=X.base) I.ok.mod.kin F.mkx.kp (av (O.h cpos c s σ H _ I h) λus s1 ⟨vs,H1,m,r,hz,q⟩=>⟨m.kIn,?_⟩) (bV (bR L).1) (dN (bR L).2);exact wpAny_mono (JW F.mkx F.ok (hr.mono hj) F.b m r hz q) (λu G ⟨⟨e,z1,z2⟩,z3⟩=>⟨⟨e,z1,λh0=>m.newx h0 z2⟩,z3⟩) λ_ _ z=>z
 rw[arm_exec_Raise];refine kb (wpAny_standAt (J2 (I.ok.hd hc) ?_));refine kb (wpAny_mono Y (λv s3 hv=>kb (wpAny_standAt (on ?_))) λ_ _ z=>z);obtain⟨⟨e0,z1,z2⟩,y,H2,o,J,l,od,ey,B,U⟩:=hv;rw[ey]at J;have d:v=Value.ref l:=J;rw[d]at z1;obtain rfl:l=e0:=Value.ref.inj z1;rw[d];obtain⟨⟨oe,vs,R⟩,_⟩:=o.hok l _ B;obtain⟨bm,N,V,M,bs,i,sn,sub,ab,p,dd,k0,k1,k2,k3,k5,hC0,T⟩:=dm.obj o.kIn F.mkx.x;exact⟨l,C,od,oe,vs,V,M,N,bs,bm,i,sn,sub,ab,p,dd,k0,k1,k2,k3,k5,_,Z,R,hC0,T.hasType Xt.hasBase,hx.up c _ _ (Q3 o B z2 U)⟩⟩
def dA{pl:Sem Bool}(F:iH X.prog X.w X.K X.mg X.base C m j f fd ps dvs sp)(hr:bt k X.A)(hx:dR X Es)(y:QE X o ta)(v:QA X (e::es) t)(p:j<=k:=by decide)(n:cu (e::es)=true:=by rfl)
 (ht:eval (.Call (.Attribute o m apos) (e::es) [] pos) X.env=(do
   let ov <- eval o X.env
   standAt apos.atName
   let (f,first) <- holding [ov] (getMethod ov m pl)
   callWith pos f first (backTo pos (starEach (e::es) X.env)) (backToKw pos (keywordEach [] X.env))):=by rfl) :
 QE X (.Call (.Attribute o m apos) (e::es) [] pos) (eZ C m sp dvs Es ta t):=⟨by
 intro d s σ H Q I h;obtain⟨ds,hb,hd⟩:=F.b;refine W.methodCall_KW (pl:=pl) (av (y.h d s σ H _ I h) λu s1 ⟨x,G,g,B,a,dx,fs,ex,z,l,q⟩=>?_) ht;subst ex;obtain rfl:u=Value.ref a:=B;refine pU g z F.c F.mt l ?_;refine W.callWith_K (first:=[.ref a]) (h₀:=X.base) I.ok.mod.kin F.mt.kp (av (v.h pos d s1 σ G _ g q) λus L ⟨vs,J,i,r,D⟩=>⟨i.kIn,?_⟩) (bV (bR n).1) (dN (bR n).2);exact BN (us:=.ref a::us) (vs:=.ref a::vs) F.ok (hr.mono p) hb hd hx i (.cons Z r) D⟩
end
def wJ:entryFor table "proto.unchain" = some Builtin.«proto.unchain»:=entryFor_of_fast (by kernel_rfl)
section
variable {prog:Program}{w:World}{A:Around}{E:Value->h6->Prop}{env:Env}
def J4{α:Type}{s:h6}{e eh d:Addr}{b:Option Addr}{a:Value}{i c:Obj}{f vs:Array Value}{Q:α->h6->Prop}(j:A.handled=some (.ref eh))(hx:bU s.heap eh d b a i f)(ne:eh≠e)
 (g:s.heap.get? e=some c) (hd:c.data=.fields vs) (hs:vs.size=6)
 (h:E (.ref e) { s with heap:=s.heap.update e (Obj.mapFields (·.setIfInBounds 2 (.ref eh))) }):wpAny (model prog w) A (raiseNew (.ref e):Sem α) Q E s:=by
 unfold raiseNew;refine kb (wpAny_handled ?_);rw[j];dsimp only;have n:((Value.ref eh != Value.ref e)=true):=by simp[ne]
 rw[YB n];refine kb (wpAny_holding ?_);refine runValue_entry wJ ?_;unfold Builtin.«proto.unchain»;refine kb (wpAny_field hx.at_ hx.data hx.cx ?_);rw[YB (by decide)];refine on ⟨_,Z,?_⟩;exact kb (show wpAny _ _ (setField (.ref e) 2 (.ref eh)) _ _ _ from wpAny_setField g hd (by rw[hs];decide) (wpAny_throw h))
def J1{s:h6}{x c:Sem Value}{eh:Addr}{Q:Flow->h6->Prop}(hh:A.handled=some (.ref eh))(hc:∀f (Q':Value->h6->Prop),Q' .none f->wpAny (model prog w) A c Q' E f)
 (h:wpAny (model prog w) A x (λv f=>∃e C od oe vs nm q N bs V k sn sub ab S dd k0 k1 k2 k3 k5 newId,v=.ref e/\bU f.heap e C od .none oe vs /\
   f.heap.get? C=some (excClassObj nm q C N bs V k sn sub ab S dd k0 k1 k2 k3 k5 newId)/\V.contains (.type "BaseException")=true/\(∃Ch F B oh vh,bU f.heap eh Ch F B oh vh)/\eh≠e/\C≠e /\
   ∀h',(∀b o,b≠e->f.heap.get? b=some o->h'.get? b=some o)->(∃oe' vs',bU h' e C od .none oe' vs' (some eh))->E (.ref e) { f with heap:=h' }) E s) :
 wpAny (model prog w) A (raiseStmt env (some x) (some c)) Q E s:=by
 unfold raiseStmt;refine kb (wpAny_mono h (λv f h₁=>?_) λ_ _ x=>x);obtain⟨e,C,od,oe,vs,nm,q,N,bs,V,k,sn,sub,ab,S,dd,k0,k1,k2,k3,k5,newId,rfl,m,hC,r,⟨Ch,F,B,oh,vh,xh⟩,nh,nC,hE⟩:=h₁;have hcB:(Value.ref C::V).contains (.type "BaseException")=true:=by rw[List.contains_cons,r,Bool.or_true]
 refine kb (wpAny_holding (hc f _ (kb (on ?_))));obtain⟨L,g,d,tk,os⟩:=f;obtain⟨oc,G,ad,I⟩:=oe;have O:=m.at_;have D:=m.cls;have hd:=m.data;simp only at O D hd;subst D hd
 repeat (first|with_reducible refine wpAny_field O rfl m.tb1 ?_|with_reducible refine wpAny_loadPart_at O ?_|with_reducible refine wpAny_loadPart_at hC ?_|(with_reducible refine wpAny_isSubtype_exc hC ?_;rw[hcB])|wp_step)
 have hs:=m.size;rw[YB (by rw[hs];decide)];refine wpAny_update O ?_;obtain⟨U,l⟩:∃U,U=vs.setIfInBounds 3 Value.none:=⟨_,rfl⟩;have i:=WL (Obj.mapFields (·.setIfInBounds 3 Value.none)) O rfl;have i:(L.update e (Obj.mapFields (·.setIfInBounds 3 Value.none))).get? e=some { cls:=Value.ref C,dict:=G,data:=Data.fields U,slots:=I }:=by rw[l];exact i
 have J:∀b o,b≠e->L.get? b=some o->(L.update e (Obj.mapFields (·.setIfInBounds 3 Value.none))).get? b=some o:=λb o n z=>(WF _ _ (Ne.symm n)).trans z;generalize L.update e (Obj.mapFields (·.setIfInBounds 3 Value.none))=h1 at i J;have M:U.size=6:=by rw[l,XF];exact hs
 refine kb (wpAny_setField i rfl (by rw[M];decide) ?_);obtain⟨y,p⟩:∃y,y=U.setIfInBounds 4 (Value.bool true):=⟨_,rfl⟩;have a:=WL (Obj.mapFields (·.setIfInBounds 4 (Value.bool true))) i rfl;have a:(h1.update e (Obj.mapFields (·.setIfInBounds 4 (Value.bool true)))).get? e=some { cls:=Value.ref C,dict:=G,data:=Data.fields y,slots:=I }:=by rw[p];exact a
 have j:∀b o,b≠e->L.get? b=some o->(h1.update e (Obj.mapFields (·.setIfInBounds 4 (Value.bool true)))).get? b=some o:=λb o n z=>(WF _ _ (Ne.symm n)).trans (J b o n z);dsimp only;generalize h1.update e (Obj.mapFields (·.setIfInBounds 4 (Value.bool true)))=h2 at a j;have u:y.size=6:=by rw[p,XF];exact M
 have R:y[1]? = some .none:=by rw[p,l,Xd,YA (by decide),Xd,YA (by decide)];exact m.tb1
 have hC2:=j _ _ nC hC;have W:=xh.keeps (h':=h2) λo z=>j _ _ nh z
 repeat (first|with_reducible refine wpAny_field a rfl R ?_|with_reducible refine wpAny_loadPart_at a ?_|with_reducible refine wpAny_loadPart_at hC2 ?_|(with_reducible refine wpAny_isSubtype_exc hC2 ?_;rw[hcB])|wp_step)
 refine J4 hh W nh a Z u ?_;have Y:=WL (Obj.mapFields (·.setIfInBounds 2 (Value.ref eh))) a rfl;refine hE _ (λb o n z=>(WF _ _ (Ne.symm n)).trans (j b o n z)) ⟨_,y.setIfInBounds 2 (.ref eh),Y,rfl,m.dict,rfl,by rw[XF];exact u,by rw[Xd,YA (by decide)];exact R,by rw[Xd,YB rfl,YB (by rw[u];decide)];rfl⟩
end
structure cT (k:Nat) (A:Around):Prop where
 dp:A.depth+3*k+5<recursionLimit
 un:A.units+16*k+200<cLine
def bt.hand{k:Nat}{A:Around}(r:bt k A)(h:Option Value):cT k (A.mark h):=⟨r.dp,r.un⟩
def cT.mono{j k:Nat}{A:Around}(r:cT k A)(h:j<=k):cT j A:=⟨by have:=r.dp;omega,by have:=r.un;omega⟩
def cT.deeper{k:Nat}{A:Around}(r:cT (k+1) A)(env:Env):cT k (A.deeper env) :=
 ⟨by have:=r.dp;show A.depth+1+3*k+5<_;omega,by have:=r.un;show A.units+3+16*k+200<_;omega⟩
def cT.make {k:Nat} {A:Around} (r:cT (k+1) A) (C:Addr) (us:List Value) (a:List (Str × Value)):cT k (A.under (.builtin "type.__call__" ⟨.ref C::us,a⟩)) :=
 ⟨by have:=r.dp;rw[CK];omega,by have:=r.un;rw[CJ];omega⟩
def cT.depth{k:Nat}{A:Around}(r:cT k A):A.depth<recursionLimit:=by have:=r.dp;omega
abbrev h9(P:Program)(w:World)(K:W.Frag)(mg:Str->Option Value)(base:Heap)(N:List Str)(qual:Str)(scope:Scope)(f:Addr)(cd:Value)(A:Around)(outer:List Env)(s:h6)(H:Hp)(E:XK):Cx:={ d7 bD P w K mg base N qual scope f cd A outer s H E with calm:=false }
structure lX (P:Program) (w:World) (K:W.Frag) (mg:Str->Option Value) (base:Heap) (k:Nat) (f:Addr) (fd:FuncData) (ps:List Str) (sp:Sp):Prop where
 len:∀vs H Q E,sp vs H Q E->vs.length=ps.length
 run:∀(A:Around) (outer:List Env) (s:h6) (H:Hp) (args:Args) (us:List Value) (vs:List V) (Q:VK) (E:XK),cT k A->gH P w K mg base A outer s H->BindsTo s fd args (ps.zip us)->aA vs us->sp vs H Q E ->
  codeAny (model P w) A (.call (.ref f) args) (CR bD outer P w H s Q E) s
def Dg{P:Program}{w:World}{K:W.Frag}{mg:Str->Option Value}{base:Heap}{N ps:List Str}{qual:Str}{scope:Scope}{f:Addr}{cd:Value}{A:Around}{outer:List Env}{s s1:h6}{H:Hp}{E:XK}{us:List Value}{vs:List V}
 (S:ay N ps scope) (a:gH P w K mg base A outer s H) (hl:vs.length=ps.length) (r:aA vs us)
 (x:InCallC s s.heap.objs.size (bindL (envOfC qual scope s.heap.objs.size f cd).kindOf (ps.zip us) λ_=>none) (cellsFrom (s.heap.objs.size+1) scope.names []) (bindC (envOfC qual scope s.heap.objs.size f cd).kindOf (ps.zip us) λ_=>none) s1) :
 af (h9 P w K mg base N qual scope f cd A outer s H E) [] (cU N vs) H s1:=by
 have I:=Dh (CX:=bD) (A:={ A with handled:=none }) (E:=E) (cd:=cd) (f:=f) (qual:=qual) S rfl ⟨a.frames,a.mod,a.bs,a.bsz,a.funs,a.frf,a.hok,a.bare⟩ hl r x
 exact⟨⟨I.ok.mod,I.ok.kind,I.ok.glob,I.ok.blt,I.ok.above,I.ok.inj,I.ok.has,I.ok.cab,(λz=>nomatch z),I.ok.frames,I.ok.stk,I.ok.exf,I.ok.bs,I.ok.bsz,I.ok.noex,I.ok.exfs,I.ok.funs,I.ok.frf⟩,I.os,I.bare,I.base,I.loc,I.cell,I.free,I.freeC,I.pin,I.hok,I.len⟩
def QY{P:Program}{w:World}{K:W.Frag}{mg:Str->Option Value}{base:Heap}{k:Nat}{f:Addr}{name qual:Str}{params:Arguments}{body:List Stmt}{scope:Scope}{dV kV i L a ct M:Value}{G Y:Option Addr}
 {B:Array (Option Value)} {N ps:List Str} {sp:Sp} (lk:K.lookup f=some ⟨M,Y,.func (W.fnOf name qual params body scope dV kV i L G a ct),B⟩) (p:W.codeIn K a qual=true) (S:ay N ps scope)
 (len:∀vs H Q E,sp vs H Q E->vs.length=ps.length)
 (d:∀(A:Around) (outer:List Env) (s:h6) (H:Hp) (vs:List V) (Q:VK) (E:XK),cT k (A.deeper (envOfC qual scope s.heap.objs.size f a))->sp vs H Q E ->
   ∃t,eg (h9 P w K mg base N qual scope f a A outer s H E) body t/\t { nx:=λ_ c=>Q .non c,rt:=Q } (cU N vs) H) :
 lX P w K mg base (k+1) f (W.fnOf name qual params body scope dV kV i L G a ct) ps sp:=by
 refine⟨len,λA outer s H args us vs Q E hr j hb r h=>?_⟩;have hl:=len _ _ _ _ h;have F:K.In s.heap:=j.mod.kin.keeps λb o e=>(j.bs b o e).1;have D:s.heap.NoLimit:=j.mod.nolimit.keeps λb o e=>(j.bs b o e).1;have g:∀y∈ps.zip us,scope.names.lookup y.1=some .local\/(scope.names.lookup y.1=some .cell/\((cellsFrom (s.heap.objs.size+1) scope.names []).lookup y.1).isSome=true):=λ⟨n,v⟩ U=>by
  rcases S.par n (Xk U).1 with q|q
  ·exact .inl q
  ·exact .inr ⟨q,W.cellsFrom_some _ _ _ (.inl q)⟩
 refine codeAny_call_function hr.depth (F _ _ lk) Z S.co S.gen Z (W.codeRec_of F p) (hb _ _ _ _ ?_);refine wpAny_newFunctionEnv_cells S.kind g λenv R s1 x=>?_;subst R;refine⟨D.keeps x.toInCall.keep,codeAny_func ?_⟩;obtain⟨t,ht,O⟩:=d A outer s H vs Q E (hr.deeper _) h;have I:af (h9 P w K mg base N qual scope f a A outer s H E) [] (cU N vs) H s1:=Dg S j hl r x;refine wpAny_mono (ht [] s1 (cU N vs) H _ I O) (λfl C hs=>?_) λe C hs=>hs;have l:∀ {m:St} {c:Hp} {v:V} {u:Value},af (h9 P w K mg base N qual scope f a A outer s H E) [] m c C->aN v u->Q v c->CE outer P w H s Q u C :=
  λ{m c v u} J z q=>⟨v,c,J.os,J.bare,J.base,J.hok,z,q⟩
 cases fl with
 | ret u =>
  obtain⟨v,m,c,J,z,q⟩:=hs;exact l J z q
 | next =>
  obtain⟨m,c,J,q⟩:=hs;exact l (v:=V.non) (u:=Value.none) J Z q
 | brk =>
  obtain⟨_,_,_,q⟩:=hs;exact False.elim q
 | cont =>
  obtain⟨_,_,_,q⟩:=hs;exact False.elim q
def aG.okH{P:Program}{w:World}{K:W.Frag}{mg:Str->Option Value}{base:Heap}{x qual:Str}{st:Stmt}{f:Addr}{e:FuncData}{N ps:List Str}{k:Nat}{sp:Sp}(F:aG K x qual st f e)(S:ay N ps (ag st))(len:∀vs H Q E,sp vs H Q E->vs.length=ps.length)
 (b:∀(a:Value) (A:Around) (outer:List Env) (s:h6) (H:Hp) (vs:List V) (Q:VK) (E:XK),cT k (A.deeper (envOfC qual (ag st) s.heap.objs.size f a))->sp vs H Q E ->
   ∃t,dH (h9 P w K mg base N qual (ag st) f a A outer s H E).nox (ax st) t/\t { nx:=λ_ g=>Q .non g,rt:=Q } (cU N vs) H):lX P w K mg base (k+1) f e ps sp:=by
 obtain⟨n,o,kV,i,l,m,a,ct,j,rfl,lk,c⟩:=F.ex;exact QY lk c S len λA outer s H vs Q E hr d=>let ⟨t,h,q⟩:=b a A outer s H vs Q E hr d;⟨t,h.h.nox,q⟩
structure E9 (P:Program) (w:World) (K:W.Frag) (mg:Str->Option Value) (base:Heap) (x:Str) (C:Addr) (k:Nat) (f:Addr) (fd:FuncData) (ps:List Str) (sp:Sp):Prop where
 g:mg x=some (.ref C)
 mkx:sL K C f
 b:ao K fd ps []
 ok:lX P w K mg base k f fd ps sp
def EX(C eh:Addr)(Es:St->XK)(σ:St):VK:=λx H=>∃e od Ch odh,x=.ref e/\H e=some (XN e C od)/\H eh=some (XO eh Ch odh)/\Es σ (.ref C) (some e) (upd H e (XO e C od (some eh)))
def GY(C eh:Addr)(sp:Sp)(Es:St->XK)(t:TA):TS:=λ_ σ H=>t σ H λvs a=>(∃Ch odh,a eh=some (XO eh Ch odh))/\vs.length<=1000/\∀e,a e=none->sp (.ref e::vs) (upd a e (XN e C none)) (λv b=>v=.non/\EX C eh Es σ (.ref e) b) E0
section
variable {X:Cx}{k j:Nat}{f C eh:Addr}{fd:FuncData}{ps:List Str}{sp:Sp}{x m:Str}{np cpos pos apos npos:Pos}{a e o:Expr}{es:List Expr}{ta:TE}{t:TA}{Es:St->XK}{kk:Nat}
def JV{b:List (Addr × Obj)}{σ:St}{H:Hp}{s:h6}{Q:VK}{us:List Value}{vs:List V}(M:sL X.K C f)(F:lX X.prog X.w X.K X.mg X.base k f fd ps sp)(hr:cT (k+1) X.A)(hb:ao X.K fd ps [])(I:af X b σ H s)(r:aA vs us)(hz:vs.length<=1000)
 (h:∀e,H e=none->sp (.ref e::vs) (upd H e (XN e C none)) (λv L=>v=.non/\Q (.ref e) L) E0):wpAny (model X.prog X.w) X.A (call (.ref C) us) (λu l=>(∃e,u=.ref e/\s.heap.get? e=none)/\EP X b σ Q u l) X.xe s:=by
 obtain⟨W,N,U,S,bs,i,sn,sub,ab,R,Y,k0,k1,k2,k3,k5,hC0,T⟩:=dm.obj I.kIn M.x;refine Am (h:=s.heap) (g:=s.gens) (d:=s.drawn) (t:=s.toks) (os:=s.os) Xt T I.kIn hC0 M.init (beq_iff_eq.mp M.fn) (λh' e m=>?_) (bA (by rw[<- r.length];omega));obtain⟨t',ht,B,p⟩:=m.there;have y:bU h' e C none .none _ _:=⟨ht,rfl,rfl,rfl,rfl,rfl,rfl⟩;have c:=I.adopt (t':=s.toks) (o:=XN e C none) m.keeps m.new (oi y);have j:=h e (I.none_of m.new);have n:aA (V.ref e::vs) (Value.ref e::us):=.cons rfl r;have hl:(Value.ref e::us++([]:List Value)).length=ps.length:=by
  have z:=n.length;rw[F.len _ _ _ _ j]at z;rw[Wv];exact z.symm
 refine wpAny_call (codeAny_mono (F.run _ X.stack _ _ ⟨Value.ref e::us,[]⟩ (Value.ref e::us) _ _ E0 (hr.make C us []) (c.env0.make C us []) (by have:=hb _ (Value.ref e::us) c.kIn hl;rwa [Wv]at this) n j) λr l a=>?_);cases r with
 | error e=>exact a.elim
 | ok fl =>
  cases fl with
  | ret u =>
   obtain⟨v,O,q,D,J,G⟩:=c.after a;subst J;exact⟨D,⟨e,Z,m.new⟩,⟨V.ref e,O,q,Z,G⟩⟩
  | next=>exact False.elim a
  | brk=>exact False.elim a
  | cont=>exact False.elim a
def Kh(F:E9 X.prog X.w X.K X.mg X.base x C j f fd ps sp)(hr:cT k X.A)(U:X.A.handled=some (.ref eh))(hx:dR X Es)(ha:QA X (a::es) t)(hj:j+1<=k:=by decide)(hg:Gl X x:=by rfl)(O:(x == ("__debug__" : Str))=false:=by decide)(hn:cu (a::es)=true:=by rfl) :
 QS X (.Raise (some (.Call (.Name x np) (a::es) [] cpos)) (some (.Constant .none kk npos)) pos) (GY C eh sp Es t):=⟨by
 intro c s σ H D I h;have ev:wpAny (model X.prog X.w) X.A (eval (.Call (.Name x np) (a::es) [] cpos) X.env) (λu s'=>(∃e,u=.ref e/\(X.ex=[]->X.s₀.heap.get? e=none)/\eh≠e/\C≠e)/\EP X c σ (EX C eh Es σ) u s') X.xe s:=by
  refine wpAny_Call_Name_kw (hG I hg F.g ?_ O);refine W.callWith_K (h₀:=X.base) I.ok.mod.kin F.mkx.kp (av (ha.h cpos c s σ H _ I h) λus s1 ⟨vs,H1,p,r,⟨Ch,B,hq⟩,hz,q⟩=>⟨p.kIn,?_⟩) (bV (bR hn).1) (dN (bR hn).2);obtain⟨⟨m,oh,vh,M⟩,_⟩:=p.hok eh _ hq;obtain⟨bm,N,nm,Y,bs,d,sn,sub,ab,G,dd,k0,k1,k2,k3,k5,hC0,T⟩:=dm.obj p.kIn F.mkx.x;exact wpAny_mono (JV F.mkx F.ok (hr.mono hj) F.b p r hz q) (λu s' ⟨⟨e,z1,z2⟩,z3⟩=>⟨⟨e,z1,λh0=>p.newx h0 z2,λz=>(by rw[<- z,M.at_]at z2;cases z2),λz=>(by rw[<- z,hC0]at z2;cases z2)⟩,z3⟩) λ_ _ z=>z
 rw[arm_exec_Raise];refine kb (wpAny_standAt (J1 U (λs₁ Q' q=>?_) ?_))
 ·exact kb (Constant_none (kb (wpAny_standAt (on q))))
 refine kb (wpAny_mono ev (λv s3 hv=>kb (wpAny_standAt (on ?_))) λ_ _ z=>z);obtain⟨⟨e0,z1,z2,z3,z4⟩,y,H2,J,ry,i,R,Ch,B,ey,h2,S,q2⟩:=hv;rw[ey]at ry;have n:v=Value.ref i:=ry;rw[n]at z1;obtain rfl:i=e0:=Value.ref.inj z1;rw[n];obtain⟨⟨oe,vs,xa⟩,_⟩:=J.hok i _ h2;obtain⟨⟨m,oh,vh,M⟩,_⟩:=J.hok eh _ S;obtain⟨bm,N,nm,Y,bs,d,sn,sub,ab,G,dd,k0,k1,k2,k3,k5,hC0,T⟩:=dm.obj J.kIn F.mkx.x;refine⟨i,C,R,oe,vs,nm,Y,N,bs,bm,d,sn,sub,ab,G,dd,k0,k1,k2,k3,k5,_,Z,xa,hC0,T.hasType Xt.hasBase,⟨Ch,B,m,oh,vh,M⟩,z3,z4,λh' kp xn=>?_⟩;obtain⟨V,L,l⟩:=xn;have I3:=af.write (t':=s3.toks) (x:=i) (e:=i) (h':=h') (o:=XO i C R (some eh)) J (by rw[h2];trivial) (.inl rfl) kp ⟨_,l.at_⟩ (sX l);exact hx.up c _ _ ⟨σ,_,i,C,R,some eh,.none,V,L,rfl,I3,az,l,.inl rfl,λT z=>(by cases z),z2,q2⟩⟩
end
def AD(K:W.Frag)(c:Value)(tb:(St->XK)->TS)(a:Addr->TS):TS:=λD σ H=>∃Eb:St->XK,tb Eb D σ H/\∀σ' C e od qq H',Eb σ' (.ref C) (some e) H'->H' e=some (XO e C od qq)->W.exmOne K (.ref C) c=some true/\a e D σ' H'
def NP{X:Cx}{e:Addr}{Es:St->XK}(hx:dR X Es)(hd:X.calm=true->X.A.handled=none):dR (X.hand e X.xe) Es:=⟨by
 rintro a v l ⟨f,d,e',C,k,h,b,i,vs,g,m,c,x,ht,hT,j,q⟩;exact hx.up a v l ⟨f,d,e',C,k,h,b,i,vs,g,m.unhand hd,c,x,ht,hT,j,q⟩⟩
section
variable {X:Cx}{y:Str}{np hpos pos:Pos}{body suite:List Stmt}{b₀:Stmt}{Cy:Addr}{tb:(St->XK)->TS}{th:Addr->TS}{Es:St->XK}
def Kg(hst:X.stack=X.env::X.outer/\X.env.frame=some X.env.locals)(hm:X.mg y=some (.ref Cy))(hE:∀e:Addr,PassesOwnAt (model X.prog X.w) (X.A.mark (some (.ref e))) X.A X.env X.xe)(hx:dR X Es)
 (hb:∀pn W Eb,dR (X.tryc pn W) Eb->dH (X.tryc pn W) body (tb Eb)) (hh:∀e,dR (X.hand e X.xe) Es->dH (X.hand e X.xe) (b₀::suite) (th e))
 (hg:Gl X y:=by rfl) (hd:(y == ("__debug__" : Str))=false:=by decide):QS X (.Try body [.ExceptHandler (some (.Name y np)) none (b₀::suite) hpos] [] [] pos) (AD X.K (.ref Cy) tb th):=⟨by
 intro a s σ H D I h;obtain⟨Eb,h1,h2⟩:=h;have L:dR (X.tryc (X.pn++a) (sP X a Eb)) Eb:=⟨by
  rintro a9 v s' ⟨O,j,e,C,od,qq,a3,oe,vs,hv,I',hx,x,ht,hT,he,q⟩;exact⟨O,j,e,C,od,qq,a3,oe,vs,hv,I'.untry,hx,x,ht,λT z=>⟨(hT T z).1,(hT T z).2.1,λp hp=>(hT T z).2.2 p (WQ _ hp)⟩,he,q⟩⟩
 refine wpAny_Try_except (wpAny_mono ((hb _ _ Eb L).h [] s σ H D I.tryc h1) (λf s1 q=>?_) λv s1 q=>?_)
 ·cases f with
  | next=>obtain⟨O,j,I',q⟩:=q;exact wpAny_execs_nil ⟨O,j,I'.untry,q⟩
  | brk=>exact SP.untry (f:=.brk) q
  | cont=>exact SP.untry (f:=.cont) q
  | ret u=>exact SP.untry (f:=.ret u) q
 ·obtain⟨O,j,e,C,od,qq,a3,oe,vs,rfl,Y,a1,x,ht,hT,he,q⟩:=q;obtain⟨al,aa⟩:=h2 O C e od qq j q a1;have ab:X.A.frames=some (X.env::X.outer):=by rw[<- hst.1];exact Y.ok.frames
  have aj:s1.heap.FunFrames X.base (X.env::X.outer):=by rw[<- hst.1];exact Y.stack
  refine Cr (base:=X.base) ab aj hst.2 x ht λaG k U=>?_;rw[<- hst.1]at U;have I2:=Y.noted a1 ht hT U;obtain⟨a8,ay,x1⟩:=U.exc;have V:X.s₀.heap.objs.size<=k:=Wq Y.sz U.new;have d:j k=none:=by
   cases z:j k with
   | none=>rfl
   | some o =>
    obtain⟨u,w⟩:=bw.there (Y.hok k o z);exact YC (V6 (V7 w) U.new) (Wz _)
  have N:∀p∈X.pn++a,p.1≠k:=λp hp z=>YC (V6 (V7 (Y.pin p hp).1) U.new) (by rw[z];exact Wz _);have r:∀ {M:Model} {A:Around} {Ex:Value->h6->Prop} {fl:Value} {l:h6} {B:Obj} {G:Array Value} {Q:Unit->h6->Prop},af X a O j l->bU l.heap e C od (.ref k) B G qq->iC l.heap e k fl ->
   (∀S,af X a O j S->bU S.heap e C od (.ref k) B G qq->iC S.heap e k .none->Q () S)->wpAny M A (setFlight (.ref e) none) Q Ex l:=λ{M A Ex fl l B G Q} J y t kk=>by
   refine Da y t λh3 sz k3 t3 y3 e3=>kk { l with heap:=h3 } ?_ y3 e3;have ai:bz X.prog X.w j h3:=λb o z=>by
    refine (J.hok b o z).stay (λc u hc w=>k3 c u w λv=>?_) (λ_ q=>q) λ_ _ q=>q;rcases hc with rfl|hc
    ·rw[v,d]at z;cases z
    ·rw[v,d]at hc;cases hc
   refine J.call (g':=l.gens) (d':=l.drawn) (t':=l.toks) (ch:=[k]) ⟨λb o z n m c=>k3 b o z (by simpa using c),λb o z n m c=>⟨o.slots,k3 b o z (by simpa using c)⟩,λ_ _ _ n _=>n,λb o z _=>t3 b o z,λ_ _ z=>z,λ_ _ _ z=>z,λb ps z=>⟨#[],by rw[z];simp⟩⟩ ai J.bare λb a7=>?_;have eb:b=k:=by simpa using a7
   subst eb;obtain⟨g1,g2⟩:=J.noTb t;exact⟨.inr V,g1,g2,N⟩
  refine r I2 x1 U.ent λS I3 x3 t3=>?_;refine wpAny_handleBy_cons (codeAny_handlers_test ?_) (by intro z;cases z);refine hG (X:=X.hand e λ_ _=>False) I3.hand hg hm ?_ hd;have LT:W.Looks (model X.prog X.w) S.heap (typeOf (.ref e)) (.ref C):=by
   have z:W.Looks (model X.prog X.w) S.heap (typeOf (.ref e)) a8.cls:=(W.Looks.ld x3.at_).andThen .now;rw[x3.cls]at z;exact z
  refine (W.exm_one I3.kIn LT al) _ _ _ _ (λb o w=>w) ?_;refine codeAny_handlers_suite (r I3 x3 t3 λs4 I4 x4 t4=>?_);have i:=I.ok.hd;refine wpAny_mono ((hh e (NP hx i)).h a s4 _ j _ (I4.hand (e:=e)) aa) (λf s6 g=>?_) λv s6 z=>hE e v s6 z;cases f with
  | next=>obtain⟨σ6,R,F,g⟩:=g;exact⟨_,R,F.unhand i,g⟩
  | brk=>obtain⟨σ6,R,F,g⟩:=g;exact⟨_,R,F.unhand i,g⟩
  | cont=>obtain⟨σ6,R,F,g⟩:=g;exact⟨_,R,F.unhand i,g⟩
  | ret u=>obtain⟨v,σ6,R,F,r6,g⟩:=g;exact⟨v,_,R,F.unhand i,r6,g⟩⟩
def tU{K:W.Frag}(h:X.K=K)(hst:X.stack=X.env::X.outer/\X.env.frame=some X.env.locals)(hm:X.mg y=some (.ref Cy))(hE:∀e:Addr,PassesOwnAt (model X.prog X.w) (X.A.mark (some (.ref e))) X.A X.env X.xe)(hx:dR X Es)
 (hb:∀pn W Eb,dR (X.tryc pn W) Eb->dH (X.tryc pn W) body (tb Eb)) (c:∀e,dR (X.hand e X.xe) Es->dH (X.hand e X.xe) (b::suite) (th e))
 (a:Gl X y:=by rfl) (hd:(y == ("__debug__" : Str))=false:=by decide):QS X (.Try body [.ExceptHandler (some (.Name y np)) none (b::suite) hpos] [] [] pos) (AD K (.ref Cy) tb th):=by subst h;exact Kg hst hm hE hx hb c a hd
end
section
variable {X:Cx}{k j:Nat}{f C:Addr}{fd:FuncData}{ps:List Str}{sp:Sp}{x m:Str}{p pos:Pos}{e:Expr}{es:List Expr}{t:TA}{dvs:List V}{ds:List Value}{Es:St->XK}
structure VM (P:Program) (w:World) (K:W.Frag) (mg:Str->Option Value) (base:Heap) (x:Str) (k:Nat) (f:Addr) (fd:FuncData) (ps:List Str) (sp:Sp):Prop where
 g:mg x=some (.ref f)
 kp:W.keepIn K (.ref f)=true
 b:ao K fd ps []
 ok:lX P w K mg base k f fd ps sp
end
section
variable {X:Cx}{K:W.Frag}{o i value:Expr}{td ty tv:TE}{pos pos':Pos}
def QQ:R2:=λy x H Q=>∃a ov,x=.ref a/\cI H a y ov/\Q (.bl (!ov.isSome)) H
def DT(h:X.A.units+64<cLine):aV X (compareOp .NotIn) QQ:=by
 intro b s σ H x y v u Q I e f q;obtain⟨a,c,rfl,g,q⟩:=q;obtain rfl:u=Value.ref a:=f;exact Rl (by omega) I g e λi d=>⟨.bl (!c.isSome),H,d,rfl,q⟩
def tV(c:X.A.units+64<cLine)(b:QE X o td)(a:QE X i ty)(hs:sK i:=by intro _ _;rfl):QE X (.Subscript o i pos) (AV td ty):=⟨Lz (by omega) b.h a.h hs⟩
def o0(d:X.A.units+64<cLine)(b:QE X o td)(a:QE X i ty)(c:QE X value tv)(hs:swapsWith value (some (.Subscript o i pos')) pos.line X.env=pure false:=by rfl):QS X (.Assign [.Subscript o i pos'] value pos) (BL td ty tv):=⟨KW (by omega) b.h a.h c.h hs⟩
end
section
variable {X:Cx}{K:W.Frag}{k j:Nat}{f C:Addr}{fd:FuncData}{ps:List Str}{sp:Sp}{x m:Str}{p pos apos pos' tpos:Pos}{e o value:Expr}{es:List Expr}{ta tv:TE}{t:TA}
def B4{f:Str}(h:X.K=K)(a:QE X o ta)(b:QE X value tv):QS X (.AugAssign (.Attribute o f tpos) .Add value pos) (BJ K ta tv BU f):=by subst h;exact⟨KR a.h b.h Ob⟩
structure VI (P:Program) (w:World) (K:W.Frag) (mg:Str->Option Value) (base:Heap) (C:Addr) (m:Str) (k:Nat) (f:Addr) (fd:FuncData) (ps:List Str) (sp:Sp):Prop where
 c:cA K C
 mt:aW K C m f
 b:ao K fd ps []
 ok:lX P w K mg base k f fd ps sp
def uo{X:Cx}:dR X (λ_=>E0):=⟨by
 rintro a v k ⟨e,d,e',C,j,g,b,h,vs,f,l,c,x,ht,hT,i,q⟩;exact q.elim⟩
end
section
variable {X:Cx}{K:W.Frag}
def QV:R2:=λy x H Q=>∃a ov,x=.ref a/\cI H a y ov/\Q (.bl ov.isSome) H
def pV(h:X.A.units+64<cLine):aV X (compareOp .In) QV:=by
 intro b s σ H x y v u Q I e f q;obtain⟨a,c,rfl,g,q⟩:=q;obtain rfl:u=Value.ref a:=f;exact Rm (by omega) I g e λi d=>⟨.bl c.isSome,H,d,rfl,q⟩
end
section
open HT
variable {prog:Program}{w:World}{A:Around}{E:Value->h6->Prop}{s:h6}
def Pu{t d:Addr}{items:Array Value}{g f:Value}{lo b:Option Int}{Q:Value->h6->Prop}(ht:IsTup s.heap t items)(hs:s.heap.IsSliceOf d g f .none)(pl:IsPart g lo)(j:IsPart f b)
 (hw:sIx items.size 0 lo=0/\sIx items.size items.size b=items.size) (h:Q (.ref t) s):wpAny (model prog w) A (getItem (.ref t) (.ref d)) Q E s:=by
 obtain⟨os,e,c,i⟩:=id hs;have hTs:s.TypeIs (.ref d) "slice":=⟨os,e,c⟩;unfold getItem
 try with_reducible refine wpAny_holding ?_
 first|refine kb (on ?_)|skip
 refine kb (wpAny_sequenceKey ht.typeIs (by decide) ?_);refine kb (wpAny_callSpecial?_slot (name:=Str.ofString "__getitem__") ht.typeIs W9
  (wpAny_call_entry W9 ht.typeIs entry_tuple_getitem ?_ (args_tuple_getitem _ _)))
 show wpAny _ _ (Builtin.Tuple.tupleItemsOf (.ref t) >>= _) _ _ s;refine kb (tupleItemsOf_ ht ?_);refine kb (wpAny_typeOf hTs ?_);rw[YB (by decide)];refine kb (Bl hs pl j ?_);have a:((((sIx items.size 0 lo:Nat):Int) == 0 && (1:Int) == 1 && (sIx items.size items.size b-sIx items.size 0 lo) == items.size)=true):=by
  rw[hw.1,hw.2];simp
 show wpAny _ _ (if (((sIx items.size 0 lo:Nat):Int) == 0 && (1:Int) == 1 && (sIx items.size items.size b-sIx items.size 0 lo) == items.size)=true then _ else _) _ _ s;rw[YB a];unfold Builtin.Tuple.tupleIsExact;refine kb (kb (wpAny_typeOf ht.typeIs (on ?_)));rw[YB (by decide)];refine kb (wpAny_rule ?_)
 first
  | exact on ⟨_,rfl,on h⟩
  | exact kb (on ⟨_,rfl,on h⟩)
  | exact kb (on (on ⟨_,rfl,on h⟩))
end
section
variable {X:Cx}{K:W.Frag}{pos:Pos}
def NI:TE:=λ_ H Q=>∀p H',bi H p (.dT []) H'->Q (.ref p) H'
def B2:QE X (.Dict [] [] pos) NI:=⟨Lw.imp λσ H Q q=>λp a=>q p _ (.mk' a)⟩
def DW(K:W.Frag):V->Option Int->Option Int->Hp->VK->Prop:=λx lo b H Q=>match x with
 | .ref a=>∃xs,be K H a xs/\H a=some (.tup xs)/\∀p H',ah H H'->H' p=some (.tup (cX xs lo b))->Q (.ref p) H'
 | _=>False
def Qd:iD X (DW X.K):=by
 intro c s σ H x v k j lo f l Q I h hs pl e q;cases x with
 | ref a =>
  obtain⟨xs,i,m,q⟩:=q;by_cases hw:HT.sIx xs.length 0 lo=0/\HT.sIx xs.length xs.length f=xs.length
  ·cases h;obtain⟨d,r,ht,hz⟩:=I.tuple i;have b:d.toArray.size=xs.length:=by rw[Wd];exact r.length.symm
   refine⟨"tuple",_,W9.lookup,ht.typeIs,?_⟩;refine Pu ht hs pl e (by rw[b];exact hw) ?_;refine⟨.ref a,H,I,Z,q a H (ah.refl _) ?_⟩;rw[m];unfold cX;rw[hw.1,hw.2,List.drop_zero,Xb (by omega)]
  ·exact IF c s σ H _ v k j lo f l Q I h hs pl e ⟨a,xs,Z,i,hw,λp g=>q p _ (bi.mk' g).sm (bi.mk' g).at_⟩
 | _=>exact False.elim q
def DR(h:X.K=K):iD X (DW K):=by subst h;exact Qd
end
section
variable {prog:Program}{w:World}{A:Around}{E:Value->h6->Prop}{s:h6}
structure ii (h:Heap) (eh c:Addr):Prop where
 a:∃C od tb oe vs,bU h eh C od tb oe vs (some c)
 b:∃C od tb oe vs,bU h c C od tb oe vs
def ii.ne{h:Heap}{eh c:Addr}(x:ii h eh c):c≠eh:=λz=>by
 obtain⟨⟨C,j,tb,i,vs,x⟩,⟨g,d,a,f,b,y⟩⟩:=x;subst z;have e:=x.at_.symm.trans y.at_;cases e;have e:=x.data.symm.trans y.data;cases e;have:=x.cx.symm.trans y.cx;cases this
def ii.keeps{h h':Heap}{eh c:Addr}(x:ii h eh c)(k:∀b o,b=eh\/b=c->h.get? b=some o->h'.get? b=some o):ii h' eh c:=by
 obtain⟨⟨C,j,tb,i,vs,x⟩,⟨g,e,a,f,d,y⟩⟩:=x
 exact⟨⟨C,j,tb,i,vs,x.keeps λo=>k _ o (.inl Z)⟩,⟨g,e,a,f,d,y.keeps λo=>k _ o (.inr Z)⟩⟩
def J3{α:Type}{e eh c:Addr}{b:Obj}{vs:Array Value}{Q:α->h6->Prop}(g:A.handled=some (.ref eh))(hx:ii s.heap eh c)(ne:eh≠e)(d:c≠e)
 (k:s.heap.get? e=some b) (hd:b.data=.fields vs) (hs:vs.size=6)
 (h:E (.ref e) { s with heap:=s.heap.update e (Obj.mapFields (·.setIfInBounds 2 (.ref eh))) }):wpAny (model prog w) A (raiseNew (.ref e):Sem α) Q E s:=by
 have a:=hx.ne;obtain⟨⟨C,u,tb,p,v,x⟩,⟨q,l,j,r,o,y⟩⟩:=hx;unfold raiseNew;refine kb (wpAny_handled ?_);rw[g];dsimp only;have n:((Value.ref eh != Value.ref e)=true):=by simp[ne]
 rw[YB n];refine kb (wpAny_holding ?_);refine wpAny_runValue (codeAny_builtin wJ ?_);unfold Builtin.«proto.unchain»;refine kb (wpAny_field x.at_ x.data x.cx ?_);have m:((some c).elim Value.none Value.ref == Value.none)=false:=rfl;have i:((some c).elim Value.none Value.ref == Value.ref e)=false:=by show (Value.ref c == Value.ref e)=false;simp[d]
 have f:((some c).elim Value.none Value.ref == Value.ref eh)=false:=by show (Value.ref c == Value.ref eh)=false;simp[a]
 rw[m,i,f,YA Wk,YA Wk,YA Wk,YA Wk];refine kb (on ?_);refine on ?_;refine⟨Code.quiet_builtin _ (by decide +kernel),codeAny_builtin wJ ?_⟩;unfold Builtin.«proto.unchain»;refine kb (wpAny_field y.at_ y.data y.cx ?_);rw[YB (by decide)];refine on ?_;exact kb (show wpAny _ _ (setField (.ref e) 2 (.ref eh)) _ _ _ from wpAny_setField k hd (by rw[hs];decide) (wpAny_throw h))
def Mp{it l eh c:Addr}{i:Nat}{items}{Q:Value->h6->Prop}(r:A.handled=some (.ref eh))(d:ii s.heap eh c)(D:eh≠it)(z:c≠it)
 (g:s.heap.IsListIter it l i) (hl:s.heap.IsList l items) (hx:items[i]? = none)
 (hE:∀h' e,Heap.ExtBut it s.heap h'->(∃o,h'.get? e=some o/\o.cls=.type "StopIteration")->E (.ref e) { s with heap:=h' }) :
 wpAny (model prog w) A (Builtin.SmallTypes.nextOf (.ref it)) Q E s:=by
 obtain⟨o,k,B,hd⟩:=id g;obtain⟨y,n,_,C,j⟩:=hl;unfold Builtin.SmallTypes.nextOf;refine kb (wpAny_callSpecial?_slot (name:=Str.ofString "__next__") g.typeIs slot_listiter_next
  (wpAny_call_entry slot_listiter_next g.typeIs entry_listiter_next ?_ (args_listiter_next _)))
 show wpAny _ _ (field (.ref it) 0 >>= _) _ _ s;refine kb (wpAny_field k hd (x:=.ref l) Z ?_);show wpAny _ _ (if (Value.ref l == Value.none)=true then _ else _) _ _ s;rw[YA (show ¬((Value.ref l == Value.none)=true) from Wk)];show wpAny _ _ (field (.ref it) 1 >>= _) _ _ s;refine kb (wpAny_field k hd (x:=.int i 0) Z ?_);show wpAny _ _ (seqItems? (.ref l) >>= _) _ _ s;refine kb (wpAny_seqItems n j ?_);simp only [Xa,hx];refine kb (wpAny_rule (kb (wpAny_setField k hd (by simp) ?_)));show wpAny _ _ (newExc (.type "StopIteration") [] >>= _) _ _ _;refine kb ?_;simp only [newExc,newTuple];refine kb (wpAny_newObj_type ?_ (by size_fits));refine kb (m:=firstArgMember _ _) (wpAny_of_eq (a:=Value.none) (by first|rfl|(simp only [firstArgMember];rfl)) ?_);refine wpAny_newObj_type ?_ (by size_fits);have h:eh<s.heap.objs.size:=by obtain⟨_,_,_,_,_,x⟩:=d.a;exact V7 x.at_
 have p:c<s.heap.objs.size:=by obtain⟨_,_,_,_,_,x⟩:=d.b;exact V7 x.at_
 have kp:∀(f:Obj->Obj) (u v:Obj) b o,b≠it->s.heap.get? b=some o->(((s.heap.update it f).push u).push v).get? b=some o:=λf u v b o nb q=>V9 _ (V9 _ ((WF _ _ (Ne.symm nb)).trans q));have sz:∀(f:Obj->Obj) (u:Obj) b,b<s.heap.objs.size->b≠((s.heap.update it f).push u).objs.size:=λf u b hb=>by
  rw[WZ,Xs];exact Wc (Nat.lt_succ_of_lt hb)
 refine J3 (A:=A.in1) (c:=c) r (d.keeps λb o hb q=>kp _ _ _ b o (by rcases hb with rfl|rfl<;>assumption) q) (sz _ _ _ h) (sz _ _ _ p) (Ws _ rfl) rfl rfl ?_;refine hE _ _ (λb o nb q=>?_) ⟨_,WL _ (Ws _ Z) Z,Z⟩;exact (WF _ _ (Ne.symm (sz _ _ b (V7 q)))).trans (kp _ _ _ b o nb q)
def Mo{e it l eh c:Addr}{i:Nat}{items:Array Value}{a:Value}{Q:Option Value->h6->Prop}(k:A.handled=some (.ref eh))(d:ii s.heap eh c)(q:eh≠it)(n:c≠it)
 (j:IsEnum s.heap e it i a) (h:s.heap.IsListIter it l i) (hl:s.heap.IsList l items) (hx:items[i]? = none)
 (hQ:∀h',Heap.ExtBut it s.heap h'->Q none { s with heap:=h' }):wpAny (model prog w) A (pyNext (.ref e)) Q E s:=by
 have hT:s.TypeIs (.ref e) "enumerate":=⟨_,j,rfl⟩;unfold pyNext;refine kb (wpAny_attempt (wpAny_callSpecial?_slot (name:=Str.ofString "__next__") hT Ys
  (wpAny_call_entry Ys hT PySem.F.entry_enumerate_next ?_ (PySem.F.args_enumerate_next_1 _))))
 show wpAny _ _ (field (.ref e) 2 >>= _) _ _ _;refine kb (wpAny_field j Z (x:=.ref it) Z ?_);refine kb (Mp (A:=A.in1) k d q n h hl hx λh' x g f=>?_);obtain⟨o,m,p⟩:=f;refine kb (wpAny_isInstance (T := "StopIteration") (b:=true) ⟨o,m,p⟩ isSubtype_stop ?_);exact on (hQ _ g)
end
def G1(A:Around)(K:W.Frag)(b:TA):TS:=λD σ H=>b σ H λvs a=>∃l eh C od c C' od',vs=[.ref l]/\aI K a l []/\A.handled=some (.ref eh)/\a eh=some (XO eh C od (some c))/\a c=some (XO c C' od')/\D.nx σ a
def Kw {X:Cx} {K:W.Frag} {a tg:Expr} {body:List Stmt} {O:TA} {p pos d:Pos} (h:X.K=K) (hp:PassesOwn (model X.prog X.w) X.A X.env X.xe) (Y:Gl X "enumerate") (hm:X.mg "enumerate" = none) (V:QA X [a] O) (B:dj a=false:=by rfl)
 (hs:∀x,foldedSetIterable (.Call (.Name "enumerate" p) [a] [] d) X.env x=pure x:=by intro _;rfl):QS X (.For tg (.Call (.Name "enumerate" p) [a] [] d) body [] pos) (G1 X.A K O):=by
 subst h;refine⟨?_⟩;intro f s σ H D I h;refine wpAny_For (Call_ (gk I Y hm boot_enumerate (WT (av (V.h d f s σ H _ I h) λus s1 ⟨vs,H1,g,r1,q1⟩=>?_) (bV B) Z))) hs;obtain⟨l,eh,C,od,c,C',L,e,hq,hA,x1,x2,q⟩:=q1;subst e;cases r1 with
 | cons r rr =>
  cases rr;cases r;obtain⟨J,N,pl,hz⟩:=g.list hq;have hl:=N.length;refine call_enumerate_list pl.isList λh' S F hsz j=>?_;refine wpAny_pyIter_enum (s:={ s1 with heap:=h' }) S ?_;have v:ii s1.heap eh c:=by
   obtain⟨⟨tb,oe,vs,y⟩,_⟩:=g.hok eh _ x1;obtain⟨⟨m,M,i,U⟩,_⟩:=g.hok c _ x2
   exact⟨⟨C,od,tb,oe,vs,y⟩,⟨C',L,m,M,i,U⟩⟩
  have G:eh<s1.heap.objs.size:=by obtain⟨_,_,_,_,_,x⟩:=v.a;exact V7 x.at_
  have k:c<s1.heap.objs.size:=by obtain⟨_,_,_,_,_,x⟩:=v.b;exact V7 x.at_
  refine codeAny_forLoop_any (λn R=>R = { s1 with heap:=h' }) ?_ 0 rfl;intro n R es;subst es;refine wpAny_passesOwn hp (Mo hA (v.keeps λb o _ z=>j b o z) (Wc G) (Wc k) S F (items:=J.toArray) ?_ ?_ λh2 eb=>?_)
  ·obtain⟨o,ho,r⟩:=pl.isList;exact⟨o,j _ _ ho,r⟩
  ·cases N
   rfl
  ·refine wpAny_execs_nil ⟨σ,H1,?_,q⟩;exact g.kept (t':=s1.toks) λb u z=>eb b u (Wc (V7 z)) (j b u z)
structure sO (eh:Addr) (P:Program) (w:World) (K:W.Frag) (mg:Str->Option Value) (base:Heap) (k:Nat) (f:Addr) (fd:FuncData) (ps:List Str) (sp:Sp):Prop where
 len:∀vs H Q E,sp vs H Q E->vs.length=ps.length
 run:∀(A:Around) (outer:List Env) (s:h6) (H:Hp) (args:Args) (us:List Value) (vs:List V) (Q:VK) (E:XK),A.handled=some (.ref eh)->cT k A->gH P w K mg base A outer s H->BindsTo s fd args (ps.zip us)->aA vs us->sp vs H Q E ->
  codeAny (model P w) A (.call (.ref f) args) (CR bD outer P w H s Q E) s
def QZ{P:Program}{w:World}{K:W.Frag}{mg:Str->Option Value}{base:Heap}{k:Nat}{f:Addr}{name qual:Str}{params:Arguments}{body:List Stmt}{scope:Scope}{dV kV i L a ct M:Value}{G Y:Option Addr}
 {B:Array (Option Value)} {N ps:List Str} {sp:Sp} {eh:Addr} (lk:K.lookup f=some ⟨M,Y,.func (W.fnOf name qual params body scope dV kV i L G a ct),B⟩) (p:W.codeIn K a qual=true) (S:ay N ps scope)
 (len:∀vs H Q E,sp vs H Q E->vs.length=ps.length)
 (d:∀(A:Around) (outer:List Env) (s:h6) (H:Hp) (vs:List V) (Q:VK) (E:XK),A.handled=some (.ref eh)->cT k (A.deeper (envOfC qual scope s.heap.objs.size f a))->sp vs H Q E ->
   ∃t,eg (h9 P w K mg base N qual scope f a A outer s H E) body t/\t { nx:=λ_ c=>Q .non c,rt:=Q } (cU N vs) H) :
 sO eh P w K mg base (k+1) f (W.fnOf name qual params body scope dV kV i L G a ct) ps sp:=by
 refine⟨len,λA outer s H args us vs Q E hA hr j hb r h=>?_⟩;have hl:=len _ _ _ _ h;have F:K.In s.heap:=j.mod.kin.keeps λb o e=>(j.bs b o e).1;have D:s.heap.NoLimit:=j.mod.nolimit.keeps λb o e=>(j.bs b o e).1;have g:∀y∈ps.zip us,scope.names.lookup y.1=some .local\/(scope.names.lookup y.1=some .cell/\((cellsFrom (s.heap.objs.size+1) scope.names []).lookup y.1).isSome=true):=λ⟨n,v⟩ U=>by
  rcases S.par n (Xk U).1 with q|q
  ·exact .inl q
  ·exact .inr ⟨q,W.cellsFrom_some _ _ _ (.inl q)⟩
 refine codeAny_call_function hr.depth (F _ _ lk) Z S.co S.gen Z (W.codeRec_of F p) (hb _ _ _ _ ?_);refine wpAny_newFunctionEnv_cells S.kind g λenv R s1 x=>?_;subst R;refine⟨D.keeps x.toInCall.keep,codeAny_func ?_⟩;obtain⟨t,ht,O⟩:=d A outer s H vs Q E hA (hr.deeper _) h;have I:af (h9 P w K mg base N qual scope f a A outer s H E) [] (cU N vs) H s1:=Dg S j hl r x;refine wpAny_mono (ht [] s1 (cU N vs) H _ I O) (λfl C hs=>?_) λe C hs=>hs;have l:∀ {m:St} {c:Hp} {v:V} {u:Value},af (h9 P w K mg base N qual scope f a A outer s H E) [] m c C->aN v u->Q v c->CE outer P w H s Q u C :=
  λ{m c v u} J z q=>⟨v,c,J.os,J.bare,J.base,J.hok,z,q⟩
 cases fl with
 | ret u =>
  obtain⟨v,m,c,J,z,q⟩:=hs;exact l J z q
 | next =>
  obtain⟨m,c,J,q⟩:=hs;exact l (v:=V.non) (u:=Value.none) J Z q
 | brk =>
  obtain⟨_,_,_,q⟩:=hs;exact False.elim q
 | cont =>
  obtain⟨_,_,_,q⟩:=hs;exact False.elim q
def aG.okE{P:Program}{w:World}{K:W.Frag}{mg:Str->Option Value}{base:Heap}{x qual:Str}{st:Stmt}{f:Addr}{e:FuncData}{N ps:List Str}{k:Nat}{sp:Sp}{eh:Addr}(F:aG K x qual st f e)(S:ay N ps (ag st))(len:∀vs H Q E,sp vs H Q E->vs.length=ps.length)
 (b:∀(a:Value) (A:Around) (outer:List Env) (s:h6) (H:Hp) (vs:List V) (Q:VK) (E:XK),A.handled=some (.ref eh)->cT k (A.deeper (envOfC qual (ag st) s.heap.objs.size f a))->sp vs H Q E ->
   ∃t,dH (h9 P w K mg base N qual (ag st) f a A outer s H E).nox (ax st) t/\t { nx:=λ_ g=>Q .non g,rt:=Q } (cU N vs) H):sO eh P w K mg base (k+1) f e ps sp:=by
 obtain⟨n,o,kV,i,l,m,a,ct,j,rfl,lk,c⟩:=F.ex;exact QZ lk c S len λA outer s H vs Q E hA hr d=>let ⟨t,h,q⟩:=b a A outer s H vs Q E hA hr d;⟨t,h.h.nox,q⟩
structure Fa (eh:Addr) (P:Program) (w:World) (K:W.Frag) (mg:Str->Option Value) (base:Heap) (x:Str) (k:Nat) (f:Addr) (fd:FuncData) (ps:List Str) (sp:Sp):Prop where
 g:mg x=some (.ref f)
 kp:W.keepIn K (.ref f)=true
 b:ao K fd ps []
 ok:sO eh P w K mg base k f fd ps sp
structure E7 (eh:Addr) (P:Program) (w:World) (K:W.Frag) (mg:Str->Option Value) (base:Heap) (C:Addr) (m:Str) (k:Nat) (f:Addr) (fd:FuncData) (ps:List Str) (sp:Sp):Prop where
 c:cA K C
 mt:aW K C m f
 b:ao K fd ps []
 ok:sO eh P w K mg base k f fd ps sp
section
variable {X:Cx}{K:W.Frag}{k j:Nat}{f C eh:Addr}{fd:FuncData}{ps:List Str}{sp:Sp}{x m:Str}{p pos apos pos' tpos:Pos}{e o value:Expr}{es:List Expr}{ta tv:TE}{t:TA}
def Kr{pl:Sem Bool}(F:E7 eh X.prog X.w X.K X.mg X.base C m j f fd ps sp)(hA:X.A.handled=some (.ref eh))(hr:cT k X.A)(G:QE X o ta)(D:QA X (e::es) t)(B:j<=k:=by decide)(z:cu (e::es)=true:=by rfl)
 (ht:eval (.Call (.Attribute o m apos) (e::es) [] pos) X.env=(do
   let ov <- eval o X.env
   standAt apos.atName
   let (f,first) <- holding [ov] (getMethod ov m pl)
   callWith pos f first (backTo pos (starEach (e::es) X.env)) (backToKw pos (keywordEach [] X.env))):=by rfl) :
 QE X (.Call (.Attribute o m apos) (e::es) [] pos) (jm C m sp [] E0 ta t):=⟨by
 intro d s σ H Q I h;refine W.methodCall_KW (pl:=pl) (av (G.h d s σ H _ I h) λu s1 ⟨x,N,n,M,a,dx,fs,ex,L,l,q⟩=>?_) ht;subst ex;obtain rfl:u=Value.ref a:=M;refine pU n L F.c F.mt l ?_;refine W.callWith_K (first:=[.ref a]) (h₀:=X.base) I.ok.mod.kin F.mt.kp (av (D.h pos d s1 σ N _ n q) λus v ⟨vs,J,i,r,p⟩=>⟨i.kIn,?_⟩) (bV (bR z).1) (dN (bR z).2);have y:aA (.ref a::vs++[]) (.ref a::us++[]):=aA.append (.cons rfl r) .nil;refine wpAny_call (codeAny_mono (F.ok.run X.A X.stack v J ⟨.ref a::us,[]⟩ (.ref a::us++[]) (.ref a::vs++[]) Q E0 hA (hr.mono B) i.env0 (F.b v (.ref a::us) i.kIn (by rw[<- y.length];exact F.ok.len _ _ _ _ p)) y p) λr O g=>?_);cases r with
 | error e=>exact g.elim
 | ok fl =>
  cases fl with
  | ret u=>exact i.after g
  | next=>exact g.elim
  | brk=>exact g.elim
  | cont=>exact g.elim⟩
def Kz(F:Fa eh X.prog X.w X.K X.mg X.base x j f fd ps sp)(hA:X.A.handled=some (.ref eh))(hr:cT k X.A)(o:QA X (e::es) t)(n:j<=k:=by decide)(v:Gl X x:=by rfl)
 (i:(x == ("__debug__" : Str))=false:=by decide) (m:cu (e::es)=true:=by rfl):QE X (.Call (.Name x p) (e::es) [] pos) (jn sp [] E0 t):=⟨by
 intro c s σ H Q I h;refine wpAny_Call_Name_kw (hG I v F.g ?_ i);refine W.callWith_K (h₀:=X.base) I.ok.mod.kin F.kp (av (o.h pos c s σ H _ I h) λus s1 ⟨vs,y,d,r,q⟩=>⟨d.kIn,?_⟩) (bV (bR m).1) (dN (bR m).2);have l:aA (vs++[]) (us++[]):=r.append .nil;refine wpAny_call (codeAny_mono (F.ok.run X.A X.stack s1 y ⟨us,[]⟩ (us++[]) (vs++[]) Q E0 hA (hr.mono n) d.env0 (F.b s1 us d.kIn (by rw[<- l.length];exact F.ok.len _ _ _ _ q)) l q) λr z a=>?_);cases r with
 | error e=>exact a.elim
 | ok fl =>
  cases fl with
  | ret u=>exact d.after a
  | next=>exact a.elim
  | brk=>exact a.elim
  | cont=>exact a.elim⟩
end
structure E4 (K:W.Frag) (Y f:Addr):Prop where
 sp:W.specialIn K (.ref Y) "__getattribute__" = some (some (.builtin "type.__getattribute__"))
 rd:W.readsIn K Y (.type "type")=true
 fc:W.findCls K (.ref Y) (.type "type") "__init__" = some (.val (.ref f))
structure E8 (P:Program) (w:World) (K:W.Frag) (mg:Str->Option Value) (base:Heap) (j:Nat) (f:Addr) (fd:FuncData) (ps:List Str) (dvs:List V) (sp:Sp):Prop where
 kp:W.keepIn K (.ref f)=true
 b:∃ds,ao K fd ps ds/\aA dvs ds
 ok:bn P w K mg base bD j f fd ps sp
section
variable {X:Cx}{K:W.Frag}{Y g:Addr}{y:Str}{np apos pos:Pos}{a:Expr}{es:List Expr}{t:TA}{k j:Nat}{fd:FuncData}{ps:List Str}{sp:Sp}{dvs:List V}
def Ku{pl:Sem Bool}(h:X.K=K)(B:E4 K Y g)(hm:X.mg y=some (.ref Y))(F:E8 X.prog X.w X.K X.mg X.base j g fd ps dvs sp)(hr:bt k X.A)(o:QA X (a::es) t)(n:j<=k:=by decide)(C:Gl X y:=by rfl)(hd:(y == ("__debug__" : Str))=false:=by decide)(m:cu (a::es)=true:=by rfl)
 (ht:eval (.Call (.Attribute (.Name y np) "__init__" apos) (a::es) [] pos) X.env=(do
   let ov <- eval (.Name y np) X.env
   standAt apos.atName
   let (f,first) <- holding [ov] (getMethod ov "__init__" pl)
   callWith pos f first (backTo pos (starEach (a::es) X.env)) (backToKw pos (keywordEach [] X.env))):=by rfl) :
 QE X (.Call (.Attribute (.Name y np) "__init__" apos) (a::es) [] pos) (jn sp dvs E0 t):=⟨by
 subst h;intro c s σ H Q I h;have p:PE X (.Name y np) (tC (.ref Y)):=(gh (v:=.ref Y) C hm rfl hd).h;refine W.methodCall_KW (pl:=pl) (av (p c s σ H (λv z=>v=.ref Y/\jn sp dvs E0 t σ z Q) I ⟨rfl,h⟩) λu s1 ⟨x,J,e,G,ex,q⟩=>?_) ht;subst ex;obtain rfl:u=Value.ref Y:=G;refine W.method_cls e.kIn B.sp (W.cls_value (s:=s1) e.kIn B.rd B.fc Z ?_);have l:=e.tok (s1.toks+1);obtain⟨ds,hb,d⟩:=F.b;refine W.callWith_K (h₀:=X.base) l.ok.mod.kin F.kp (av (o.h pos c { s1 with toks:=s1.toks+1 } σ J _ l q) λus M ⟨vs,L,i,r,D⟩=>⟨i.kIn,?_⟩) (bV (bR m).1) (dN (bR m).2);exact oR F.ok (hr.mono n) hb d Cf i r D⟩
end
section
variable {X:Cx}{o e:Expr}{apos cpos:Pos}{td ty:TE}
def B5 (d:X.A.units+64<cLine) (a:QE X o td) (c:QE X e ty) (hb:attributeBase o "get" X.env (eval o X.env)=eval o X.env:=by rfl)
 (b:((backTo cpos (starEach [e] X.env)).all (λx=>!x.1) && (backToKw cpos (keywordEach [] X.env)).all (λx=>x.1.isSome)
   && decide (([e]:List Expr).length+([]:List Keyword).length+(if ([]:List Keyword).isEmpty then 0 else 1)<30))=true:=by rfl)
 (hl:(apos.endLine == cpos.line)=true:=by rfl) (ht:backTo cpos (starEach [e] X.env)=[(false,eval e X.env)]:=by rfl) :
 QE X (.Call (.Attribute o "get" apos) [e] [] cpos) (AU td ty):=⟨Ly (by omega) a.h c.h ⟨hb,b,hl,ht⟩⟩
end
def strOf? : Value->Option Str
 | .str x _=>some x
 | _=>none
def refOf? : Value->Option Addr
 | .ref a=>some a
 | _=>none
def strOf?.eq{v:Value}{x:Str}(h:strOf? v=some x):∃t,v=.str x t:=by
 cases v<;>first|(cases h;exact⟨_,Z⟩)|cases h
def refOf?.eq{v:Value}{a:Addr}(h:refOf? v=some a):v=.ref a:=by
 cases v<;>first|(cases h;rfl)|cases h
def iA:List DictEntry->Option (List (Int × Str × Addr))
 | []=>some []
 | e::r=>(strOf? e.key).bind λx=>(refOf? e.val).bind λa=>(iA r).map λl=>(e.hash,x,a)::l
theorem iA.pairs{P:Program}{w:World}:∀ {b:List DictEntry} {m:List (Int × Str × Addr)},iA b=some m->(∀p∈m,p.1=hashStr w p.2.1) ->
 (∀e∈b,∃k,(ci P w).is k e.key=true/\e.hash=(ci P w).hash k)/\Pairs (ci P w) b (m.map λp=>((Sum.inr p.2.1:aS),Value.ref p.2.2))
 | [],m,h,_=>by cases h;exact⟨λ_ z=>(nomatch z),.nil⟩
 | e::r,m,h,hs=>by
  unfold iA at h;obtain⟨x,hx,h⟩:=Xr.mp h;obtain⟨a,g,h⟩:=Xr.mp h;obtain⟨l,hl,h⟩:=WR.mp h;subst h;obtain⟨j,n⟩:=strOf?.eq hx;obtain⟨f,i⟩:=iA.pairs (P:=P) (w:=w) hl λp o=>hs p (WD _ o);have d:(ci P w).is (.inr x) e.key=true:=by rw[n];exact CC P w x j
  refine⟨λe' c=>?_,.cons d (refOf?.eq g) i⟩;rcases Wh.mp c with rfl|c
  ·exact⟨.inr x,d,hs _ WP⟩
  ·exact f e' c
structure n6 (K:W.Frag) (w:World) (a:Addr) (m:List (Int × Str × Addr)):Prop where
 ex:∃es ep,K.lookup a=some ⟨.type "dict",none,.dict es ep,#[]⟩/\iA es.toList=some m
 hs:∀p∈m,p.1=hashStr w p.2.1
 nd:(m.map (·.2.1)).Nodup
 ns:(a == sysModules)=false
def n6.rd{K:W.Frag}{a:Addr}{m:List (Int × Str × Addr)}{P:Program}{w:World}{h:Heap}(D:n6 K w a m)(X:K.In h):h.DictOf (ci P w) a (m.map λp=>((Sum.inr p.2.1:aS),Value.ref p.2.2)):=by
 obtain⟨d,f,l,e⟩:=D.ex;obtain⟨c,g⟩:=iA.pairs (P:=P) (w:=w) e D.hs;refine⟨_,d,f,X _ _ l,⟨rfl,rfl,rfl⟩,rfl,λe j=>c e (Yq.mpr j),g,?_⟩;rw[WY];have:(((λx=>x.1) ∘ λp:Int × Str × Addr=>((Sum.inr p.2.1:aS),Value.ref p.2.2)):Int × Str × Addr->aS)=(λi:Str=>(Sum.inr i:aS)) ∘ (·.2.1):=rfl;rw[this,<- WY];exact List.Pairwise.map _ (λa b (z:a≠b) (q:(Sum.inr a:aS)=Sum.inr b)=>z (Sum.inr.inj q)) D.nd
def gv(m:List (Int × Str × Addr))(z:Str):Option Addr:=(m.find? λp=>decide (p.2.1=z)).map (·.2.2)
theorem uM:∀(m:List (Int × Str × Addr)) (z:Str),valueAt (m.map λp=>((Sum.inr p.2.1:aS),Value.ref p.2.2)) (Sum.inr z)=(gv m z).map Value.ref
 | [],z=>rfl
 | p::m,z=>by
  have ih:=uM m z;unfold gv valueAt at ih ⊢;rw[WA,WI,WI];by_cases c:p.2.1=z
  ·have a:(Sum.inr p.2.1:aS)=Sum.inr z:=congrArg _ c;simp only [YE c,YE a,W8]
  ·have a:¬(Sum.inr p.2.1:aS)=Sum.inr z:=λq=>c (Sum.inr.inj q);simp only [YF c,YF a];exact ih
def QU(a:Addr)(m:List (Int × Str × Addr))(neg:Bool):R2:=λx y H Q=>∃z,x=.str z/\y=.ref a/\Q (.bl (if neg then !(gv m z).isSome else (gv m z).isSome)) H
section
variable {X:Cx}{K:W.Frag}{w:World}{a:Addr}{m:List (Int × Str × Addr)}
def Qj(h:X.K=K)(hw:X.w=w)(D:n6 K w a m):aV X (compareOp .NotIn) (QU a m true):=by
 subst h hw;intro b s σ H x y v u Q I c d q;obtain⟨z,rfl,rfl,q⟩:=q;obtain rfl:u=Value.ref a:=d;refine wpAny_notIn_of (hU (k:=.inr z) c) D.ns (D.rd (P:=X.prog) (w:=X.w) I.kIn).mapOf ?_;rw[uM,XB];exact⟨.bl _,H,I.tok _,Z,q⟩
def Kx{i:Expr}{e:TE}{x:Str}{p pos:Pos}(h:X.K=K)(hw:X.w=w)(D:n6 K w a m)(B:Gl X x)(hm:X.mg x=some (.ref a))(q:QE X i e)(hs:sK i:=by intro _ _;rfl)(hd:(x == ("__debug__" : Str))=false:=by decide) :
 QE X (.Subscript (.Name x p) i pos) (λσ H Q=>e σ H λy d=>∃z b,y=.str z/\gv m z=some b/\Q (.ref b) d):=⟨by
 subst h hw;intro c s σ H Q I h;have o:PE X (.Name x p) (tC (.ref a)):=(gh (v:=.ref a) B hm rfl hd).h;refine A0 Yi.lookup hs (av (o c s σ H (λv l=>v=.ref a/\e σ l λy d=>∃z b,y=.str z/\gv m z=some b/\Q (.ref b) d) I ⟨rfl,h⟩) λu s1 ⟨x,d,n,G,ex,J⟩=>av (q.h c s1 σ d _ n J) λM N ⟨y,r,j,L,z,b,C,g,F⟩=>?_);subst ex C;obtain rfl:u=Value.ref a:=G;have f:=D.rd (P:=X.prog) (w:=X.w) j.kIn;exact⟨f.typeIs,wpAny_getItem_of (hU (k:=.inr z) L) f.mapOf (by rw[uM,g];rfl) ⟨.ref b,r,j.tok _,rfl,F⟩⟩⟩
end
structure VN (P:Program) (w:World) (K:W.Frag) (mg:Str->Option Value) (base:Heap) (x:Str) (k:Nat) (f:Addr) (fd:FuncData) (ps:List Str) (dvs:List V) (sp:Sp):Prop where
 g:mg x=some (.ref f)
 kp:W.keepIn K (.ref f)=true
 b:∃ds,ao K fd ps ds/\aA dvs ds
 ok:bn P w K mg base bD k f fd ps sp
def gc:List Value->Option (List Addr)
 | []=>some []
 | .ref m::u=>(match gc u with|some l=>some (m::l)|none=>none)
 | _=>none
theorem gc.vals:∀ {us:List Value} {ns:List Addr},gc us=some ns->aA (ns.map V.ref) us
 | [],ns,h=>by cases h;exact .nil
 | .ref m::u,ns,h=>by
  unfold gc at h;cases q:gc u with
  | none=>rw[q]at h;cases h
  | some l=>rw[q]at h;cases h;exact .cons Z (gc.vals q)
def AA {K:W.Frag} {a:Addr} {c:Option Addr} {b:Array Value} {n:Nat} {e:Array (Option Value)} {ns:List Addr} (h:K.lookup a=some ⟨.type "tuple",c,.seq b n,e⟩) (d:gc b.toList=some ns) (hz:b.size<=1000:=by decide) (H:Hp):be K H a (ns.map V.ref) :=
 .inr ⟨_,b,n,h,rfl,rfl,sz (Yp hz),gc.vals d⟩
end L2
namespace L2
open PySem
def RA{lo c:Int}{n:Nat}{cs:St}{r:TT}{s:TE}{H:Hp}{Q:VK}(h:Nat->List V->Hp->Prop)(B:h 0 [] H)(hl:∀i a H,i<=n->h i a H->a.length<=i)(hz:n<=sizeLine)
 (hs:∀i a H (N:List V->Hp->Prop),i<n->h i a H->(∀d f,h (i+1) d f->N d f)->r (some (.int (lo+i*c))::cs) H λb l=>if b=true then s (some (.int (lo+i*c))::cs) l λy u=>N (a++[y]) u else N a l)
 (hd:∀a H p f,h n a H->bi H p (.lst a) f->Q (.ref p) f) :
 ik (sN lo c n) H (List.replicate 1 none++cs) (cK 0) r s Q:=by
 refine⟨λi m a σ H=>m=n-i/\i<=n/\h i a H/\∃j,σ=j::cs,⟨n,by simp,Wu _,B,none,rfl⟩,?_⟩;rintro i m a σ q ⟨rfl,v,p,j,rfl⟩;have C:=hl i a q v p;by_cases hlt:i<n
 ·refine .inr ⟨hlt,by omega,λd o f=>h (i+1) d f/\∃j,o=j::cs,λd o f ⟨k,e⟩=>⟨n-(i+1),by omega,rfl,hlt,k,e⟩,λx f y=>?_⟩;obtain⟨e,y⟩:=y;subst e y;exact hs i a f (λd f=>h (i+1) d f/\∃j,some (V.int (lo+i*c))::cs=j::cs) hlt p λ_ _ z=>⟨z,_,Z⟩
 ·have e:i=n:=by omega
  subst e;exact .inl ⟨V5 _,by omega,λk f g=>hd a q k f p g⟩
def Ry{lo c:Int}{n:Nat}{cs:St}{j:TE}{H:Hp}{Q:VK}(d:List V)(hl:d.length=n)(hz:n<=sizeLine)
 (hs:∀(i:Nat) y a (N:VK),i<n->d[i]? = some y->ah H a->(∀b,ah a b->N y b)->j (some (.int (lo+i*c))::cs) a N) (hd:∀p a,bi H p (.lst d) a->Q (.ref p) a) :
 ik (sN lo c n) H (List.replicate 1 none++cs) (cK 0) fZ j Q:=by
 refine RA (λi e a=>ah H a/\e=d.take i) ⟨ah.refl _,rfl⟩ (λi e a h z=>by rw[z.2,Wa];omega) hz (λi e a N h z hN=>?_) λe a p b z g=>?_
 ·obtain⟨s,rfl⟩:=z;have f:i<d.length:=by omega
  have k:d[i]? = some d[i]:=WG f;simp only [fZ,if_true];exact hs i _ a _ h k s λb l=>hN _ _ ⟨s.trans l,by rw[db k]⟩
 ·obtain⟨s,rfl⟩:=z;rw[<- hl,Wg]at g;exact hd p b (g.after s)
end L2
namespace My
open PySem L2
def VQ{X:Cx}(K:W.Frag)(h:X.K=K:=by rfl):=bv (X:=X) (K:=K) h
def VR{X:Cx}(K:W.Frag)(h:X.K=K:=by rfl):=ib (X:=X) (K:=K) h
def VS{X:Cx}(K:W.Frag)(h:X.K=K:=by rfl):=bS (X:=X) (K:=K) h
def VT{X:Cx}(K:W.Frag)(h:X.K=K:=by rfl):=aL (X:=X) (K:=K) h
def VU{X:Cx}(K:W.Frag)(h:X.K=K:=by rfl):=dE (X:=X) (K:=K) h
def VV{X:Cx}(K:W.Frag)(h:X.K=K:=by rfl):=ia (X:=X) (K:=K) h
def VW{X:Cx}(K:W.Frag)(h:X.K=K:=by rfl):=gj (X:=X) (K:=K) h
def top(i:Nat):Stmt:=PySem.Challenge.pw_bytetongue_k91_whole_turned_in_pieces.main.body.getD i (.Pass ⟨0,0,0,0⟩)
abbrev lz:Stmt:=bf (top 4) 0
abbrev kU:Stmt:=bf (top 9) 0
abbrev kX:Stmt:=bf (top 9) 4
abbrev kW:Stmt:=bf (top 9) 7
abbrev kY:Stmt:=bf (top 9) 8
abbrev kQ:Stmt:=bf (top 9) 9
abbrev kT:Stmt:=bf (top 9) 10
abbrev kR:Stmt:=bf (top 9) 11
abbrev kS:Stmt:=bf (top 9) 12
abbrev mr:Stmt:=bf (top 9) 13
abbrev j0:Stmt:=top 19
abbrev j3:Stmt:=top 20
abbrev j1:Stmt:=top 21
abbrev jX:Stmt:=top 22
abbrev jZ:Stmt:=top 23
abbrev jY:Stmt:=top 24
abbrev iQ:Stmt:=top 25
abbrev lC:Stmt:=bf (top 27) 0
abbrev jN:Stmt:=top 29
abbrev jO:Stmt:=top 30
abbrev kP:Stmt:=bf (top 34) 0
abbrev kO:Stmt:=bf (top 34) 1
abbrev ka:Stmt:=bf (top 32) 0
abbrev kN:Stmt:=bf (top 35) 0
abbrev kc:Stmt:=bf (top 32) 2
abbrev ki:Stmt:=bf (top 37) 0
abbrev kh:Stmt:=bf (top 37) 1
abbrev ko:Stmt:=bf (top 37) 2
abbrev kj:Stmt:=bf (top 37) 3
abbrev kr:Stmt:=bf (top 37) 4
abbrev kg:Stmt:=bf (top 37) 5
abbrev kf:Stmt:=bf (top 37) 6
abbrev j7:Stmt:=top 39
abbrev jT:Stmt:=top 40
abbrev jQ:Stmt:=top 41
abbrev ku:Stmt:=bf (top 43) 1
abbrev kx:Stmt:=bf (top 43) 3
abbrev kt:Stmt:=bf (top 43) 4
abbrev kz:Stmt:=bf (top 43) 5
abbrev ky:Stmt:=bf (top 43) 6
abbrev jV:Stmt:=top 50
abbrev iP:Stmt:=top 51
abbrev jW:Stmt:=top 52
abbrev j8:Stmt:=top 53
abbrev j4:Stmt:=top 54
abbrev jU:Stmt:=top 55
abbrev iR:Stmt:=top 56
abbrev lB:Stmt:=bf (top 57) 1
abbrev lA:Stmt:=bf (top 57) 2
abbrev iT:Stmt:=bf (top 57) 3
abbrev jP:Stmt:=top 62
abbrev jR:Stmt:=top 63
abbrev lv:Stmt:=bf (top 64) 0
abbrev lg:Stmt:=bf (top 64) 1
abbrev lh:Stmt:=bf (top 64) 3
abbrev lu:Stmt:=bf (top 64) 4
abbrev iS:Stmt:=bf (top 64) 5
abbrev lm:Stmt:=bf (top 64) 6
abbrev kZ:Stmt:=bf (top 64) 7
abbrev ly:Stmt:=bf (top 64) 8
abbrev j9:Stmt:=top 66
abbrev jS:Stmt:=top 70
abbrev kL:Stmt:=bf (top 71) 0
abbrev kK:Stmt:=bf (top 71) 1
abbrev kI:Stmt:=bf (top 71) 6
abbrev kJ:Stmt:=bf (top 71) 7
abbrev kH:Stmt:=bf (top 71) 8
abbrev kM:Stmt:=bf (top 71) 9
abbrev j2:Stmt:=top 75
abbrev j5:Stmt:=top 76
abbrev j6:Stmt:=top 77
abbrev kE:Stmt:=bf (top 78) 0
abbrev kG:Stmt:=bf (top 78) 1
abbrev kD:Stmt:=bf (top 78) 4
abbrev kA:Stmt:=bf (top 78) 5
abbrev kF:Stmt:=bf (top 78) 6
abbrev jE:Stmt:=top 80
abbrev jC:Stmt:=top 81
abbrev jz:Stmt:=top 82
abbrev jB:Stmt:=top 83
abbrev iL:Stmt:=top 84
abbrev io:Stmt:=top 85
abbrev jG:Stmt:=top 86
abbrev jy:Stmt:=top 87
abbrev jD:Stmt:=top 88
abbrev jA:Stmt:=top 89
abbrev jL:Stmt:=top 90
abbrev iO:Stmt:=top 91
abbrev jI:Stmt:=top 92
abbrev gL:Stmt:=top 93
abbrev jM:Stmt:=top 94
abbrev jJ:Stmt:=top 95
abbrev iN:Stmt:=top 96
abbrev ip:Stmt:=top 97
abbrev jH:Stmt:=top 98
abbrev iM:Stmt:=top 99
abbrev jF:Stmt:=top 100
abbrev jK:Stmt:=top 101
abbrev iq:Stmt:=top 102
def BH:ay ["self", "sign", "at"] ["self", "sign", "at"] (ag lz):=by constructor<;>first|rfl|decide +kernel
def JD:ay ["self", "tongue", "place"] ["self", "tongue", "place"] (ag kU):=by constructor<;>first|rfl|decide +kernel
def JE:ay ["self"] ["self"] (ag kX):=by constructor<;>first|rfl|decide +kernel
def mq:ay ["self", "row", "signs", "byte"] ["self", "row"] (ag kW):=by constructor<;>first|rfl|decide +kernel
def BE:ay ["self", "signs"] ["self"] (ag kY):=by constructor<;>first|rfl|decide +kernel
def JA:ay ["self", "byte"] ["self", "byte"] (ag kQ):=by constructor<;>first|rfl|decide +kernel
def BD:ay ["self", "found"] ["self"] (ag kT):=by constructor<;>first|rfl|decide +kernel
def JB:ay ["self", "ahead_of_last"] ["self"] (ag kR):=by constructor<;>first|rfl|decide +kernel
def JC:ay ["self", "length", "kind"] ["self", "length", "kind"] (ag kS):=by constructor<;>first|rfl|decide +kernel
def IZ:ay ["thing"] ["thing"] (ag j0):=by constructor<;>first|rfl|decide +kernel
def Jb:ay ["thing"] ["thing"] (ag j3):=by constructor<;>first|rfl|decide +kernel
def I0:ay ["number"] ["number"] (ag j1):=by constructor<;>first|rfl|decide +kernel
def IU:ay ["number"] ["number"] (ag jX):=by constructor<;>first|rfl|decide +kernel
def IW:ay ["thing"] ["thing"] (ag jZ):=by constructor<;>first|rfl|decide +kernel
def IV:ay ["thing"] ["thing"] (ag jY):=by constructor<;>first|rfl|decide +kernel
def IY:ay ["thing"] ["thing"] (ag iQ):=by constructor<;>first|rfl|decide +kernel
def JM:ay ["self", "tongue", "way", "place"] ["self", "tongue", "way", "place"] (ag lC):=by constructor<;>first|rfl|decide +kernel
def im:ay ["tongue", "text", "page", "row", "at", "sign", "spelled"] ["tongue", "text", "page"] (ag jN):=by constructor<;>first|rfl|decide +kernel
def IQ:ay ["tongue", "text"] ["tongue", "text"] (ag jO):=by constructor<;>first|rfl|decide +kernel
def Jz:ay ["self", "tongue"] ["self", "tongue"] (ag kP):=by constructor<;>first|rfl|decide +kernel
def Jy:ay ["self", "sign", "page"] ["self", "sign", "page"] (ag kO):=by constructor<;>first|rfl|decide +kernel
def Jh:ay ["self", "tongue"] ["self", "tongue"] (ag ka):=by constructor<;>first|rfl|decide +kernel
def Jx:ay ["self", "tongue"] ["self", "tongue"] (ag kN):=by constructor<;>first|rfl|decide +kernel
def oQ:ay ["self", "text", "written"] ["self", "text"] (ag kc):=by constructor<;>first|rfl|decide +kernel
def Jk:ay ["self", "source", "goal", "way", "instead"] ["self", "source", "goal", "way", "instead"] (ag ki):=by constructor<;>first|rfl|decide +kernel
def Jj:ay ["self"] ["self"] (ag kh):=by constructor<;>first|rfl|decide +kernel
def Jm:ay ["self"] ["self"] (ag ko):=by constructor<;>first|rfl|decide +kernel
def Jl:ay ["self", "row"] ["self", "row"] (ag kj):=by constructor<;>first|rfl|decide +kernel
def Jn:ay ["self"] ["self"] (ag kr):=by constructor<;>first|rfl|decide +kernel
def tP:ay ["self", "things", "row", "thing"] ["self", "things"] (ag kg):=by constructor<;>first|rfl|decide +kernel
def Ji:ay ["self", "thing"] ["self", "thing"] (ag kf):=by constructor<;>first|rfl|decide +kernel
def Jd:ay ["number", "bits"] ["number", "bits"] (ag j7):=by constructor<;>first|rfl|decide +kernel
def mn:ay ["number", "bits", "many", "rising", "step", "higher"] ["number", "bits", "many"] (ag jT):=by constructor<;>first|rfl|decide +kernel
def oO:ay ["parts", "bits", "number", "part"] ["parts", "bits"] (ag jQ):=by constructor<;>first|rfl|decide +kernel
def Jp:ay ["self"] ["self"] (ag ku):=by constructor<;>first|rfl|decide +kernel
def Jq:ay ["self", "sign", "page"] ["self", "sign", "page"] (ag kx):=by constructor<;>first|rfl|decide +kernel
def Jo:ay ["self", "row", "page"] ["self", "row", "page"] (ag kt):=by constructor<;>first|rfl|decide +kernel
def Jr:ay ["self", "row", "page"] ["self", "row", "page"] (ag kz):=by constructor<;>first|rfl|decide +kernel
def By:ay ["self", "begun", "page", "found"] ["self", "begun", "page"] (ag ky):=by constructor<;>first|rfl|decide +kernel
def IS:ay ["sign"] ["sign"] (ag jV):=by constructor<;>first|rfl|decide +kernel
def tM:ay ["sign", "length", "parts"] ["sign"] (ag iP):=by constructor<;>first|rfl|decide +kernel
def IT:ay ["first"] ["first"] (ag jW):=by constructor<;>first|rfl|decide +kernel
def Jf:ay ["row", "place"] ["row", "place"] (ag j8):=by constructor<;>first|rfl|decide +kernel
def tO:ay ["row", "place", "bounds"] ["row"] (ag j4):=by constructor<;>first|rfl|decide +kernel
def Bx:ay ["row", "lack"] ["row"] (ag jU):=by constructor<;>first|rfl|decide +kernel
def Je:ay ["row"] ["row"] (ag iR):=by constructor<;>first|rfl|decide +kernel
def JL:ay ["self", "sign", "page"] ["self", "sign", "page"] (ag lB):=by constructor<;>first|rfl|decide +kernel
def JK:ay ["self", "row", "page"] ["self", "row", "page"] (ag lA):=by constructor<;>first|rfl|decide +kernel
def BI:ay ["self", "row", "page", "lack"] ["self", "row", "page"] (ag iT):=by constructor<;>first|rfl|decide +kernel
def Bw:ay ["sign", "parts"] ["sign"] (ag jP):=by constructor<;>first|rfl|decide +kernel
def IR:ay ["units"] ["units"] (ag jR):=by constructor<;>first|rfl|decide +kernel
def JJ:ay ["self", "order"] ["self", "order"] (ag lv):=by constructor<;>first|rfl|decide +kernel
def JG:ay ["self"] ["self"] (ag lg):=by constructor<;>first|rfl|decide +kernel
def JH:ay ["self", "pair"] ["self", "pair"] (ag lh):=by constructor<;>first|rfl|decide +kernel
def tS:ay ["self", "units", "row", "number"] ["self", "units"] (ag lu):=by constructor<;>first|rfl|decide +kernel
def JF:ay ["self", "row"] ["self", "row"] (ag iS):=by constructor<;>first|rfl|decide +kernel
def JI:ay ["self", "sign", "page"] ["self", "sign", "page"] (ag lm):=by constructor<;>first|rfl|decide +kernel
def BF:ay ["self", "row", "page", "sign"] ["self", "row", "page"] (ag kZ):=by constructor<;>first|rfl|decide +kernel
def BG:ay ["self", "row", "page", "rest"] ["self", "row", "page"] (ag ly):=by constructor<;>first|rfl|decide +kernel
def Jg:ay ["one", "other"] ["one", "other"] (ag j9):=by constructor<;>first|rfl|decide +kernel
def oP:ay ["signs", "which", "places", "place", "sign"] ["signs", "which"] (ag jS):=by constructor<;>first|rfl|decide +kernel
def Jv:ay ["self", "first", "second"] ["self", "first", "second"] (ag kL):=by constructor<;>first|rfl|decide +kernel
def tR:ay ["self", "page", "place", "sign"] ["self", "page"] (ag kK):=by constructor<;>first|rfl|decide +kernel
def Jt:ay ["self", "sign", "page"] ["self", "sign", "page"] (ag kI):=by constructor<;>first|rfl|decide +kernel
def Ju:ay ["self", "byte", "page"] ["self", "byte", "page"] (ag kJ):=by constructor<;>first|rfl|decide +kernel
def tQ:ay ["self", "row", "page", "sign"] ["self", "row", "page"] (ag kH):=by constructor<;>first|rfl|decide +kernel
def Jw:ay ["self", "row", "page"] ["self", "row", "page"] (ag kM):=by constructor<;>first|rfl|decide +kernel
def Ja:ay ["thing"] ["thing"] (ag j2):=by constructor<;>first|rfl|decide +kernel
def Jc:ay ["one", "other"] ["one", "other"] (ag j5):=by constructor<;>first|rfl|decide +kernel
def mo:ay ["rows", "other", "entry", "one", "earlier"] ["rows"] (ag j6):=by constructor<;>first|rfl|decide +kernel
def BA:ay ["self", "rows", "entry"] ["self", "rows"] (ag kE):=by constructor<;>first|rfl|decide +kernel
def BC:ay ["self", "sign", "row", "size"] ["self", "sign", "row"] (ag kG):=by constructor<;>first|rfl|decide +kernel
def Js:ay ["self", "sign", "page"] ["self", "sign", "page"] (ag kD):=by constructor<;>first|rfl|decide +kernel
def Bz:ay ["self", "row", "page", "sign"] ["self", "row", "page"] (ag kA):=by constructor<;>first|rfl|decide +kernel
def BB:ay ["self", "row", "page", "rest"] ["self", "row", "page"] (ag kF):=by constructor<;>first|rfl|decide +kernel
def IO:ay ["_law_script", "_law_k"] ["_law_script", "_law_k"] (ag jE):=by constructor<;>first|rfl|decide +kernel
def IN:ay ["_law_found"] ["_law_found"] (ag jC):=by constructor<;>first|rfl|decide +kernel
def oM:ay ["_law_number", "_law_borders", "_law_sign_here"] ["_law_number"] (ag jz):=by constructor<;>first|rfl|decide +kernel
def mh:ay ["_law_cell", "_law_number", "_law_found", "_law_k"] ["_law_cell"] (ag jB):=by constructor<;>first|rfl|decide +kernel
def Bs:ay ["_law_pool_here", "_law_cell", "_law_rows"] ["_law_pool_here", "_law_cell"] (ag iL):=by constructor<;>first|rfl|decide +kernel
def oK:ay ["_law_pool_here", "_law_cell", "_law_left", "_law_first", "_law_second"] ["_law_pool_here", "_law_cell"] (ag io):=by constructor<;>first|rfl|decide +kernel
def oN:ay ["_law_tongue_here", "_law_sign_here", "_law_page", "_law_found"] ["_law_tongue_here", "_law_sign_here", "_law_page"] (ag jG):=by constructor<;>first|rfl|decide +kernel
def me:ay ["_law_pool_here", "_law_tongue_here", "_law_cells", "_law_found", "_law_cell", "_law_sign_here"] ["_law_pool_here", "_law_tongue_here", "_law_cells"] (ag jy):=by constructor<;>first|rfl|decide +kernel
def mi:ay ["_law_row", "_law_cells", "_law_found", "_law_at", "_law_cell"] ["_law_row", "_law_cells"] (ag jD):=by constructor<;>first|rfl|decide +kernel
def mf:ay ["_law_cell", "_law_number", "_law_pot_here", "_law_k"] ["_law_cell"] (ag jA):=by constructor<;>first|rfl|decide +kernel
def Bv:ay ["_law_pot_here", "_law_many", "_law_digit_here"] ["_law_pot_here", "_law_many"] (ag jL):=by constructor<;>first|rfl|decide +kernel
def Bu:ay ["_law_cell", "_law_base", "_law_most", "_law_pot_here"] ["_law_cell", "_law_base", "_law_most"] (ag iO):=by constructor<;>first|rfl|decide +kernel
def f9:ay ["_law_pot_here", "_law_lists", "_law_earlier", "_law_page", "_law_signs", "_law_k", "_law_digit_here", "_law_fresh", "_law_sign_here"] ["_law_pot_here"] (ag jI):=by constructor<;>first|rfl|decide +kernel
def jx:ay ["_law_pot_here", "_law_found", "_law_k", "_law_sign_here", "_law_row", "_law_twice"] ["_law_pot_here"] (ag gL):=by constructor<;>first|rfl|decide +kernel
def tL:ay ["_law_number", "_law_sign_here"] ["_law_number"] (ag jM):=by constructor<;>first|rfl|decide +kernel
def Bt:ay ["_law_row", "_law_rows", "_law_other"] ["_law_row", "_law_rows"] (ag jJ):=by constructor<;>first|rfl|decide +kernel
def mj:ay ["_law_cell", "_law_pot_here", "_law_kind", "_law_lists", "_law_table_here"] ["_law_cell"] (ag iN):=by constructor<;>first|rfl|decide +kernel
def mm:ay ["_law_signs", "_law_cells", "_law_most", "_law_text_here", "_law_cell"] ["_law_signs", "_law_cells", "_law_most"] (ag ip):=by constructor<;>first|rfl|decide +kernel
def iK:ay ["_law_row", "_law_cell", "_law_found", "_law_at", "_law_pot_here", "_law_k", "_law_size"] ["_law_row", "_law_cell"] (ag jH):=by constructor<;>first|rfl|decide +kernel
def IP:ay ["_law_found"] ["_law_found"] (ag iM):=by constructor<;>first|rfl|decide +kernel
def il:ay ["_law_first", "_law_second", "_law_pieces_here", "_law_told", "_law_back", "_law_piece", "_law_kept", "_law_found", "_law_again", "_law_last"] ["_law_first", "_law_second", "_law_pieces_here"] (ag jF):=by constructor<;>first|rfl|decide +kernel
def gb:ay ["_law_script", "_law_cell", "_law_source", "_law_signs", "_law_text_here", "_law_pieces_here", "_law_pool_here"] ["_law_script"] (ag jK):=by constructor<;>first|rfl|decide +kernel
def fK:ay ["_law_script", "_law_source", "_law_goal", "_law_text_here", "_law_pieces_here", "_law_lacks", "_law_left", "_law_first", "_law_second", "_law_told", "_law_found"] ["_law_script"] (ag iq):=by constructor<;>first|rfl|decide +kernel
set_option genInjectivity false in
structure Adr where
 nQ:Addr
 qp:FuncData
 sd:Addr
 nr:FuncData
 ud_Reader_init_0:Tok
 si:Addr
 wD:FuncData
 sf:Addr
 wC:FuncData
 sj:Addr
 wE:FuncData
 rY:Addr
 wy:FuncData
 r9:Addr
 wB:FuncData
 rZ:Addr
 wz:FuncData
 zX:Addr
 wA:FuncData
 zW:Addr
 D7:FuncData
 zv:Addr
 vT:FuncData
 zy:Addr
 vW:FuncData
 zw:Addr
 vU:FuncData
 zq:Addr
 vO:FuncData
 zt:Addr
 vQ:FuncData
 zr:Addr
 vP:FuncData
 zu:Addr
 vS:FuncData
 Ac:Addr
 qr:FuncData
 ud_GoingReader_init_0:Tok
 rM:Addr
 qf:FuncData
 zf:Addr
 vD:FuncData
 zV:Addr
 ww:FuncData
 zU:Addr
 wv:FuncData
 zG:Addr
 wf:FuncData
 zT:Addr
 wu:FuncData
 rN:Addr
 qh:FuncData
 zK:Addr
 qi:FuncData
 zJ:Addr
 wk:FuncData
 zM:Addr
 wm:FuncData
 zL:Addr
 wl:FuncData
 zN:Addr
 wn:FuncData
 zI:Addr
 wj:FuncData
 zH:Addr
 wg:FuncData
 zC:Addr
 wa:FuncData
 zk:Addr
 vJ:FuncData
 zh:Addr
 vF:FuncData
 gC:Addr
 i5:FuncData
 rO:Addr
 mY:FuncData
 ud_Tongue_spell_0:Tok
 zO:Addr
 qj:FuncData
 ud_Tongue_whole_0:Tok
 zP:Addr
 qk:FuncData
 ud_Tongue_fill_0:Tok
 fD:Addr
 h8:FuncData
 ud_Tongue_look_0:Tok
 zm:Addr
 vL:FuncData
 zo:Addr
 vN:FuncData
 zn:Addr
 vM:FuncData
 zE:Addr
 wd:FuncData
 zz:Addr
 vX:FuncData
 zl:Addr
 vK:FuncData
 zD:Addr
 wc:FuncData
 sy:Addr
 nG:FuncData
 ud_LeadTongue_spell_0:Tok
 sx:Addr
 nE:FuncData
 ud_LeadTongue_whole_0:Tok
 sD:Addr
 nH:FuncData
 ud_LeadTongue_fill_0:Tok
 zg:Addr
 vE:FuncData
 zi:Addr
 vG:FuncData
 sv:Addr
 nA:FuncData
 ud_PairTongue_init_0:Tok
 zZ:Addr
 wG:FuncData
 Aa:Addr
 wH:FuncData
 Ab:Addr
 wI:FuncData
 zY:Addr
 wF:FuncData
 sr:Addr
 nz:FuncData
 ud_PairTongue_spell_0:Tok
 sk:Addr
 ny:FuncData
 ud_PairTongue_whole_0:Tok
 sw:Addr
 nB:FuncData
 ud_PairTongue_fill_0:Tok
 zF:Addr
 we:FuncData
 zj:Addr
 vH:FuncData
 rW:Addr
 qo:FuncData
 zS:Addr
 wt:FuncData
 rV:Addr
 nj:FuncData
 ud_ShiftTongue_spell_0:Tok
 zR:Addr
 wq:FuncData
 rT:Addr
 ni:FuncData
 ud_ShiftTongue_whole_0:Tok
 rX:Addr
 nk:FuncData
 ud_ShiftTongue_fill_0:Tok
 zx:Addr
 vV:FuncData
 zA:Addr
 vY:FuncData
 zB:Addr
 vZ:FuncData
 rR:Addr
 qm:FuncData
 zQ:Addr
 wp:FuncData
 rQ:Addr
 m8:FuncData
 ud_TableTongue_spell_0:Tok
 rP:Addr
 mZ:FuncData
 ud_TableTongue_whole_0:Tok
 rS:Addr
 m9:FuncData
 ud_TableTongue_fill_0:Tok
 yX:Addr
 vi:FuncData
 yV:Addr
 vf:FuncData
 yS:Addr
 va:FuncData
 yU:Addr
 ve:FuncData
 yR:Addr
 uZ:FuncData
 yP:Addr
 uX:FuncData
 y0:Addr
 vm:FuncData
 yQ:Addr
 uY:FuncData
 yW:Addr
 vg:FuncData
 yT:Addr
 vd:FuncData
 zd:Addr
 vB:FuncData
 zc:Addr
 vA:FuncData
 y9:Addr
 vx:FuncData
 y7:Addr
 vt:FuncData
 ze:Addr
 vC:FuncData
 za:Addr
 vy:FuncData
 y4:Addr
 vo:FuncData
 y6:Addr
 vp:FuncData
 y8:Addr
 vw:FuncData
 yZ:Addr
 vk:FuncData
 yY:Addr
 vj:FuncData
 zb:Addr
 vz:FuncData
 zp:Addr
 qg:FuncData
 bP:Addr
 d9:Addr
 eG:Addr
 d8:Addr
 bO:Addr
 df:Addr
 dg:Addr
 cb:Addr
 bC:Addr
 bK:Addr
 EB:Addr
 bc:Addr
 qu:Addr
 GJ:Tok
 GI:Tok
 Ad:Addr
 h_FILLS_0:Int
 a_FILLS_0:Addr
 a_FILLS_0_0:Addr
 a_FILLS_0_1:Addr
 a_FILLS_0_2:Addr
 a_FILLS_0_3:Addr
 a_FILLS_0_4:Addr
 h_FILLS_1:Int
 a_FILLS_1:Addr
 a_FILLS_1_0:Addr
 a_FILLS_1_1:Addr
 a_FILLS_1_2:Addr
 a_FILLS_1_3:Addr
 a_FILLS_1_4:Addr
 GH:Tok
 GG:Tok
 GF:Tok
 GE:Tok
 GD:Tok
 GC:Tok
 GB:Tok
 GA:Tok
 Gz:Tok
 Gy:Tok
 Gx:Tok
 nR:Addr
 Gw:Tok
 Gv:Tok
 Gu:Tok
 EU:Addr
 a_SECONDS_0:Addr
 a_SECONDS_1:Addr
 a_SECONDS_2:Addr
 a_SECONDS_3:Addr
 a_SECONDS_4:Addr
 lU:Addr
structure Txt (w:World) (K:PySem.W.Frag) (mg:Str->Option Value) (t:Adr):Prop where
 Gc:aG K "__init__" "NoSign.__init__" lz t.nQ t.qp
 ER:ao K t.qp ["self", "sign", "at"] []
 UK:ck K "__init__" "Reader.__init__" kU t.sd t.nr [.int 0 t.ud_Reader_init_0]
 Sf:ao K t.nr ["self", "tongue", "place"] [.int 0 t.ud_Reader_init_0]
 VF:ao K t.nr ["self", "tongue", "place"] []
 UM:aG K "faults" "Reader.faults" kX t.si t.wD
 TQ:ao K t.wD ["self"] []
 UL:aG K "feed" "Reader.feed" kW t.sf t.wC
 TM:ao K t.wC ["self", "row"] []
 UN:aG K "end" "Reader.end" kY t.sj t.wE
 TR:ao K t.wE ["self"] []
 UG:aG K "take" "Reader.take" kQ t.rY t.wy
 TH:ao K t.wy ["self", "byte"] []
 UJ:aG K "look_at_begun" "Reader.look_at_begun" kT t.r9 t.wB
 TL:ao K t.wB ["self"] []
 UH:aG K "meet_none" "Reader.meet_none" kR t.rZ t.wz
 TJ:ao K t.wz ["self"] []
 UI:aG K "meet" "Reader.meet" kS t.zX t.wA
 TK:ao K t.wA ["self", "length", "kind"] []
 VO:aG K "note" "Reader.note" mr t.zW t.D7
 VE:ao K t.D7 ["self", "length", "kind"] []
 FP:aG K "is_number" "is_number" j0 t.zv t.vT
 SX:ao K t.vT ["thing"] []
 Qv:mg "is_number" = some (.ref t.zv)
 FS:aG K "is_byte" "is_byte" j3 t.zy t.vW
 S0:ao K t.vW ["thing"] []
 Qy:mg "is_byte" = some (.ref t.zy)
 FQ:aG K "is_head" "is_head" j1 t.zw t.vU
 SY:ao K t.vU ["number"] []
 Qw:mg "is_head" = some (.ref t.zw)
 FL:aG K "is_tail" "is_tail" jX t.zq t.vO
 ST:ao K t.vO ["number"] []
 Qr:mg "is_tail" = some (.ref t.zq)
 FN:aG K "is_seen_byte" "is_seen_byte" jZ t.zt t.vQ
 SV:ao K t.vQ ["thing"] []
 Qt:mg "is_seen_byte" = some (.ref t.zt)
 FM:aG K "is_sign" "is_sign" jY t.zr t.vP
 SU:ao K t.vP ["thing"] []
 Qs:mg "is_sign" = some (.ref t.zr)
 FO:aG K "is_row" "is_row" iQ t.zu t.vS
 SW:ao K t.vS ["thing"] []
 Qu:mg "is_row" = some (.ref t.zu)
 U0:ck K "__init__" "GoingReader.__init__" lC t.Ac t.qr [.int 0 t.ud_GoingReader_init_0]
 Sh:ao K t.qr ["self", "tongue", "way", "place"] [.int 0 t.ud_GoingReader_init_0]
 VG:ao K t.qr ["self", "tongue", "way", "place"] []
 sR:aG K "write_from" "write_from" jN t.rM t.qf
 EO:ao K t.qf ["tongue", "text", "page"] []
 DQ:mg "write_from" = some (.ref t.rM)
 FB:aG K "write" "write" jO t.zf t.vD
 SH:ao K t.vD ["tongue", "text"] []
 Qa:mg "write" = some (.ref t.zf)
 UF:aG K "__init__" "SeenSpeller.__init__" kP t.zV t.ww
 TF:ao K t.ww ["self", "tongue"] []
 UE:aG K "spell" "SeenSpeller.spell" kO t.zU t.wv
 TD:ao K t.wv ["self", "sign", "page"] []
 Ga:aG K "__init__" "Writer.__init__" ka t.zG t.wf
 S8:ao K t.wf ["self", "tongue"] []
 UD:aG K "__init__" "SeenWriter.__init__" kN t.zT t.wu
 TC:ao K t.wu ["self", "tongue"] []
 Gb:aG K "feed" "Writer.feed" kc t.rN t.qh
 EQ:ao K t.qh ["self", "text"] []
 Ui:ck K "__init__" "Turner.__init__" ki t.zK t.qi [.none,.none]
 Sd:ao K t.qi ["self", "source", "goal", "way", "instead"] [.none,.none]
 VD:ao K t.qi ["self", "source", "goal", "way", "instead"] []
 Uh:aG K "lacks" "Turner.lacks" kh t.zJ t.wk
 Td:ao K t.wk ["self"] []
 Uk:aG K "faults" "Turner.faults" ko t.zM t.wm
 Tf:ao K t.wm ["self"] []
 Uj:aG K "feed" "Turner.feed" kj t.zL t.wl
 Te:ao K t.wl ["self", "row"] []
 Ul:aG K "end" "Turner.end" kr t.zN t.wn
 Th:ao K t.wn ["self"] []
 Ug:aG K "turned" "Turner.turned" kg t.zI t.wj
 Tc:ao K t.wj ["self", "things"] []
 Uf:aG K "turned_one" "Turner.turned_one" kf t.zH t.wg
 S9:ao K t.wg ["self", "thing"] []
 FW:aG K "check_room" "check_room" j7 t.zC t.wa
 S4:ao K t.wa ["number", "bits"] []
 QK:mg "check_room" = some (.ref t.zC)
 FG:aG K "parted" "parted" jT t.zk t.vJ
 SM:ao K t.vJ ["number", "bits", "many"] []
 Qi:mg "parted" = some (.ref t.zk)
 FD:aG K "together" "together" jQ t.zh t.vF
 SJ:ao K t.vF ["parts", "bits"] []
 Qc:mg "together" = some (.ref t.zh)
 Uo:aG K "unit" "Tongue.unit" ku t.gC t.i5
 rL:ao K t.i5 ["self"] []
 Up:ck K "spell" "Tongue.spell" kx t.rO t.mY [.int 0 t.ud_Tongue_spell_0]
 Vn:ao K t.mY ["self", "sign", "page"] [.int 0 t.ud_Tongue_spell_0]
 Tj:ao K t.mY ["self", "sign", "page"] []
 Um:ck K "whole" "Tongue.whole" kt t.zO t.qj [.int 0 t.ud_Tongue_whole_0]
 Vm:ao K t.qj ["self", "row", "page"] [.int 0 t.ud_Tongue_whole_0]
 Ti:ao K t.qj ["self", "row", "page"] []
 Ur:ck K "fill" "Tongue.fill" kz t.zP t.qk [.int 0 t.ud_Tongue_fill_0]
 Vp:ao K t.qk ["self", "row", "page"] [.int 0 t.ud_Tongue_fill_0]
 Tk:ao K t.qk ["self", "row", "page"] []
 Uq:ck K "look" "Tongue.look" ky t.fD t.h8 [.int 0 t.ud_Tongue_look_0]
 Vo:ao K t.h8 ["self", "begun", "page"] [.int 0 t.ud_Tongue_look_0]
 nN:ao K t.h8 ["self", "begun", "page"] []
 FI:aG K "length_of" "length_of" jV t.zm t.vL
 SO:ao K t.vL ["sign"] []
 Qn:mg "length_of" = some (.ref t.zm)
 FK:aG K "lead_row" "lead_row" iP t.zo t.vN
 SR:ao K t.vN ["sign"] []
 Qp:mg "lead_row" = some (.ref t.zo)
 FJ:aG K "length_behind" "length_behind" jW t.zn t.vM
 SQ:ao K t.vM ["first"] []
 Qo:mg "length_behind" = some (.ref t.zn)
 FY:aG K "bounds_behind" "bounds_behind" j8 t.zE t.wd
 S6:ao K t.wd ["row", "place"] []
 QM:mg "bounds_behind" = some (.ref t.zE)
 FT:aG K "fits_behind" "fits_behind" j4 t.zz t.vX
 S1:ao K t.vX ["row"] []
 QC:mg "fits_behind" = some (.ref t.zz)
 FH:aG K "missing" "missing" jU t.zl t.vK
 SN:ao K t.vK ["row"] []
 Qm:mg "missing" = some (.ref t.zl)
 FX:aG K "carried" "carried" iR t.zD t.wc
 S5:ao K t.wc ["row"] []
 QL:mg "carried" = some (.ref t.zD)
 UY:ck K "spell" "LeadTongue.spell" lB t.sy t.nG [.int 0 t.ud_LeadTongue_spell_0]
 VB:ao K t.nG ["self", "sign", "page"] [.int 0 t.ud_LeadTongue_spell_0]
 T5:ao K t.nG ["self", "sign", "page"] []
 UX:ck K "whole" "LeadTongue.whole" lA t.sx t.nE [.int 0 t.ud_LeadTongue_whole_0]
 VA:ao K t.nE ["self", "row", "page"] [.int 0 t.ud_LeadTongue_whole_0]
 T4:ao K t.nE ["self", "row", "page"] []
 UZ:ck K "fill" "LeadTongue.fill" iT t.sD t.nH [.int 0 t.ud_LeadTongue_fill_0]
 VC:ao K t.nH ["self", "row", "page"] [.int 0 t.ud_LeadTongue_fill_0]
 T6:ao K t.nH ["self", "row", "page"] []
 FC:aG K "units_of" "units_of" jP t.zg t.vE
 SI:ao K t.vE ["sign"] []
 Qb:mg "units_of" = some (.ref t.zg)
 FE:aG K "sign_of" "sign_of" jR t.zi t.vG
 SK:ao K t.vG ["units"] []
 Qf:mg "sign_of" = some (.ref t.zi)
 UV:ck K "__init__" "PairTongue.__init__" lv t.sv t.nA [.str "high" t.ud_PairTongue_init_0]
 Vy:ao K t.nA ["self", "order"] [.str "high" t.ud_PairTongue_init_0]
 T0:ao K t.nA ["self", "order"] []
 UQ:aG K "unit" "PairTongue.unit" lg t.zZ t.wG
 TW:ao K t.wG ["self"] []
 UR:aG K "turned" "PairTongue.turned" lh t.Aa t.wH
 TX:ao K t.wH ["self", "pair"] []
 UU:aG K "row_of" "PairTongue.row_of" lu t.Ab t.wI
 TZ:ao K t.wI ["self", "units"] []
 UP:aG K "units_in" "PairTongue.units_in" iS t.zY t.wF
 TV:ao K t.wF ["self", "row"] []
 UT:ck K "spell" "PairTongue.spell" lm t.sr t.nz [.int 0 t.ud_PairTongue_spell_0]
 Vx:ao K t.nz ["self", "sign", "page"] [.int 0 t.ud_PairTongue_spell_0]
 TY:ao K t.nz ["self", "sign", "page"] []
 UO:ck K "whole" "PairTongue.whole" kZ t.sk t.ny [.int 0 t.ud_PairTongue_whole_0]
 Vw:ao K t.ny ["self", "row", "page"] [.int 0 t.ud_PairTongue_whole_0]
 TU:ao K t.ny ["self", "row", "page"] []
 UW:ck K "fill" "PairTongue.fill" ly t.sw t.nB [.int 0 t.ud_PairTongue_fill_0]
 Vz:ao K t.nB ["self", "row", "page"] [.int 0 t.ud_PairTongue_fill_0]
 T2:ao K t.nB ["self", "row", "page"] []
 FZ:aG K "begins" "begins" j9 t.zF t.we
 S7:ao K t.we ["one", "other"] []
 QN:mg "begins" = some (.ref t.zF)
 FF:aG K "places_in" "places_in" jS t.zj t.vH
 SL:ao K t.vH ["signs", "which"] []
 Qh:mg "places_in" = some (.ref t.zj)
 UB:aG K "__init__" "ShiftTongue.__init__" kL t.rW t.qo
 Tz:ao K t.qo ["self", "first", "second"] []
 UA:aG K "row_beyond" "ShiftTongue.row_beyond" kK t.zS t.wt
 Tx:ao K t.wt ["self", "page"] []
 Uy:ck K "spell" "ShiftTongue.spell" kI t.rV t.nj [.int 0 t.ud_ShiftTongue_spell_0]
 Vu:ao K t.nj ["self", "sign", "page"] [.int 0 t.ud_ShiftTongue_spell_0]
 Tr:ao K t.nj ["self", "sign", "page"] []
 Uz:aG K "sign_of" "ShiftTongue.sign_of" kJ t.zR t.wq
 Tv:ao K t.wq ["self", "byte", "page"] []
 Ux:ck K "whole" "ShiftTongue.whole" kH t.rT t.ni [.int 0 t.ud_ShiftTongue_whole_0]
 Vt:ao K t.ni ["self", "row", "page"] [.int 0 t.ud_ShiftTongue_whole_0]
 Tq:ao K t.ni ["self", "row", "page"] []
 UC:ck K "fill" "ShiftTongue.fill" kM t.rX t.nk [.int 0 t.ud_ShiftTongue_fill_0]
 Vv:ao K t.nk ["self", "row", "page"] [.int 0 t.ud_ShiftTongue_fill_0]
 TB:ao K t.nk ["self", "row", "page"] []
 FR:aG K "is_entry" "is_entry" j2 t.zx t.vV
 SZ:ao K t.vV ["thing"] []
 Qx:mg "is_entry" = some (.ref t.zx)
 FU:aG K "collide" "collide" j5 t.zA t.vY
 S2:ao K t.vY ["one", "other"] []
 QH:mg "collide" = some (.ref t.zA)
 FV:aG K "check_table" "check_table" j6 t.zB t.vZ
 S3:ao K t.vZ ["rows"] []
 QJ:mg "check_table" = some (.ref t.zB)
 Uu:aG K "__init__" "TableTongue.__init__" kE t.rR t.qm
 Tn:ao K t.qm ["self", "rows"] []
 Uw:aG K "enter" "TableTongue.enter" kG t.zQ t.wp
 Tp:ao K t.wp ["self", "sign", "row"] []
 Ut:ck K "spell" "TableTongue.spell" kD t.rQ t.m8 [.int 0 t.ud_TableTongue_spell_0]
 Vr:ao K t.m8 ["self", "sign", "page"] [.int 0 t.ud_TableTongue_spell_0]
 Tm:ao K t.m8 ["self", "sign", "page"] []
 Us:ck K "whole" "TableTongue.whole" kA t.rP t.mZ [.int 0 t.ud_TableTongue_whole_0]
 Vq:ao K t.mZ ["self", "row", "page"] [.int 0 t.ud_TableTongue_whole_0]
 Tl:ao K t.mZ ["self", "row", "page"] []
 Uv:ck K "fill" "TableTongue.fill" kF t.rS t.m9 [.int 0 t.ud_TableTongue_fill_0]
 Vs:ao K t.m9 ["self", "row", "page"] [.int 0 t.ud_TableTongue_fill_0]
 To:ao K t.m9 ["self", "row", "page"] []
 Fk:aG K "_law_pick" "_law_pick" jE t.yX t.vi
 Sr:ao K t.vi ["_law_script", "_law_k"] []
 PU:mg "_law_pick" = some (.ref t.yX)
 Fi:aG K "_law_plain" "_law_plain" jC t.yV t.vf
 So:ao K t.vf ["_law_found"] []
 PQ:mg "_law_plain" = some (.ref t.yV)
 Ff:aG K "_law_sign" "_law_sign" jz t.yS t.va
 Sl:ao K t.va ["_law_number"] []
 PM:mg "_law_sign" = some (.ref t.yS)
 Fh:aG K "_law_pool" "_law_pool" jB t.yU t.ve
 Sn:ao K t.ve ["_law_cell"] []
 PP:mg "_law_pool" = some (.ref t.yU)
 Fe:aG K "_law_table" "_law_table" iL t.yR t.uZ
 Sk:ao K t.uZ ["_law_pool_here", "_law_cell"] []
 PL:mg "_law_table" = some (.ref t.yR)
 Fc:aG K "_law_tongue" "_law_tongue" io t.yP t.uX
 Si:ao K t.uX ["_law_pool_here", "_law_cell"] []
 PJ:mg "_law_tongue" = some (.ref t.yP)
 Fn:aG K "_law_has" "_law_has" jG t.y0 t.vm
 Sv:ao K t.vm ["_law_tongue_here", "_law_sign_here", "_law_page"] []
 PY:mg "_law_has" = some (.ref t.y0)
 Fd:aG K "_law_text" "_law_text" jy t.yQ t.uY
 Sj:ao K t.uY ["_law_pool_here", "_law_tongue_here", "_law_cells"] []
 PK:mg "_law_text" = some (.ref t.yQ)
 Fj:aG K "_law_pieces" "_law_pieces" jD t.yW t.vg
 Sq:ao K t.vg ["_law_row", "_law_cells"] []
 PR:mg "_law_pieces" = some (.ref t.yW)
 Fg:aG K "_law_pot" "_law_pot" jA t.yT t.vd
 Sm:ao K t.vd ["_law_cell"] []
 PN:mg "_law_pot" = some (.ref t.yT)
 Fz:aG K "_law_digit" "_law_digit" jL t.zd t.vB
 SE:ao K t.vB ["_law_pot_here", "_law_many"] []
 P8:mg "_law_digit" = some (.ref t.zd)
 Fy:aG K "_law_digits" "_law_digits" iO t.zc t.vA
 SD:ao K t.vA ["_law_cell", "_law_base", "_law_most"] []
 P7:mg "_law_digits" = some (.ref t.zc)
 Fv:aG K "_law_free_lists" "_law_free_lists" jI t.y9 t.vx
 SA:ao K t.vx ["_law_pot_here"] []
 P4:mg "_law_free_lists" = some (.ref t.y9)
 Fr:aG K "_law_free_table" "_law_free_table" gL t.y7 t.vt
 Sy:ao K t.vt ["_law_pot_here"] []
 P2:mg "_law_free_table" = some (.ref t.y7)
 FA:aG K "_law_any_sign" "_law_any_sign" jM t.ze t.vC
 SG:ao K t.vC ["_law_number"] []
 P9:mg "_law_any_sign" = some (.ref t.ze)
 Fw:aG K "_law_fits" "_law_fits" jJ t.za t.vy
 SB:ao K t.vy ["_law_row", "_law_rows"] []
 P5:mg "_law_fits" = some (.ref t.za)
 Fo:aG K "_law_free_tongue" "_law_free_tongue" iN t.y4 t.vo
 Sw:ao K t.vo ["_law_cell"] []
 PZ:mg "_law_free_tongue" = some (.ref t.y4)
 Fq:aG K "_law_free_text" "_law_free_text" ip t.y6 t.vp
 Sx:ao K t.vp ["_law_signs", "_law_cells", "_law_most"] []
 P0:mg "_law_free_text" = some (.ref t.y6)
 Fu:aG K "_law_free_pieces" "_law_free_pieces" jH t.y8 t.vw
 Sz:ao K t.vw ["_law_row", "_law_cell"] []
 P3:mg "_law_free_pieces" = some (.ref t.y8)
 Fm:aG K "_law_is_row" "_law_is_row" iM t.yZ t.vk
 Su:ao K t.vk ["_law_found"] []
 PX:mg "_law_is_row" = some (.ref t.yZ)
 Fl:aG K "_law_led" "_law_led" jF t.yY t.vj
 Ss:ao K t.vj ["_law_first", "_law_second", "_law_pieces_here"] []
 PV:mg "_law_led" = some (.ref t.yY)
 Fx:aG K "_law_drawn" "_law_drawn" jK t.zb t.vz
 SC:ao K t.vz ["_law_script"] []
 P6:mg "_law_drawn" = some (.ref t.zb)
 Ak:aG K "law" "law" iq t.zp t.qg
 SS:ao K t.qg ["_law_script"] []
 DU:mg "law" = some (.ref t.zp)
 PD:mg "Reader" = some (.ref t.bP)
 bq:cA K t.bP
 Nm:Mk K t.bP t.sd
 M0:aW K t.bP "faults" t.si
 MZ:aW K t.bP "feed" t.sf
 M3:aW K t.bP "end" t.sj
 MV:aW K t.bP "take" t.rY
 MY:aW K t.bP "look_at_begun" t.r9
 MW:aW K t.bP "meet_none" t.rZ
 MX:aW K t.bP "meet" t.zX
 Vi:aW K t.bP "note" t.zW
 lF:bL K t.bP "at_page"
 gU:bL K t.bP "begun"
 iY:bL K t.bP "ended"
 Cz:bL K t.bP "many"
 Cw:bL K t.bP "met"
 Mr:bL K t.bP "place"
 gT:bL K t.bP "tongue"
 Vb:∀H a dx fs,H a=some (.ins t.bP dx fs)->cj K H (.ref a) (.ref t.bP)
 PH:mg "GoingReader" = some (.ref t.d9)
 Vl:cA K t.d9
 No:Mk K t.d9 t.Ac
 mt_GoingReader_faults:aW K t.d9 "faults" t.si
 mt_GoingReader_feed:aW K t.d9 "feed" t.sf
 mt_GoingReader_end:aW K t.d9 "end" t.sj
 mt_GoingReader_take:aW K t.d9 "take" t.rY
 mt_GoingReader_look_at_begun:aW K t.d9 "look_at_begun" t.r9
 mt_GoingReader_meet_none:aW K t.d9 "meet_none" t.rZ
 mt_GoingReader_note:aW K t.d9 "note" t.zW
 Vh:bL K t.d9 "begun"
 Vg:bL K t.d9 "way"
 Ve:∀H a dx fs,H a=some (.ins t.d9 dx fs)->cj K H (.ref a) (.ref t.d9)
 PC:mg "SeenSpeller" = some (.ref t.eG)
 yb:cA K t.eG
 Nl:Mk K t.eG t.zV
 MU:aW K t.eG "spell" t.zU
 Cv:bL K t.eG "tongue"
 Va:∀H a dx fs,H a=some (.ins t.eG dx fs)->cj K H (.ref a) (.ref t.eG)
 PB:mg "SeenWriter" = some (.ref t.d8)
 gz:cA K t.d8
 Nk:Mk K t.d8 t.zT
 mt_SeenWriter_feed:aW K t.d8 "feed" t.rN
 mF:bL K t.d8 "at_page"
 ug:bL K t.d8 "tongue"
 U9:∀H a dx fs,H a=some (.ins t.d8 dx fs)->cj K H (.ref a) (.ref t.d8)
 Px:mg "Turner" = some (.ref t.bO)
 cQ:cA K t.bO
 Nh:Mk K t.bO t.zK
 MC:aW K t.bO "lacks" t.zJ
 ME:aW K t.bO "faults" t.zM
 MD:aW K t.bO "feed" t.zL
 MF:aW K t.bO "end" t.zN
 MB:aW K t.bO "turned" t.zI
 MA:aW K t.bO "turned_one" t.zH
 ud:bL K t.bO "lacking"
 uc:bL K t.bO "many"
 pC:bL K t.bO "reader"
 ua:bL K t.bO "stead"
 t0:bL K t.bO "writer"
 U5:∀H a dx fs,H a=some (.ins t.bO dx fs)->cj K H (.ref a) (.ref t.bO)
 DO:mg "Tongue" = some (.ref t.df)
 nK:cA K t.df
 CA:sM K t.df
 MH:aW K t.df "unit" t.gC
 MI:aW K t.df "spell" t.rO
 MG:aW K t.df "whole" t.zO
 MK:aW K t.df "fill" t.zP
 MJ:aW K t.df "look" t.fD
 U6:∀H a dx fs,H a=some (.ins t.df dx fs)->cj K H (.ref a) (.ref t.df)
 DP:mg "LeadTongue" = some (.ref t.dg)
 nM:cA K t.dg
 CB:sM K t.dg
 Nd:aW K t.dg "spell" t.sy
 Nb:aW K t.dg "whole" t.sx
 Nf:aW K t.dg "fill" t.sD
 mt_LeadTongue_unit:aW K t.dg "unit" t.gC
 mt_LeadTongue_look:aW K t.dg "look" t.fD
 Vd:∀H a dx fs,H a=some (.ins t.dg dx fs)->cj K H (.ref a) (.ref t.dg)
 PF:mg "PairTongue" = some (.ref t.cb)
 fS:cA K t.cb
 Nn:Mk K t.cb t.sv
 M6:aW K t.cb "unit" t.zZ
 M7:aW K t.cb "turned" t.Aa
 M9:aW K t.cb "row_of" t.Ab
 M5:aW K t.cb "units_in" t.zY
 M8:aW K t.cb "spell" t.sr
 M4:aW K t.cb "whole" t.sk
 Na:aW K t.cb "fill" t.sw
 mt_PairTongue_look:aW K t.cb "look" t.fD
 uh:bL K t.cb "order"
 Vc:∀H a dx fs,H a=some (.ins t.cb dx fs)->cj K H (.ref a) (.ref t.cb)
 Pz:mg "ShiftTongue" = some (.ref t.bC)
 cR:cA K t.bC
 Nj:Mk K t.bC t.rW
 MS:aW K t.bC "row_beyond" t.zS
 MQ:aW K t.bC "spell" t.rV
 MR:aW K t.bC "sign_of" t.zR
 MP:aW K t.bC "whole" t.rT
 MT:aW K t.bC "fill" t.rX
 mt_ShiftTongue_unit:aW K t.bC "unit" t.gC
 mt_ShiftTongue_look:aW K t.bC "look" t.fD
 pF:bL K t.bC "lists"
 iX:bL K t.bC "places"
 pE:bL K t.bC "shifted"
 U8:∀H a dx fs,H a=some (.ins t.bC dx fs)->cj K H (.ref a) (.ref t.bC)
 Py:mg "TableTongue" = some (.ref t.bK)
 dQ:cA K t.bK
 Ni:Mk K t.bK t.rR
 MO:aW K t.bK "enter" t.zQ
 MM:aW K t.bK "spell" t.rQ
 ML:aW K t.bK "whole" t.rP
 MN:aW K t.bK "fill" t.rS
 mt_TableTongue_unit:aW K t.bK "unit" t.gC
 mt_TableTongue_look:aW K t.bK "look" t.fD
 uf:bL K t.bK "rest_by_row"
 pD:bL K t.bK "row_by_sign"
 ue:bL K t.bK "sign_by_row"
 U7:∀H a dx fs,H a=some (.ins t.bK dx fs)->cj K H (.ref a) (.ref t.bK)
 Pw:mg "Writer" = some (.ref t.EB)
 Sc:E4 K t.EB t.zG
 hZ:mg "NoSign" = some (.ref t.bc)
 lK:mg "TongueError" = some (.ref t.qu)
 An:nS K t.bc
 xm_NoSign_NoSign:PySem.W.exmOne K (.ref t.bc) (.ref t.bc)=some true
 gy:dm K t.bc ic "ValueError.__new__" = true
 lS:PySem.W.findIn K (.ref t.bc) "__init__" = some (some (.ref t.nQ))
 lR:PySem.W.isFn K (.ref t.nQ)=true
 lQ:PySem.W.keepIn K (.ref t.bc)=true
 lP:PySem.W.findIn K (.ref t.bc) "__setattr__" = some (some (.builtin "object.__setattr__"))
 en_NoSign_at:PySem.W.findIn K (.ref t.bc) "at" = some none
 en_NoSign_sign:PySem.W.findIn K (.ref t.bc) "sign" = some none
 eb_0:PySem.W.specialIn K (.ref t.qu) "__getattribute__" = some (some (.builtin "type.__getattribute__"))
 eb_1:PySem.W.readsIn K t.qu (.type "type")=true
 eb_2:PySem.W.findCls K (.ref t.qu) (.type "type") "__init__" = some (.val (.builtin "ValueError.__init__"))
 EI:mg "BITS" = some (.int 6 t.GJ)
 EH:mg "BYTE_BITS" = some (.int 8 t.GI)
 EG:mg "FILLS" = some (.ref t.Ad)
 Ei:n6 K w t.Ad [(t.h_FILLS_0, "high",t.a_FILLS_0),(t.h_FILLS_1, "low",t.a_FILLS_1)]
 q_FILLS_0:∀H,be K H t.a_FILLS_0 (([t.a_FILLS_0_0,t.a_FILLS_0_1,t.a_FILLS_0_2,t.a_FILLS_0_3,t.a_FILLS_0_4]:List Addr).map V.ref)
 q_FILLS_0_0:∀H,be K H t.a_FILLS_0_0 (([]:g0).map V.int)
 q_FILLS_0_1:∀H,be K H t.a_FILLS_0_1 (([0]:g0).map V.int)
 q_FILLS_0_2:∀H,be K H t.a_FILLS_0_2 (([0,0]:g0).map V.int)
 q_FILLS_0_3:∀H,be K H t.a_FILLS_0_3 (([220,0]:g0).map V.int)
 q_FILLS_0_4:∀H,be K H t.a_FILLS_0_4 (([0,220,0]:g0).map V.int)
 q_FILLS_1:∀H,be K H t.a_FILLS_1 (([t.a_FILLS_1_0,t.a_FILLS_1_1,t.a_FILLS_1_2,t.a_FILLS_1_3,t.a_FILLS_1_4]:List Addr).map V.ref)
 q_FILLS_1_0:∀H,be K H t.a_FILLS_1_0 (([]:g0).map V.int)
 q_FILLS_1_1:∀H,be K H t.a_FILLS_1_1 (([0]:g0).map V.int)
 q_FILLS_1_2:∀H,be K H t.a_FILLS_1_2 (([220]:g0).map V.int)
 q_FILLS_1_3:∀H,be K H t.a_FILLS_1_3 (([0,0]:g0).map V.int)
 q_FILLS_1_4:∀H,be K H t.a_FILLS_1_4 (([0,220]:g0).map V.int)
 rJ:mg "FIRST_BEHIND" = some (.int 128 t.GH)
 yH:mg "FIRST_HEAD" = some (.int 55296 t.GG)
 EF:mg "FIRST_SEEN" = some (.int 61184 t.GF)
 rH:mg "FIRST_TAIL" = some (.int 56320 t.GE)
 yG:mg "FIRST_WIDE" = some (.int 65536 t.GD)
 EE:mg "HALF_BITS" = some (.int 10 t.GC)
 ED:mg "LAST_BEHIND" = some (.int 191 t.GB)
 R0:mg "LAST_BYTE" = some (.int 255 t.GA)
 RZ:mg "LAST_SEEN" = some (.int 61439 t.Gz)
 RY:mg "LAST_SIGN" = some (.int 1114111 t.Gy)
 RX:mg "LAST_TAIL" = some (.int 57343 t.Gx)
 EC:mg "LEADS" = some (.ref t.nR)
 B8:∀H,be K H t.nR (([0,0,192,224,240]:g0).map V.int)
 Vk:∃o,K.lookup t.nR=some o/\o.cls=.type "tuple"/\o.dict=none
 RW:mg "MOST_BYTES" = some (.int 6 t.Gw)
 RV:mg "MOST_SIGNS" = some (.int 250 t.Gv)
 RU:mg "MOST_TUPLES" = some (.int 64 t.Gu)
 RT:mg "SECONDS" = some (.ref t.EU)
 Rr:sT K t.EU [(224,t.a_SECONDS_0),(237,t.a_SECONDS_1),(238,t.a_SECONDS_2),(240,t.a_SECONDS_3),(244,t.a_SECONDS_4)]
 q_SECONDS_0:∀H,be K H t.a_SECONDS_0 (([160,191]:g0).map V.int)
 q_SECONDS_1:∀H,be K H t.a_SECONDS_1 (([128,159]:g0).map V.int)
 q_SECONDS_2:∀H,be K H t.a_SECONDS_2 (([128,187]:g0).map V.int)
 q_SECONDS_3:∀H,be K H t.a_SECONDS_3 (([144,191]:g0).map V.int)
 q_SECONDS_4:∀H,be K H t.a_SECONDS_4 (([128,143]:g0).map V.int)
 yF:mg "SHIFTS" = some (.ref t.lU)
 tW:∀H,be K H t.lU (([254,255]:g0).map V.int)
 Vj:∃o,K.lookup t.lU=some o/\o.cls=.type "tuple"/\o.dict=none
 n_all:mg "all" = none
 n_bool:mg "bool" = none
 n_enumerate:mg "enumerate" = none
 n_int:mg "int" = none
 n_isinstance:mg "isinstance" = none
 n_len:mg "len" = none
 n_list:mg "list" = none
 n_min:mg "min" = none
 n_range:mg "range" = none
 n_reversed:mg "reversed" = none
 n_str:mg "str" = none
 n_tuple:mg "tuple" = none
end My
namespace My
open PySem L2
def gq:V->Bool
 | .int _=>true
 | _=>false
def cN(v:V)(lo a:Int):Bool:=match v with
 | .int i=>decide (lo<=i) && decide (i<=a)
 | _=>false
def cv(v:V):Bool:=cN v 0 1114111 && !(cN v 55296 57343) && !(cN v 61184 61439)
def ut{v:V}(h:gq v=true):∃i,v=.int i:=by
 cases v<;>first|exact⟨_,rfl⟩|cases h
def ju(f:V->Bool)(K:PySem.W.Frag):Sp:=λvs H Q _=>∃v,vs=[v]/\eA K H v/\Q (.bl (f v)) H
def tJ(f:Int->Bool):Sp:=λvs H Q _=>∃i,vs=[.int i]/\Q (.bl (f i)) H
def mK{f:V->Bool}{K:PySem.W.Frag}{x:Str}:∀vs H Q E,ju f K vs H Q E->vs.length=[x].length:=λvs H Q E h=>by
 obtain⟨v,rfl,_⟩:=h
 rfl
def C7{f:Int->Bool}{x:Str}:∀vs H Q E,tJ f vs H Q E->vs.length=[x].length:=λvs H Q E h=>by
 obtain⟨v,rfl,_⟩:=h
 rfl
def Sg(n:Int):Prop:=0<=n/\n<=1114111/\¬(55296<=n/\n<=57343)/\¬(61184<=n/\n<=61439)
def fJ(n:Int):cv (.int n)=true ↔ Sg n:=by
 unfold cv cN Sg;simp;omega
def dW(n:Int):g0:=if n<65536 then [n] else [55296+(n-65536)/1024,56320+(n-65536)%1024]
def ub(h:Bool)(m:Int):g0:=if h then [m/256,m%256] else [m%256,m/256]
def cg(h:Bool)(n:Int):g0:=(dW n).flatMap (ub h)
def gS(h:Bool):Str:=if h then "high" else "low"
def l7(h:Bool)(m:Int):(ub h m).length=2:=by unfold ub;cases h<;>rfl
def Aw(n:Int):(dW n).length<=2:=by
 unfold dW;by_cases c:n<65536
 ·rw[YB c];simp
 ·rw[YA c];simp
def Ax{n u:Int}(h:Sg n)(a:u∈dW n):0<=u/\u<65536:=by
 obtain⟨b,d,_,_⟩:=h;unfold dW at a;by_cases c:n<65536
 ·rw[YB c]at a;simp at a;omega
 ·rw[YA c]at a;simp at a;omega
def qc(h:Bool)(us:g0):(us.flatMap (ub h)).length=2*us.length:=by
 induction us with
 | nil=>rfl
 | cons a r ih=>rw[X4,Wb,l7,ih,WE];omega
def B9(h:Bool)(n:Int):(cg h n).length<=4:=by
 unfold cg;rw[qc];have:=Aw n;omega
def u2(h:Bool)(x y:Int):Int:=if h then x*256+y else y*256+x
def da(h:Bool):g0->g0
 | x::y::r=>u2 h x y::da h r
 | _=>[]
def iJ:g0->Option Int
 | [u]=>if cv (.int u) then some u else none
 | [u,v]=>if (55296<=u/\u<56320)/\56320<=v/\v<=57343 then some (65536+((u-55296)*1024+(v-56320))) else none
 | _=>none
def eY(h:Bool)(r:g0):Option Int:=if r.length=2\/r.length=4 then iJ (da h r) else none
def oV(o:Option Int):V:=o.elim .non V.int
def h7(h:Bool):List (g0):=if h then [[],[0],[0,0],[220,0],[0,220,0]] else [[],[0],[220],[0,0],[0,220]]
def eW(r:g0):Prop:=∀b∈r,0<=b/\b<=255
def eW.app{r s:g0}(a:eW r)(b:eW s):eW (r++s):=λx hx=>by
 rcases Wi.mp hx with h|h
 ·exact a x h
 ·exact b x h
def Q7{h:Bool}{f:g0}(a:f∈h7 h):eW f:=by
 unfold h7 at a;cases h<;>simp at a<;>rcases a with rfl|rfl|rfl|rfl|rfl<;>intro x hx<;>simp at hx<;>omega
def Q6{h:Bool}{f:g0}(a:f∈h7 h):f.length<=3:=by
 unfold h7 at a;cases h<;>simp at a<;>rcases a with rfl|rfl|rfl|rfl|rfl<;>decide
def lb(f:Int):Int:=if f<128 then 1 else if f<194\/244<f then 0 else if f<224 then 2 else if f<240 then 3 else 4
def iZ(f:Int):Int:=if f=224 then 160 else if f=240 then 144 else 128
def i3(f:Int):Int:=if f=237 then 159 else if f=238 then 187 else if f=244 then 143 else 191
def dZ(f:Int)(p:Nat):Int:=if p=1 then iZ f else 128
def ft(f:Int)(p:Nat):Int:=if p=1 then i3 f else 191
def sQ(f:Int)(r:g0):Prop:=∀i x,r[i]? = some x->dZ f (i+1)<=x/\x<=ft f (i+1)
def oa(f:Int)(r:g0):Prop:=(r.length:Int)+1<=lb f/\sQ f r
def sV:g0->Prop
 | []=>True
 | f::r=>oa f r
def gE:g0->Prop
 | []=>False
 | f::r=>oa f r/\(r.length:Int)+1=lb f
def qa:g0->g0
 | []=>[0]
 | f::r=>(List.range (lb f-((r.length:Int)+1)).toNat).map λi=>dZ f (r.length+1+i)
def C8(f:Int):0<=lb f/\lb f<=4:=by unfold lb;repeat' split<;>omega
def NM(f:Int)(p:Nat):128<=dZ f p:=by unfold dZ iZ;repeat' split<;>omega
def Oo(f:Int)(p:Nat):ft f p<=191:=by unfold ft i3;repeat' split<;>omega
def qd(f:Int)(r:g0):sQ f r ↔ (∀x∈r,128<=x/\x<=191)/\∀x,r[0]? = some x->iZ f<=x/\x<=i3 f:=by
 constructor
 ·intro h;refine⟨λx hx=>?_,λx hx=>?_⟩
  ·obtain⟨i,c⟩:=Yt hx;have:=h i x c;have b:=NM f (i+1);have a:=Oo f (i+1);omega
  ·have:=h 0 x hx;simpa [dZ,ft] using this
 ·rintro⟨b,a⟩ i x hx;cases i with
  | zero=>simpa [dZ,ft] using a x hx
  | succ i =>
   have:=b x (Wo hx);simp only [dZ,ft];rw[YA (by omega),YA (by omega)];exact this
def row(n:Int):g0:=if n<128 then [n] else if n<2048 then [192+n/64,128+n%64] else if n<65536 then [224+n/4096,128+n/64%64,128+n%64] else [240+n/262144,128+n/4096%64,128+n/64%64,128+n%64]
def tT(n:Int):1<=(row n).length/\(row n).length<=4:=by
 unfold row;by_cases c1:n<128
 ·rw[YB c1];simp
 rw[YA c1];by_cases c2:n<2048
 ·rw[YB c2];simp
 rw[YA c2];by_cases c3:n<65536
 ·rw[YB c3];simp
 rw[YA c3];simp
def bY{α β:Type}(R:α->β->Prop)(xs:List α)(a:List β):Prop:=xs.length=a.length/\∀(i:Nat) x y,xs[i]? = some x->a[i]? = some y->R x y
def bY.nil{α β:Type}{R:α->β->Prop}:bY R [] []:=⟨rfl,λi x y h=>by simp at h⟩
def bY.cons{α β:Type}{R:α->β->Prop}{x:α}{y:β}{xs:List α}{d:List β}(h:R x y)(t:bY R xs d):bY R (x::xs) (y::d):=⟨by simp[t.1],λi a b c hb=>by
 cases i with
 | zero=>simp at c hb;subst c hb;exact h
 | succ i=>exact t.2 i a b (by simpa using c) (by simpa using hb)⟩
def bY.imp{α β:Type}{R S:α->β->Prop}{xs:List α}{c:List β}(h:bY R xs c)(k:∀x y,R x y->S x y):bY S xs c:=⟨h.1,λi x y a b=>k x y (h.2 i x y a b)⟩
def bY.app{α β:Type}{R:α->β->Prop}{xs us:List α}{c vs:List β}(h:bY R xs c)(k:bY R us vs):bY R (xs++us) (c++vs):=by
 refine⟨by simp[h.1,k.1],λi x y a b=>?_⟩;by_cases hi:i<xs.length
 ·rw[W6 hi]at a;rw[W6 (by rw[<- h.1];exact hi)]at b;exact h.2 i x y a b
 ·rw[W5 (by omega)]at a;rw[W5 (by rw[<- h.1];omega),<- h.1]at b;exact k.2 _ x y a b
def bY.right{α β:Type}{R:α->β->Prop}{xs:List α}{a:List β}(h:bY R xs a){i:Nat}{x:α}(hx:xs[i]? = some x):∃y,a[i]? = some y/\R x y:=by
 have c:=(V8.mp hx).1;have b:a[i]? = some (a[i]'(by rw[<- h.1];exact c)):=by simp
 exact⟨_,b,h.2 i x _ hx b⟩
def bY.left{α β:Type}{R:α->β->Prop}{xs:List α}{b:List β}(h:bY R xs b){i:Nat}{y:β}(a:b[i]? = some y):∃x,xs[i]? = some x/\R x y:=by
 have c:=(V8.mp a).1;have hx:xs[i]? = some (xs[i]'(by rw[h.1];exact c)):=by simp
 exact⟨_,hx,h.2 i _ y hx a⟩
def Kp(a:Addr)(H b:Hp):Prop:=∀c u,c≠a->H c=some u->b c=some u
def Kp.trans{a:Addr}{H d b:Hp}(h:Kp a H d)(h':Kp a d b):Kp a H b:=λc u n e=>h' c u n (h c u n e)
def Kp.of{a:Addr}{H b:Hp}(h:ah H b):Kp a H b:=λc u _ e=>h c u e
def Kp.upd{a:Addr}{H:Hp}{o:HO}:Kp a H (upd H a o):=λc u n e=>by rw[ap n];exact e
end My
namespace My
open PySem L2
section
variable {P:Program}{w:World}{K:PySem.W.Frag}{mg:Str->Option Value}{base:Heap}{t:Adr}
def HF:Sp:=λvs H Q _=>∃(n:Int) (b:Nat),vs=[.int n,.int (b:Int)]/\0<=n/\n<2 ^ b/\Q .non H
def DC (T:Txt w K mg t):bh P w K mg base "check_room" 1 t.zC t.wa ["number", "bits"] HF:=by
 refine⟨T.QK,T.FW.kp,T.S4,T.FW.okQ Jd (λvs H Q E h=>by obtain⟨n,b,rfl,_⟩:=h;rfl) λ_ _ _ _ H vs Q E hr h=>?_⟩;obtain⟨n,b,rfl,a,c,k⟩:=h;refine⟨_,(ak (aQ (cG (dy (aJ dl (aa 0) aj (aM _)) (eB (aJ lL (BY (K:=K) Z PySem.F.plainAttrs_int PySem.F.slot_int_bit_length PySem.F.type_int_bit_length Nq (aa 0)) (aa 1) (aM _))))) (ak iV) aR)),?_⟩;refine aw (λe=>YC (YD e) (by omega)) (λ_=>?_);refine⟨rfl,?_⟩;have hb:Builtin.Int.intBits n<=b:=intBits_le_iff.mpr (by
  have:(n.natAbs:Int)<((2 ^ b:Nat):Int):=by rw[X5 a,X6];exact c
  exact X7.mp this)
 refine aw (λe=>YC (YD e) (by omega)) (λ_=>?_);exact k
def Hq(K:PySem.W.Frag):Sp:=λvs H Q _=>∃(a:Addr) (ps:g0) (b:Nat),vs=[.ref a,.int (b:Int)]/\aI K H a (ps.map V.int)/\(∀p∈ps,0<=p/\p<2 ^ b)/\b<=1000/\ps.length<=1000/\Q (.int (bZ b ps)) H
def uH (T:Txt w K mg t):bh P w K mg base "together" 2 t.zh t.vF ["parts", "bits"] (Hq K):=by
 refine⟨T.Qc,T.FD.kp,T.SJ,T.FD.okQ oO (λvs H Q E h=>by obtain⟨a,ps,b,rfl,_⟩:=h;rfl) λ_ _ _ _ H vs Q E hr h=>?_⟩;obtain⟨a,ps,b,rfl,o,n,hb,hl,k⟩:=h;refine⟨_,(ai (aF (i:=2) oO.nd Z (.inl Z) aj)
  (ai (cm PassesOwn.never rfl (cO (K:=K) rfl (aa 0)) (bb (i:=3) oO.nd rfl (.inl rfl)) (ai (bE (aE (DC T) hr (ad (aa 3) (ad (aa 1) ae))))
  (ak (aF (i:=2) oO.nd rfl (.inl rfl) (aO (VQ K) (aO DS (aa 2) (aa 1)) (aa 3))))))
  (ak (aq (aa 2))))),?_⟩
 refine⟨a,rfl,⟨_,o⟩,fP (K:=K) (a:=a) (xs:=ps.map V.int) (λi σ m=>m=H/\∃g,σ=[some (.ref a),some (.int b),some (.int (bZ b (ps.take i))),g]) ⟨rfl,_,rfl⟩ (λi σ m _ z=>by rw[z.1];exact o) ?_ ?_⟩
 ·rintro i x σ s d ⟨rfl,g,rfl⟩;obtain⟨p,j,rfl⟩:∃p,ps[i]? = some p/\x=.int p:=by
   rw[We]at d;cases e:ps[i]? with
   | none=>rw[e]at d;cases d
   | some p=>rw[e]at d;cases d;exact⟨p,Z,Z⟩
  have c:=n p (Wo j);refine⟨p,b,Z,c.1,c.2,?_⟩;have u:i<ps.length:=(V8.mp j).1;have ht:=GS (b:=b) (ps:=ps.take i) λq v=>n q (X8 v);have f:Builtin.Int.intBits (bZ b (ps.take i))<=b*(ps.take i).length:=intBits_le_iff.mpr (by
   have:((bZ b (ps.take i)).natAbs:Int)<((2 ^ (b*(ps.take i).length):Nat):Int):=by rw[X5 ht.1,X6];exact ht.2
   exact X7.mp this)
  have l:(ps.take i).length<=1000:=by rw[Wa];omega
  have r:b*(ps.take i).length<=1000000:=Nat.mul_le_mul hb l;refine⟨⟨by omega,show ((Builtin.Int.intBits (bZ b (ps.take i)):Nat):Int)+(b:Int)<=2 ^ 27 by omega⟩,?_⟩;refine⟨rfl,?_⟩;have e:ps.take (i+1)=ps.take i++[p]:=by rw[XE,j];rfl
  rw[e,GR];exact⟨_,Z⟩
 ·rintro σ s ⟨rfl,g,rfl⟩;rw[V4,Wg];exact k
def uJ (T:Txt w K mg t):bh P w K mg base "is_number" 1 t.zv t.vT ["thing"] (ju gq K):=by
 refine⟨T.Qv,T.FP.kp,T.SX,T.FP.okQ IZ mK λ_ _ _ _ H vs Q E hr h=>?_⟩;obtain⟨v,rfl,c,k⟩:=h;refine⟨_,(ak (aq (iu (bp (VR K) T.n_isinstance WS (ad (aa 0) (ad (gR Z T.n_int Xe) ae))) (gP (B1 (bp (VR K) T.n_isinstance WS (ad (aa 0) (ad (gR Z T.n_bool Yu) ae)))))))),?_⟩;obtain⟨ty,a,b⟩:=c.isInt;refine⟨ty,_,a,b,?_⟩;refine aw (λe=>?_) (λe=>?_)
 ·obtain⟨ty,a,b⟩:=c.isBl;refine⟨ty,_,a,b,?_⟩;exact bM k (by cases v<;>simp_all [gq,pM,pN])
 ·exact bM k (by cases v<;>simp_all [gq,pM])
def DB (T:Txt w K mg t):bh P w K mg base "is_head" 1 t.zw t.vU ["number"] (tJ λi=>decide (55296<=i) && decide (i<56320)):=by
 refine⟨T.Qw,T.FQ.kp,T.SY,T.FQ.okQ I0 C7 λ_ _ _ _ H vs Q E hr h=>?_⟩;obtain⟨i,rfl,k⟩:=h;refine⟨_,(ak (aq (my eQ dl (bQ T.yH) (aa 0) (bQ T.rH)))),?_⟩;refine aw (λa=>?_) (λa=>?_)
 ·exact bM k (by simp at *;omega)
 ·exact bM k (by simp at *;omega)
def Dz (T:Txt w K mg t):bh P w K mg base "is_tail" 1 t.zq t.vO ["number"] (tJ λi=>decide (56320<=i) && decide (i<=57343)):=by
 refine⟨T.Qr,T.FL.kp,T.ST,T.FL.okQ IU C7 λ_ _ _ _ H vs Q E hr h=>?_⟩;obtain⟨i,rfl,k⟩:=h;refine⟨_,(ak (aq (my eQ eQ (bQ T.rH) (aa 0) (bQ T.RX)))),?_⟩;refine aw (λa=>?_) (λa=>?_)
 ·exact bM k (by simp at *;omega)
 ·exact bM k (by simp at *;omega)
def DA (T:Txt w K mg t):bh P w K mg base "is_seen_byte" 2 t.zt t.vQ ["thing"] (ju (λv=>cN v 61184 61439) K):=by
 refine⟨T.Qt,T.FN.kp,T.SV,T.FN.okQ IW mK λ_ _ _ _ H vs Q E hr h=>?_⟩;obtain⟨v,rfl,a,k⟩:=h;refine⟨_,(ak (aq (iu (aE (uJ T) hr (ad (aa 0) ae)) (gP (my eQ eQ (bQ T.EF) (aa 0) (bQ T.RZ)))))),?_⟩;refine⟨v,Z,a,?_⟩;refine aw (λe=>?_) (λe=>?_)
 ·obtain⟨i,rfl⟩:=ut e;refine aw (λb=>?_) (λb=>?_)
  ·exact bM k (by simp[cN]at *;omega)
  ·exact bM k (by simp[cN]at *;omega)
 ·exact bM k (by cases v<;>simp_all [gq,cN])
def i4 (T:Txt w K mg t):bh P w K mg base "is_sign" 3 t.zr t.vP ["thing"] (ju cv K):=by
 refine⟨T.Qs,T.FM.kp,T.SU,T.FM.okQ IV mK λ_ _ _ _ H vs Q E hr h=>?_⟩;obtain⟨v,rfl,a,k⟩:=h;refine⟨_,(ai (aQ (cG (dy (dz (cV (aE (uJ T) hr (ad (aa 0) ae)))) (eB (dz (BZ eQ eQ aj (aa 0) (bQ T.RY)))))) (ak (aq fO)) aR)
  (ak (aq (B1 (oZ (aE (DB T) hr (ad (aa 0) ae)) (oZ (aE (Dz T) hr (ad (aa 0) ae)) (gP (aE (DA T) hr (ad (aa 0) ae))))))))),?_⟩
 refine⟨v,Z,a,?_⟩;refine aw (λe=>?_) (λe=>?_)
 ·refine gn ?_;exact bM k (by cases v<;>simp_all [gq,cN,cv])
 ·obtain⟨i,rfl⟩:=ut (v:=v) (by simpa using e);refine aw (λf=>?_) (λf=>?_)
  ·refine aw (λc=>?_) (λc=>?_)
   ·exact bM k (by simp[cv,cN]at *;omega)
   ·refine⟨i,Z,?_⟩;refine aw (λb=>?_) (λb=>?_)
    ·exact bM k (by simp[cv,cN]at *;omega)
    ·refine⟨i,Z,?_⟩;refine aw (λd=>?_) (λd=>?_)
     ·exact bM k (by simp[cv,cN]at *;omega)
     ·refine⟨_,Z,a,?_⟩;exact bM k (by rw[W1];simp[cv,cN]at *;omega)
  ·refine gn ?_;exact bM k (by simp[cv,cN]at *;omega)
def Hw(K:PySem.W.Frag):Sp:=λvs H Q _=>∃(a:Addr) (us:g0),vs=[.ref a]/\aI K H a (us.map V.int)/\us.length<=2/\∀H',ah H H'->Q (oV (iJ us)) H'
theorem GL:∀ {us:g0},us.length=2->∃u v,us=[u,v]
 | [u,v],_=>⟨u,v,rfl⟩
def GT(x y:Int):bZ 10 [x,y]=x*1024+y:=by
 show (0*2 ^ 10+x)*2 ^ 10+y=_;have:(2:Int) ^ 10=1024:=by decide
 rw[this];omega
def OH (T:Txt w K mg t):bh P w K mg base "sign_of" 4 t.zi t.vG ["units"] (Hw K):=by
 refine⟨T.Qf,T.FE.kp,T.SK,T.FE.okQ IR (λvs H Q E h=>by obtain⟨a,us,rfl,_⟩:=h;rfl) λ_ _ _ _ H vs Q E hr h=>?_⟩;obtain⟨a,us,rfl,d,hl,k⟩:=h;have r:=hr.units;obtain⟨o,i⟩:∃o,o=iJ us:=⟨_,rfl⟩;rw[<- i]at k;obtain⟨L,eL⟩:∃L:Int,L=((us.map V.int).length:Int):=⟨_,rfl⟩;have eL2:L=(us.length:Int):=by rw[eL,V4]
 refine⟨_,(ai (aQ (cG (fL (aJ (ca (K:=K) Z r) (bp (VS K) T.n_len Wj (ad (aa 0) ae)) aj (aM _)) (gf (cV (aE (i4 T) hr (ad (aK (VT K) (aa 0) aj (λ_ _=>rfl)) ae)))))) (ak (aq (aK (VT K) (aa 0) aj (λ_ _=>rfl)))) aR)
  (ai (aQ (cG (fL (aJ (ca (K:=K) rfl r) (bp (VS K) T.n_len Wj (ad (aa 0) ae)) aj (aM _)) (fL (cV (aE (DB T) hr (ad (aK (VT K) (aa 0) aj (λ_ _=>rfl)) ae))) (gf (cV (aE (Dz T) hr (ad (aK (VT K) (aa 0) aj (λ_ _=>rfl)) ae))))))) (ak (aq (aO (VQ K) (bQ T.yG) (aE (uH T) hr (ad (aT (ad (aO c7 (aK (VT K) (aa 0) aj (λ_ _=>rfl)) (bQ T.yH)) (ad (aO c7 (aK (VT K) (aa 0) aj (λ_ _=>rfl)) (bQ T.rH)) ae))) (ad (bQ T.EE) ae)))))) aR)
  (ak (aq bu)))),?_⟩
 have l:∀ {p:Prop} {n:Prop} {b:Bool},(b=true->p)->(b=false->n)->if b=true then p else n:=λ{p n b} x y=>by
  cases b with
  | true=>exact x rfl
  | false=>exact y rfl
 refine⟨_,.inl d,?_⟩;rw[<- eL];refine aw (λe=>?_) (λe=>?_)
 ·have e:L=1:=YD e;obtain⟨u,rfl⟩:∃u,us=[u]:=List.length_eq_one_iff.mp (by omega);refine⟨_,.int u,.inl d,aX (j:=0) Z,?_⟩;refine⟨.int u,Z,.int u,?_⟩;refine aw (λg=>?_) (λg=>?_)
  ·refine⟨_,.int u,.inl d,aX (j:=0) Z,?_⟩;have f:o=some u:=i.trans (YB g);subst f;exact k _ (ah.refl _)
  ·have f:o=none:=i.trans (YA g);subst f;refine⟨_,.inl d,?_⟩;rw[<- eL];refine aw (λc=>YC (YD c) (by omega)) (λ_=>?_);exact k _ (ah.refl _)
 have e:¬L=1:=λz=>e (YE z);refine⟨_,.inl d,?_⟩;rw[<- eL];refine aw (λc=>?_) (λc=>?_)
 ·have c:L=2:=YD c;obtain⟨u,v,rfl⟩:∃u v,us=[u,v]:=GL (by omega);refine⟨_,.int u,.inl d,aX (j:=0) Z,?_⟩;refine⟨u,Z,?_⟩;refine aw (λg=>?_) (λg=>?_)
  ·simp only [Wy,decide_eq_true_eq]at g;refine⟨_,.int v,.inl d,aX (j:=1) Z,?_⟩;refine⟨v,Z,?_⟩;refine aw (λc=>?_) (λc=>?_)
   ·simp only [Wy,decide_eq_true_eq]at c;have f:o=some (65536+((u-55296)*1024+(v-56320))):=i.trans (YB ⟨g,c⟩);subst f;refine⟨_,.int u,.inl d,aX (j:=0) Z,?_⟩;refine⟨_,.int v,.inl d,aX (j:=1) Z,?_⟩;refine⟨sz Z,λB D q=>?_⟩;have C:=GT (u-55296) (v-56320);have s:aI K D B (([u-55296,v-56320]:g0).map V.int):=q.lst;obtain⟨ps,m⟩:∃ps:g0,ps=[u-55296,v-56320]:=⟨_,rfl⟩;rw[<- m]at s C;have F:(2:Int) ^ 10=1024:=by decide
    refine⟨B,ps,10,rfl,s,?_,by decide,by rw[m];simp,?_⟩
    ·intro x hx;rw[m]at hx;simp at hx;rcases hx with rfl|rfl<;>omega
    ·rw[C];exact k _ q.sm
   ·have f:o=none:=i.trans (YA λz=>c (by simp;exact z.2));subst f;exact k _ (ah.refl _)
  ·have f:o=none:=i.trans (YA λz=>g (by simp;exact z.1));subst f;exact k _ (ah.refl _)
 ·have c:¬L=2:=λz=>c (YE z);have z0:us=[]:=List.length_eq_zero_iff.mp (by omega);subst z0;subst i;exact k _ (ah.refl _)
def Po(t:Adr)(H:Hp)(o:Addr)(h:Bool):Prop:=∃dx,H o=some (.ins t.cb dx [("order",.str (gS h))])
def Po.mono{H a:Hp}{o:Addr}{h:Bool}(p:Po t H o h)(s:ah H a):Po t a o h:=let ⟨dx,z⟩:=p;⟨dx,s _ _ z⟩
def Bd(t:Adr):Sp:=λvs H Q _=>∃(x dx:Addr) (h:Bool),vs=[.ref x,.str (gS h)]/\H x=some (.ins t.cb dx [])/\Q .non (upd H x (.ins t.cb dx [("order",.str (gS h))]))
def Mf (T:Txt w K mg t):bn P w K mg base bD 1 t.sv t.nA ["self", "order"] (Bd t):=by
 refine T.UV.okQ JJ (λvs H Q E h=>by obtain⟨x,dx,v,rfl,_⟩:=h;rfl) λ_ _ _ _ H vs Q E hr h=>?_;obtain⟨x,dx,h,rfl,hx,k⟩:=h;refine⟨_,(ai (aQ (cG (dy (dz (cV (bp (VR K) T.n_isinstance WS (ad (aa 1) (ad (gR rfl T.n_str PyProof.Rows.boot_str) ae))))) (eB (aJ (Qj (K:=K) rfl rfl T.Ei) (aa 1) (gh (v:=.ref t.Ad) rfl T.EG rfl) (by with_unfolding_all rfl))))) (ak iV) aR)
  (ak (ce (K:=K) rfl (aa 0) (aa 1)))),?_⟩
 refine⟨_,_,.str _,by with_unfolding_all rfl,?_⟩;refine⟨_,Z,Z,?_⟩;refine aw (λe=>YC e (by cases h<;>simp[gv,gS])) (λ_=>?_);exact⟨x,_,dx,_,rfl,hx,T.fS,T.uh,by decide,k⟩
def Dq (T:Txt w K mg t):ij P w K mg base "PairTongue" t.cb 1 t.sv t.nA ["self", "order"] [] (Bd t):=⟨T.PF,T.Nn,⟨[],T.T0,.nil⟩,Mf T⟩
def OO (T:Txt w K mg t):bh P w K mg base "is_byte" 2 t.zy t.vW ["thing"] (ju (λv=>cN v 0 255) K):=by
 refine⟨T.Qy,T.FS.kp,T.S0,T.FS.okQ Jb mK λ_ _ _ _ H vs Q E hr h=>?_⟩;obtain⟨v,rfl,a,k⟩:=h;refine⟨_,(ak (aq (iu (aE (uJ T) hr (ad (aa 0) ae)) (gP (my eQ eQ aj (aa 0) (bQ T.R0)))))),?_⟩;refine⟨v,Z,a,?_⟩;refine aw (λe=>?_) (λe=>?_)
 ·obtain⟨i,rfl⟩:=ut e;refine aw (λb=>?_) (λb=>?_)
  ·exact bM k (by simp[cN]at *;omega)
  ·exact bM k (by simp[cN]at *;omega)
 ·exact bM k (by cases v<;>simp_all [gq,cN])
def Ho(t:Adr):Sp:=λvs H Q _=>∃(o a:Addr) (h:Bool) (x y:Int),vs=[.ref o,.ref a]/\Po t H o h/\H a=some (.lst [.int x,.int y])/\∀p H',ah H H'->H' p=some (.lst ((if h then [x,y] else [y,x]).map V.int))->Q (.ref p) H'
def DL (T:Txt w K mg t):cy P w K mg base t.cb "turned" 1 t.Aa t.wH ["self", "pair"] (Ho t):=by
 refine⟨T.fS,T.M7,T.TX,T.UR.okQ JH (λvs H Q E h=>by obtain⟨o,a,h,x,y,rfl,_⟩:=h;rfl) λ_ _ _ _ H vs Q E hr h=>?_⟩;obtain⟨o,a,h,x,y,rfl,⟨dx,c⟩,b,k⟩:=h;have d:=hr.units;refine⟨_,(ak (aq (gg (aJ (ca (K:=K) Z d) (aU (K:=K) Z (aa 0)) eM (aM _)) (aa 1) (aT (ad (aK (VT K) (aa 1) aj (λ_ _=>rfl)) (ad (aK (VT K) (aa 1) aj (λ_ _=>rfl)) ae)))))),?_⟩;refine⟨o,_,dx,_,_,Z,c,T.fS,T.uh,Z,?_⟩;cases h with
 | true =>
  refine⟨_,_,ba.str _,ba.str _,by decide +kernel,by decide +kernel,?_⟩;refine aw (λ_=>?_) (λe=>YC (by decide +kernel) e);exact k _ _ (ah.refl _) b
 | false =>
  refine⟨_,_,ba.str _,ba.str _,by decide +kernel,by decide +kernel,?_⟩;refine aw (λe=>YC e (by decide +kernel)) (λ_=>?_);refine⟨_,.int y,.inl (.of b),aX (j:=1) Z,?_⟩;refine⟨_,.int x,.inl (.of b),aX (j:=0) Z,?_⟩;exact⟨sz Z,λp f g=>k _ _ g.sm g.at_⟩
def Hj(K:PySem.W.Frag)(t:Adr):Sp:=λvs H Q _=>∃(o a:Addr) (h:Bool) (r:g0),vs=[.ref o,.ref a]/\Po t H o h/\aI K H a (r.map V.int)/\(r.length=2\/r.length=4)/\eW r/\∀p H',bi H p (.lst ((da h r).map V.int)) H'->Q (.ref p) H'
def Pc (T:Txt w K mg t):cy P w K mg base t.cb "units_in" 3 t.zY t.wF ["self", "row"] (Hj K t):=by
 refine⟨T.fS,T.M5,T.TV,T.UP.okQ JF (λvs H Q E h=>by obtain⟨o,a,h,r,rfl,_⟩:=h;rfl) λ_ _ _ _ H vs Q E hr h=>?_⟩;obtain⟨o,a,h,r,rfl,po,g,hl,hb,k⟩:=h;have R:=hr.units;refine⟨_,(ak (aq (eO rfl (cz.of (fns:=(ag iS).names) (N:=["self", "row"]) (Nc:=["at", "self", "row"]) (nv:=1) (caps:=[0,1]) rfl rfl (by decide +kernel)) (Kk rfl T.n_range (ad aj (ad (bp (VS K) T.n_len Wj (ad (aa 1) ae)) (ad aj ae)))) (λ_ _ _ _=>(bb (i:=0) (show List.Nodup (["at", "self", "row"]:List Str) by decide +kernel) rfl (Or.inl rfl) (Or.inr rfl))) (λ_ _ _ _=>eK) (λ_ _ _ _=>(aE (uH T) hr (ad (c6 (DL T) hr (aa 1) (ad (de (VU K) (aa 2) (cn (aa 0)) (cn (aO (VQ K) (aa 0) aj))) ae)) (ad (bQ T.EH) ae))))))),?_⟩;refine⟨_,.inl g,?_⟩;refine⟨r.length,2,by rw[V4];rfl,by omega,by decide,by decide,?_⟩;have F:(da h r).length=(r.length+(2-1))/2:=by
  match r,hl with
  | [x,y],_=>simp[da]
  | [x,y,z,v],_=>simp[da]
 refine Ry (cs:=[some (.ref o),some (.ref a)]) ((da h r).map V.int) (by rw[V4,F]) (bA (by omega)) (λi y S N e d m hN=>?_) k;obtain⟨b,c,G,s,I,rfl⟩:∃b c,fR r (some ((0:Int)+(i:Int)*((2:Nat):Int))) (some ((0:Int)+(i:Int)*((2:Nat):Int)+2))=[b,c]/\b∈r/\c∈r/\y=.int (u2 h b c):=by
  match r,hl,e,d with
  | [x,z],_,e,d =>
   have:i=0:=by simp at e;omega
   subst this;cases d;exact⟨x,z,rfl,by simp,by simp,rfl⟩
  | [x,z,v,u],_,e,d =>
   have:i=0\/i=1:=by simp at e;omega
   rcases this with rfl|rfl
   ·cases d;exact⟨x,z,rfl,by simp,by simp,rfl⟩
   ·cases d;exact⟨v,u,rfl,by simp,by simp,rfl⟩
 obtain⟨dx,j⟩:=po.mono m;refine⟨o,dx,_,Z,j,Z,?_⟩;refine⟨_,Z,_,Z,_,m.seq g,λC M f=>?_⟩;rw[ja,G]at f;refine⟨o,C,h,b,c,Z,⟨dx,f.sm _ _ j⟩,f.at_,λD J B n=>?_⟩;have U:=hb b s;have L:=hb c I;have O:(2:Int) ^ 8=256:=by decide
 refine⟨D,if h then [b,c] else [c,b],8,rfl,.of n,?_,by decide,by cases h<;>simp,?_⟩
 ·intro q l;cases h<;>simp at l<;>rcases l with rfl|rfl<;>omega
 ·have p:bZ 8 (if h then [b,c] else [c,b])=u2 h b c:=by cases h<;>simp[bZ,u2]
  rw[p];exact hN _ (f.sm.trans B)
theorem Gp(h:Bool):∀r:g0,r.length=2\/r.length=4->(da h r).length<=2
 | [_,_],_=>by simp[da]
 | [_,_,_,_],_=>by simp[da]
def A6(K:PySem.W.Frag)(t:Adr):Sp:=λvs H Q _=>∃(o a:Addr) (h:Bool) (r:g0),vs=[.ref o,.ref a,.int 0]/\Po t H o h/\aI K H a (r.map V.int)/\eW r/\r.length<=1000/\(∀n,eY h r=some n->∀p H',bi H p (.tup [.int n,.int 0]) H'->Q (.ref p) H')/\(eY h r=none->∀H',ah H H'->Q .non H')
def L9 (T:Txt w K mg t):bn P w K mg base bD 5 t.sk t.ny ["self", "row", "page"] (A6 K t):=by
 refine T.UO.okQ BF (λvs H Q E h=>by obtain⟨o,a,h,r,rfl,_⟩:=h;rfl) λ_ _ _ _ H vs Q E hr h=>?_;obtain⟨o,a,h,r,rfl,po,d,hb,hl,k1,k2⟩:=h;have u:=hr.units;refine⟨_,(ai (aQ (aJ (uN (K:=K) rfl) (bp (VS K) T.n_len Wj (ad (aa 1) ae)) (bJ (ad aj (ad aj ae))) (by with_unfolding_all rfl)) (ak (aq bu)) aR)
  (ai (aF (i:=3) BF.nd rfl (.inl rfl) (aE (OH T) hr (ad (c6 (Pc T) hr (aa 0) (ad (aa 1) ae)) ae)))
  (ak (aq (gg (aJ fA (aa 3) bu (aM _)) bu (bJ (ad (aa 3) (ad (aa 2) ae)))))))),?_⟩
 refine⟨_,.inl d,?_⟩;refine⟨sz Z,λy z b=>?_⟩;refine⟨_,.inr b.tup,Z,Z,?_⟩;have j:eE (.int ((r.map V.int).length:Int)) [V.int 2,V.int 4]=decide (r.length=2\/r.length=4):=by
  rw[V4,W1];simp[eE,gx];omega
 refine aw (λe=>?_) (λe=>?_)
 ·have e:(!eE (.int ((r.map V.int).length:Int)) [V.int 2,V.int 4])=true:=e;rw[j]at e;have c:¬(r.length=2\/r.length=4):=by simpa using e
  exact k2 (YA c) _ b.sm
 have e:¬(!eE (.int ((r.map V.int).length:Int)) [V.int 2,V.int 4])=true:=e;rw[j]at e;have c:r.length=2\/r.length=4:=by simp at e;omega
 have s:eY h r=iJ (da h r):=YB c;obtain⟨dx,f⟩:=po.mono b.sm;refine⟨o,dx,_,Z,f,Z,?_⟩;refine⟨o,a,h,r,Z,⟨dx,f⟩,b.sm.seq d,c,hb,λp v g=>?_⟩;refine⟨p,da h r,Z,g.lst,Gp h r c,λx q=>?_⟩;have sA:=b.sm.trans (g.sm.trans q);rw[s]at k1 k2;cases es:iJ (da h r) with
 | none=>exact k2 es _ sA
 | some n=>exact⟨sz rfl,λm k l=>k1 n es m k (l.after sA)⟩
def DK (T:Txt w K mg t):dS P w K mg base t.cb "whole" 5 t.sk t.ny ["self", "row", "page"] [] (A6 K t) :=
 ⟨T.fS,T.M4,⟨_,T.TU,.nil⟩,L9 T⟩
def mX(h:Bool)(r:g0):Option (g0):=(h7 h).find? λf=>(eY h (r++f)).isSome
def Bi(K:PySem.W.Frag)(t:Adr):Sp:=λvs H Q _=>∃(o a:Addr) (h:Bool) (r:g0),vs=[.ref o,.ref a,.int 0]/\Po t H o h/\aI K H a (r.map V.int)/\eW r/\r.length<=900/\(∀f,mX h r=some f->∀p H',bi H p (.lst (f.map V.int)) H'->Q (.ref p) H')/\(mX h r=none->∀H',ah H H'->Q .non H')
def qt(t:Adr)(h:Bool):List Addr:=if h then [t.a_FILLS_0_0,t.a_FILLS_0_1,t.a_FILLS_0_2,t.a_FILLS_0_3,t.a_FILLS_0_4] else [t.a_FILLS_1_0,t.a_FILLS_1_1,t.a_FILLS_1_2,t.a_FILLS_1_3,t.a_FILLS_1_4]
def Q8(T:Txt w K mg t)(h:Bool){i:Nat}{x:V}(hx:((qt t h).map V.ref)[i]? = some x):∃b f,x=.ref b/\(h7 h)[i]? = some f/\∀H,be K H b (f.map V.int):=by
 cases h with
 | true =>
  match i,hx with
  | 0,hx=>cases hx;exact⟨_,_,Z,Z,T.q_FILLS_0_0⟩
  | 1,hx=>cases hx;exact⟨_,_,Z,Z,T.q_FILLS_0_1⟩
  | 2,hx=>cases hx;exact⟨_,_,Z,Z,T.q_FILLS_0_2⟩
  | 3,hx=>cases hx;exact⟨_,_,Z,Z,T.q_FILLS_0_3⟩
  | 4,hx=>cases hx;exact⟨_,_,Z,Z,T.q_FILLS_0_4⟩
 | false =>
  match i,hx with
  | 0,hx=>cases hx;exact⟨_,_,Z,Z,T.q_FILLS_1_0⟩
  | 1,hx=>cases hx;exact⟨_,_,Z,Z,T.q_FILLS_1_1⟩
  | 2,hx=>cases hx;exact⟨_,_,Z,Z,T.q_FILLS_1_2⟩
  | 3,hx=>cases hx;exact⟨_,_,Z,Z,T.q_FILLS_1_3⟩
  | 4,hx=>cases hx;exact⟨_,_,Z,Z,T.q_FILLS_1_4⟩
theorem D6{α:Type}{p:α->Bool}:∀ {l:List α} {i:Nat} {f:α},l[i]? = some f->(∀g∈l.take i,p g=false)->p f=true->l.find? p=some f
 | a::r,0,f,h,_,hp=>by cases h;rw[WI,hp]
 | a::r,i+1,f,h,hn,hp=>by
  rw[WI,hn a (by simp)];exact D6 (l:=r) (i:=i) h (λg b=>hn g (by simp[b])) hp
def Mi (T:Txt w K mg t):bn P w K mg base bD 6 t.sw t.nB ["self", "row", "page"] (Bi K t):=by
 refine T.UW.okQ BG (λvs H Q E h=>by obtain⟨o,a,h,r,rfl,_⟩:=h;rfl) λ_ _ _ _ H vs Q E hr h=>?_;obtain⟨o,a,h,r,rfl,po,B,hb,hl,k1,k2⟩:=h;have W:=hr.units;refine⟨_,(ai (cm PassesOwn.never Z (Ki (K:=K) Z (Kx (K:=K) Z Z T.Ei Z T.EG (aU (K:=K) Z (aa 0)))) (bb (i:=3) BG.nd Z (.inl Z)) (ak (aQ (aJ mQ (dB (DK T) hr (aa 0) (ad (aO (VQ K) (aa 1) (dM (VV K) T.n_list WJ (ad (aa 3) ae))) (ad (aa 2) ae))) bu (aM _)) (ak (aq (dM (VV K) T.n_list WJ (ad (aa 3) ae)))) aR)))
  (ak (aq bu))),?_⟩
 obtain⟨dx,j⟩:=id po;refine⟨o,_,dx,_,_,Z,j,T.fS,T.uh,Z,?_⟩;obtain⟨F,eF,qF⟩:∃F,gv [(t.h_FILLS_0, "high",t.a_FILLS_0),(t.h_FILLS_1, "low",t.a_FILLS_1)] (gS h)=some F/\∀H,be K H F ((qt t h).map V.ref):=by
  cases h with
  | true=>exact⟨_,by simp[gv,gS],T.q_FILLS_0⟩
  | false=>exact⟨t.a_FILLS_1,by simp[gv,gS,show ¬(("high" : Str) = "low") by decide],T.q_FILLS_1⟩
 refine⟨_,F,Z,eF,?_⟩;have eL:((qt t h).map V.ref).length=(h7 h).length:=by cases h<;>rfl
 refine⟨_,rfl,⟨_,qF _⟩,QX (K:=K) (a:=F) (xs:=(qt t h).map V.ref) (λi σ v=>ah H v/\(∀g∈(h7 h).take i,(eY h (r++g)).isSome=false)/\∃k,σ=[some (.ref o),some (.ref a),some (.int 0),k]) ⟨ah.refl _,λg z=>by simp at z,_,rfl⟩ (λi σ v _ z=>qF _) ?_ ?_⟩
 ·rintro i x σ L hx ⟨e,d,k,rfl⟩;obtain⟨b,f,rfl,m,u⟩:=Q8 T h hx;have hm:=Wo m;have y:=Q6 hm;refine⟨o,dx,_,Z,e _ _ j,Z,?_⟩;refine⟨_,.inr (u _),λY S q=>?_⟩;have s:=e.trans q.sm;refine⟨_,_,s.seq B,q.lst,bA (by rw[V4,V4];omega),λM R p=>?_⟩;rw[<- Wm]at p;have l:=s.trans p.sm;refine⟨o,M,h,r++f,rfl,⟨dx,l _ _ j⟩,p.lst,hb.app (Q7 hm),by rw[Wb];omega,λn hw U C O=>?_,λhw C D=>?_⟩
  ·have I:mX h r=some f:=D6 m d (by rw[hw];rfl);exact⟨_,.inr (u _),λJ N G=>k1 f I J N (G.after (l.trans O.sm))⟩
  ·refine⟨l.trans D,λg c=>?_,_,Z⟩;rw[XE,m]at c;rcases Wi.mp c with c|c
   ·exact d g c
   ·have:g=f:=by simpa using c
    rw[this,hw];rfl
 ·rintro σ L ⟨e,d,k,rfl⟩;rw[eL,Wg]at d;exact k2 (List.find?_eq_none.mpr λg c=>by rw[d g c];simp) _ e
def Ph (T:Txt w K mg t):dS P w K mg base t.cb "fill" 6 t.sw t.nB ["self", "row", "page"] [] (Bi K t) :=
 ⟨T.fS,T.Na,⟨_,T.T2,.nil⟩,Mi T⟩
def ox(h:Bool)(m:Int)(r:g0):da h (ub h m++r)=m::da h r:=by
 have e:m/256*256+m%256=m:=by omega
 cases h
 ·show u2 false (m%256) (m/256)::da false r=_;unfold u2;rw[YA (by simp),e]
 ·show u2 true (m/256) (m%256)::da true r=_;unfold u2;rw[YB rfl,e]
theorem Ay(h:Bool):∀us:g0,da h (us.flatMap (ub h))=us
 | []=>rfl
 | a::r=>by rw[X4,ox,Ay h r]
def o9(h:Bool)(n:Int):(cg h n).length=if n<65536 then 2 else 4:=by
 unfold cg dW;by_cases c:n<65536
 ·rw[YB c,YB c,qc];rfl
 ·rw[YA c,YA c,qc];rfl
def IH{n:Int}(hs:Sg n):iJ (dW n)=some n:=by
 have a:=hs;obtain⟨b,d,g,f⟩:=a;unfold dW;by_cases c:n<65536
 ·rw[YB c];exact YB ((fJ n).mpr hs)
 ·rw[YA c];have e:65536+((55296+(n-65536)/1024-55296)*1024+(56320+(n-65536)%1024-56320))=n:=by omega
  refine (YB (by omega)).trans ?_;rw[e]
def Gk(h:Bool){n:Int}(hs:Sg n):eY h (cg h n)=some n:=by
 have e:=o9 h n;unfold eY;rw[YB (by rw[e];by_cases c:n<65536<;>simp[c])];unfold cg;rw[Ay,IH hs]
def Gs(h:Bool){u:Int}(a:0<=u/\u<65536):eW (ub h u):=by
 intro b hb;unfold ub at hb;cases h<;>simp at hb<;>omega
def K4(h:Bool){n:Int}(hs:Sg n):eW (cg h n):=by
 intro b hb;unfold cg at hb;obtain⟨u,a,hb⟩:=List.mem_flatMap.mp hb;exact Gs h (Ax hs a) b hb
def K3(h:Bool){n:Int}(hs:Sg n)(c:¬n<65536):∃u,(cg h n).take 2=ub h u/\55296<=u/\u<56320:=by
 obtain⟨a,e,d,b⟩:=hs;refine⟨55296+(n-65536)/1024,?_,by omega,by omega⟩;unfold cg dW;rw[YA c,X4];have:=l7 h (55296+(n-65536)/1024);rw[<- this,List.take_left]
def Op(h:Bool){u:Int}(b:55296<=u)(a:u<56320):eY h (ub h u)=none:=by
 unfold eY;rw[YB (.inl (l7 h u))];have e:=ox h u [];rw[Wv]at e;rw[e];refine YA λz=>?_;have z:=(fJ u).mp z;unfold Sg at z;omega
def Oq(h:Bool){u:Int}(c:55296<=u)(b:u<56320):mX h (ub h u)≠none:=by
 intro z;have z:=List.find?_eq_none.mp z;have a:da h (ub h u++ub h 56320)=[u,56320]:=by
  have:=ox h 56320 [];rw[Wv]at this;rw[ox,this];rfl
 have m:ub h 56320∈h7 h:=by cases h<;>decide
 refine z _ m ?_;unfold eY;rw[YB (.inr (by rw[Wb,l7,l7])),a];have:iJ [u,56320]=some (65536+((u-55296)*1024+(56320-56320))):=YB (by omega);rw[this]
 rfl
def Er(f:Int)(r:g0):cX ((f::r).map V.int) (some 1) none=r.map V.int:=by
 rw[ja]
 congr 1
 exact wU (f::r) 1
def HQ:Sp:=λvs H Q _=>∃f,vs=[.int f]/\Q (.int (lb f)) H
def OJ (T:Txt w K mg t):bh P w K mg base "length_behind" 1 t.zn t.vM ["first"] HQ:=by
 refine⟨T.Qo,T.FJ.kp,T.SQ,T.FJ.okQ IT (λvs H Q E h=>by obtain⟨f,rfl,_⟩:=h;rfl) λ_ _ _ _ H vs Q E hr h=>?_⟩;obtain⟨f,rfl,k⟩:=h;have i:=hr.units;refine⟨_,(ai (aQ (aJ dl (aa 0) aj (aM _)) (ak (aq aj)) aR)
  (ai (aQ (cG (dy (aJ dl (aa 0) aj (aM _)) (eB (aJ lL (aa 0) aj (aM _))))) (ak (aq aj)) aR)
  (ai (aQ (aJ dl (aa 0) aj (aM _)) (ak (aq aj)) aR)
  (ai (aQ (aJ dl (aa 0) aj (aM _)) (ak (aq aj)) aR)
  (ak (aq aj)))))),?_⟩
 have a:∀ {n:Int},n=lb f->Q (.int n) H:=λe=>e ▸ k;refine aw (λe=>a ?_) (λe=>?_)
 ·simp at e;unfold lb;rw[YB (by omega)]
 refine aw (λb=>?_) (λb=>?_)
 ·exact a (by simp at e b;unfold lb;rw[YA (by omega),YB (by omega)])
 refine aw (λc=>?_) (λc=>?_)
 ·exact a (by simp at e b c;unfold lb;rw[YA (by omega),YB (by omega)])
 refine aw (λd=>?_) (λd=>?_)
 ·exact a (by simp at e b c d;unfold lb;rw[YA (by omega),YA (by omega),YB (by omega)])
 refine aw (λg=>?_) (λg=>?_)
 ·exact a (by simp at e b c d g;unfold lb;rw[YA (by omega),YA (by omega),YA (by omega),YB (by omega)])
 ·exact a (by simp at e b c d g;unfold lb;rw[YA (by omega),YA (by omega),YA (by omega),YA (by omega)])
def Iy(K:PySem.W.Frag):Sp:=λvs H Q _=>∃(a:Addr) (f:Int) (r:g0) (p:Nat),vs=[.ref a,.int (p:Int)]/\aI K H a ((f::r).map V.int)/\∀b H',ah H H'->be K H' b [.int (dZ f p),.int (ft f p)]->Q (.ref b) H'
def DD (T:Txt w K mg t):bh P w K mg base "bounds_behind" 1 t.zE t.wd ["row", "place"] (Iy K):=by
 refine⟨T.QM,T.FY.kp,T.S6,T.FY.okQ Jf (λvs H Q E h=>by obtain⟨a,f,r,p,rfl,_⟩:=h;rfl) λ_ _ _ _ H vs Q E hr h=>?_⟩;obtain⟨a,f,r,p,rfl,l,k⟩:=h;have g:=hr.units;refine⟨_,(ai (aQ (aJ (ca (K:=K) Z g) (aa 1) aj (aM _)) (ak (aq (Ky (K:=K) Z T.Rr Z T.RT (aK (VT K) (aa 0) aj (λ_ _=>rfl)) (bJ (ad (bQ T.rJ) (ad (bQ T.ED) ae)))))) aR)
  (ak (aq (bJ (ad (bQ T.rJ) (ad (bQ T.ED) ae)))))),?_⟩
 refine aw (λe=>?_) (λe=>?_)
 ·have d:p=1:=by have:=YD e;omega
  subst d;refine⟨_,.int f,.inl l,aX (j:=0) Z,?_⟩;refine⟨sz Z,λi c b=>?_⟩;refine⟨f,Z,?_⟩;by_cases c1:f=224
  ·subst c1;exact k _ _ b.sm (T.q_SECONDS_0 c)
  by_cases c2:f=237
  ·subst c2;exact k _ _ b.sm (T.q_SECONDS_1 c)
  by_cases c3:f=238
  ·subst c3;exact k _ _ b.sm (T.q_SECONDS_2 c)
  by_cases c4:f=240
  ·subst c4;exact k _ _ b.sm (T.q_SECONDS_3 c)
  by_cases c5:f=244
  ·subst c5;exact k _ _ b.sm (T.q_SECONDS_4 c)
  have e:mP [(224,t.a_SECONDS_0),(237,t.a_SECONDS_1),(238,t.a_SECONDS_2),(240,t.a_SECONDS_3),(244,t.a_SECONDS_4)] f=none:=by
   simp[mP,Ne.symm c1,Ne.symm c2,Ne.symm c3,Ne.symm c4,Ne.symm c5]
  rw[e];refine k _ _ b.sm ?_;rw[dZ,ft,YB rfl,YB rfl,iZ,i3,YA c1,YA c4,YA c2,YA c3,YA c5];exact b.tup
 ·refine⟨sz Z,λi c b=>?_⟩;have d:p≠1:=λz=>by subst z;exact e Z
  refine k _ _ b.sm ?_;rw[dZ,ft,YA d,YA d];exact b.tup
def Ii(K:PySem.W.Frag):Sp:=λvs H Q _=>∃(a:Addr) (f:Int) (r:g0),vs=[.ref a]/\aI K H a ((f::r).map V.int)/\r.length<=1000/\∀H',ah H H'->(sQ f r->Q (.bl true) H')/\(¬sQ f r->Q (.bl false) H')
def OP (T:Txt w K mg t):bh P w K mg base "fits_behind" 2 t.zz t.vX ["row"] (Ii K):=by
 refine⟨T.QC,T.FT.kp,T.S1,T.FT.okQ tO (λvs H Q E h=>by obtain⟨a,f,r,rfl,_⟩:=h;rfl) λ_ _ _ _ H vs Q E hr h=>?_⟩;obtain⟨a,f,r,rfl,p,hl,k⟩:=h;have J:=hr.units;refine⟨_,(ai (cm PassesOwn.never Z (BW Z T.n_range (ad aj (ad (bp (VS K) T.n_len Wj (ad (aa 0) ae)) ae))) (bb (i:=1) tO.nd Z (.inl Z)) (ai (aF (i:=2) tO.nd Z (.inl Z) (aE (DD T) hr (ad (aa 0) (ad (aa 1) ae))))
  (ak (aQ (dz (BZ eQ eQ (aK (VT K) (aa 2) aj (λ_ _=>rfl)) (aK (VT K) (aa 0) (aa 1) (λ_ _=>rfl)) (aK (VT K) (aa 2) aj (λ_ _=>rfl)))) (ak (aq fO)) aR))))
  (ak (aq fO))),?_⟩
 refine⟨_,.inl p,?_⟩;have hL:((List.map V.int (f::r)).length:Int)=(r.length:Int)+1:=by simp
 refine⟨1,_,rfl,⟨by omega,by omega,by omega,by omega⟩,?_⟩;have hN:(((List.map V.int (f::r)).length:Int)-1).toNat=r.length:=by omega
 rw[hN];refine iy (lo:=1) (n:=r.length) (λi σ C=>ah H C/\(∀j x,j<i->r[j]? = some x->dZ f (j+1)<=x/\x<=ft f (j+1))/\∃v l,σ=[some (.ref a),v,l])
  ⟨ah.refl _,λj x z=>YC z (X9 _),_,_,rfl⟩ ?_ ?_
 ·rintro i σ F D ⟨d,o,v,l,rfl⟩;obtain⟨x,hx⟩:∃x,r[i]? = some x:=⟨_,WG D⟩;have B:(1:Int)+(i:Int)=((i+1:Nat):Int):=by omega
  refine⟨a,f,r,i+1,by rw[<- B];rfl,d.seq p,λb G u hb=>?_⟩;refine⟨_,.int (dZ f (i+1)),.inr hb,aX (j:=0) Z,?_⟩;have s:cD (List.map V.int (f::r)) (1+(i:Int))=some (.int x):=by
   rw[B];exact aX (by rw[WA,List.getElem?_cons_succ,We,hx];rfl)
  refine⟨_,.int x,.inl (u.seq (d.seq p)),s,?_⟩;have g:¬(dZ f (i+1)<=x/\x<=ft f (i+1))->Q (.bl false) G:=λz=>(k _ (d.trans u)).2 λy=>z (y i x hx);refine aw (λe=>?_) (λe=>?_)
  ·refine⟨_,.int (ft f (i+1)),.inr hb,aX (j:=1) Z,?_⟩;refine aw (λm=>?_) (λm=>?_)
   ·exact g λz=>by simp at m;omega
   ·refine⟨d.trans u,λj y I q=>?_,_,_,Z⟩;by_cases c:j<i
    ·exact o j y c q
    ·have:j=i:=by omega
     subst this;rw[hx]at q;cases q;have:=YD e;simp at m;omega
  ·exact g λz=>e (YE z.1)
 ·rintro σ F ⟨d,o,v,l,rfl⟩;exact (k _ d).1 λi x hx=>o i x (V8.mp hx).1 hx
def HN(K:PySem.W.Frag):Sp:=λvs H Q _=>∃(a:Addr) (f:Int) (r:g0),vs=[.ref a]/\aI K H a ((f::r).map V.int)/\r.length<=1000/\∀H',ah H H'->(oa f r->Q (.int (lb f-((r.length:Int)+1))) H')/\(¬oa f r->Q .non H')
def Dy (T:Txt w K mg t):bh P w K mg base "missing" 3 t.zl t.vK ["row"] (HN K):=by
 refine⟨T.Qm,T.FH.kp,T.SN,T.FH.okQ Bx (λvs H Q E h=>by obtain⟨a,f,r,rfl,_⟩:=h;rfl) λ_ _ _ _ H vs Q E hr h=>?_⟩;obtain⟨a,f,r,rfl,b,hl,k⟩:=h;have g:=hr.units;refine⟨_,(ai (aF (i:=1) Bx.nd Z (.inl Z) (aO c7 (aE (OJ T) hr (ad (aK (VT K) (aa 0) aj (λ_ _=>rfl)) ae)) (bp (VS K) T.n_len Wj (ad (aa 0) ae))))
  (ai (aQ (cG (dy (aJ dl (aa 1) aj (aM _)) (eB (dz (cV (aE (OP T) hr (ad (aa 0) ae))))))) (ak (aq bu)) aR)
  (ak (aq (aa 1))))),?_⟩
 refine⟨_,.int f,.inl b,aX (j:=0) Z,?_⟩;refine⟨f,Z,?_⟩;refine⟨_,.inl b,?_⟩;have hL:((List.map V.int (f::r)).length:Int)=(r.length:Int)+1:=by simp
 refine aw (λe=>?_) (λe=>?_)
 ·exact (k _ (ah.refl _)).2 λz=>by have:=YD e;have:=z.1;omega
 ·have e':¬(lb f-((List.map V.int (f::r)).length:Int)<0):=λz=>e (YE z);refine⟨a,f,r,Z,b,hl,λd c=>⟨λy=>?_,λy=>?_⟩⟩
  ·have q:=(k _ c).1 ⟨by omega,y⟩;rw[<- hL]at q;exact q
  ·exact (k _ c).2 λz=>y z.2
def Bh(K:PySem.W.Frag):Sp:=λvs H Q _=>∃(o a:Addr) (b:g0),vs=[.ref o,.ref a,.int 0]/\aI K H a (b.map V.int)/\b.length<=1000/\(sV b->∀p H',bi H p (.lst ((qa b).map V.int)) H'->Q (.ref p) H')/\(¬sV b->∀H',ah H H'->Q .non H')
def Mj (T:Txt w K mg t):bn P w K mg base bD 4 t.sD t.nH ["self", "row", "page"] (Bh K):=by
 refine T.UZ.okQ BI (λvs H Q E h=>by obtain⟨o,a,l,rfl,_⟩:=h;rfl) λ_ _ _ _ H vs Q E hr h=>?_;obtain⟨o,a,l,rfl,d,hl,k1,k2⟩:=h;have D:=hr.units;refine⟨_,(ai (aQ (dz (fg (K:=K) Z (aa 1))) (ak (aq (aT (ad aj ae)))) aR)
  (ai (aF (i:=3) BI.nd rfl (.inl rfl) (aE (Dy T) hr (ad (aa 1) ae)))
  (ai (aQ (aJ fA (aa 3) bu (aM _)) (ak (aq bu)) aR)
  (ak (aq (eO rfl (cz.of (fns:=(ag iT).names) (N:=["self", "row", "page", "lack"]) (Nc:=["place", "row"]) (nv:=1) (caps:=[1]) rfl rfl (by decide +kernel)) (BW rfl T.n_range (ad (bp (VS K) T.n_len Wj (ad (aa 1) ae)) (ad (aO (VQ K) (bp (VS K) T.n_len Wj (ad (aa 1) ae)) (aa 3)) ae))) (λ_ _ _ _=>(bb (i:=0) (show List.Nodup (["place", "row"]:List Str) by decide +kernel) rfl (Or.inl rfl) (Or.inr rfl))) (λ_ _ _ _=>eK) (λ_ _ _ _=>(aK (VT K) (aE (DD T) hr (ad (aa 1) (ad (aa 0) ae))) aj (λ_ _=>rfl))))))))),?_⟩
 refine⟨_,.inl d,?_⟩;cases l with
 | nil =>
  refine gn ?_;exact⟨sz Z,λp n g=>k1 trivial p n g⟩
 | cons f r =>
  refine N6 ?_;refine⟨a,f,r,rfl,d,by simp at hl;omega,λF c=>⟨λy=>?_,λy=>?_⟩⟩
  ·refine⟨_,.inl (c.seq d),?_⟩;refine⟨_,.inl (c.seq d),?_⟩;have hL:((List.map V.int (f::r)).length:Int)=(r.length:Int)+1:=by simp
   have hb:=C8 f;have G:=y.1;refine⟨_,_,rfl,⟨by omega,by omega,by omega,by omega⟩,?_⟩;have B:(((List.map V.int (f::r)).length:Int)+(lb f-((r.length:Int)+1))-((List.map V.int (f::r)).length:Int)).toNat=(lb f-((r.length:Int)+1)).toNat:=by omega
   rw[B];refine Rz ((qa (f::r)).map V.int) (by rw[V4,qa,V4,List.length_range]) (bA (by omega)) (λi v k N s e z hN=>?_) λp k x=>k1 y p k (x.after c);have m:v=.int (dZ f (r.length+1+i)):=by
    rw[We,qa,We,List.getElem?_range s]at e;cases e
    rfl
   subst m;have u:((List.map V.int (f::r)).length:Int)+(i:Int)=((r.length+1+i:Nat):Int):=by omega
   refine⟨a,f,r,r.length+1+i,by rw[<- u];rfl,z.seq (c.seq d),λb C q hb=>?_⟩;exact⟨_,.int (dZ f (r.length+1+i)),.inr hb,aX (j:=0) Z,hN _ q⟩
  ·exact k2 y _ c
def Pn (T:Txt w K mg t):dS P w K mg base t.dg "fill" 4 t.sD t.nH ["self", "row", "page"] [] (Bh K) :=
 ⟨T.nM,T.Nf,⟨_,T.T6,.nil⟩,Mj T⟩
def ix(n:Nat):Int:=if n=1 then 192 else if n=2 then 224 else 240
def jc:g0->Int
 | []=>0
 | [f]=>f
 | f::r=>bZ 6 ((f-ix r.length)::r.map λb=>b-128)
def Ix(K:PySem.W.Frag):Sp:=λvs H Q _=>∃(a:Addr) (b:g0),vs=[.ref a]/\aI K H a (b.map V.int)/\gE b/\∀H',ah H H'->Q (.int (jc b)) H'
def Gj{f x:Int}{r:g0}(h:gE (f::x::r)):(∀y∈x::r,128<=y/\y<=191)/\0<=f-ix (r.length+1)/\f-ix (r.length+1)<64/\r.length<=2/\(∃v,[0,0,192,224,240][r.length+2]? = some v/\v=ix (r.length+1)):=by
 have hl:=C8 f;obtain⟨⟨d,c⟩,b⟩:oa f (x::r)/\((x::r).length:Int)+1=lb f:=h;refine⟨((qd f _).mp c).1,?_⟩;have a:(r.length:Int)+2=lb f:=by simp at b;omega
 have hr:r.length<=2:=by omega
 unfold lb at a;have:r.length=0\/r.length=1\/r.length=2:=by omega
 rcases this with z|z|z<;>rw[z]at a ⊢<;>simp only [ix]<;>(repeat' split at a)<;>first|omega|exact⟨by simp;omega,by simp;omega,by omega,_,rfl,rfl⟩
def OS (T:Txt w K mg t):bh P w K mg base "carried" 3 t.zD t.wc ["row"] (Ix K):=by
 refine⟨T.QL,T.FX.kp,T.S5,T.FX.okQ Je (λvs H Q E h=>by obtain⟨a,s,rfl,_⟩:=h;rfl) λ_ _ _ _ H vs Q E hr h=>?_⟩;obtain⟨a,s,rfl,c,hw,k⟩:=h;have B:=hr.units;refine⟨_,(ai (aQ (aJ (ca (K:=K) Z B) (bp (VS K) T.n_len Wj (ad (aa 0) ae)) aj (aM _)) (ak (aq (aK (VT K) (aa 0) aj (λ_ _=>rfl)))) aR)
  (ak (aq (aE (uH T) hr (ad (aO (VQ K) (aT (ad (aO c7 (aK (VT K) (aa 0) aj (λ_ _=>rfl)) (aK (VT K) (gh (v:=.ref t.nR) rfl T.EC rfl) (bp (VS K) T.n_len Wj (ad (aa 0) ae)) (λ_ _=>rfl))) ae)) (eO rfl (cz.of (fns:=(ag iR).names) (N:=["row"]) (Nc:=["byte"]) (nv:=1) (caps:=[]) rfl rfl (by decide +kernel)) (cO (K:=K) rfl (de (VU K) (aa 0) (cn aj) fe)) (λ_ _ _ _=>(bb (i:=0) (show List.Nodup (["byte"]:List Str) by decide +kernel) rfl (Or.inl rfl) (Or.inr rfl))) (λ_ _ _ _=>eK) (λ_ _ _ _=>(aO c7 (aa 0) (bQ T.rJ))))) (ad (bQ T.EI) ae)))))),?_⟩
 refine⟨_,.inl c,?_⟩
 match s,c,hw,k with
 | [],_,hw,_=>exact hw.elim
 | [f],c,hw,k =>
  exact⟨_,.int f,.inl c,aX (j:=0) Z,k _ (ah.refl _)⟩
 | f::x::r,c,hw,k =>
  obtain⟨F,u,D,I,v,g,p⟩:=Gj hw;have hL:((List.map V.int (f::x::r)).length:Int)=((r.length+2:Nat):Int):=by simp;omega
  refine⟨_,.int f,.inl c,aX (j:=0) Z,?_⟩;refine⟨_,.inl c,?_⟩;have n:cD (([0,0,192,224,240]:g0).map V.int) ((List.map V.int (f::x::r)).length:Int)=some (.int v):=by
   rw[hL];exact aX (by rw[We,g];rfl)
  refine⟨_,.int v,.inr (T.B8 _),n,?_⟩;refine⟨sz Z,λR J o=>?_⟩;refine⟨_,Z,_,o.sm.seq c,λO L e=>?_⟩;rw[Er]at e;refine⟨_,Z,⟨_,e.lst⟩,?_⟩;refine jb (((x::r).map λb=>b-128).map V.int) (by simp) e.lst (bA (by simp;omega)) (λi y v z N d g S hN=>?_) λM z m=>?_
  ·rw[We]at d;obtain⟨y,l,rfl⟩:=WR.mp d;rw[We,We,l]at g;cases g;exact hN _ (ah.refl _)
  refine⟨_,_,(e.sm.trans m.sm).seq o.lst,m.lst,bA (by simp;omega),λC G q=>?_⟩;refine⟨C,(f-v)::(x::r).map λb=>b-128,6,rfl,q.lst,?_,by decide,by simp;omega,?_⟩
  ·intro y d;rcases Wh.mp d with rfl|d
   ·rw[p];exact⟨u,D⟩
   ·obtain⟨b,hb,rfl⟩:=Wr.mp d;have:=F b hb;exact⟨by omega,show b-128<64 by omega⟩
  ·rw[p];exact k _ (o.sm.trans (e.sm.trans (m.sm.trans q.sm)))
def A7(K:PySem.W.Frag):Sp:=λvs H Q _=>∃(o a:Addr) (b:g0),vs=[.ref o,.ref a,.int 0]/\aI K H a (b.map V.int)/\b.length<=1000/\(gE b->∀p H',bi H p (.tup [.int (jc b),.int 0]) H'->Q (.ref p) H')/\(¬gE b->∀H',ah H H'->Q .non H')
def Ma (T:Txt w K mg t):bn P w K mg base bD 4 t.sx t.nE ["self", "row", "page"] (A7 K):=by
 refine T.UX.okQ JK (λvs H Q E h=>by obtain⟨o,a,d,rfl,_⟩:=h;rfl) λ_ _ _ _ H vs Q E hr h=>?_;obtain⟨o,a,d,rfl,c,hl,k1,k2⟩:=h;have i:=hr.units;refine⟨_,(ai (aQ (cG (fL (fg (K:=K) Z (aa 1)) (gf (aJ (ca (K:=K) Z i) (aE (Dy T) hr (ad (aa 1) ae)) aj (aM _))))) (ak (aq (bJ (ad (aE (OS T) hr (ad (aa 1) ae)) (ad (aa 2) ae))))) aR)
  (ak (aq bu))),?_⟩
 refine⟨_,.inl c,?_⟩;cases d with
 | nil=>exact k2 id _ (ah.refl _)
 | cons f r =>
  refine⟨a,f,r,rfl,c,by simp at hl;omega,λl b=>⟨λy=>?_,λy=>?_⟩⟩
  ·refine aw (λe=>?_) (λe=>?_)
   ·have hw:gE (f::r):=⟨y,by have:=YD e;omega⟩;refine⟨a,f::r,Z,b.seq c,hw,λm k=>?_⟩;exact⟨sz Z,λp j g=>k1 hw p j (g.after (b.trans k))⟩
   ·exact k2 (λz=>e (YE (by have:=z.2;omega))) _ b
  ·refine⟨_,_,ba.non,ba.int 0,Z,Z,?_⟩;exact k2 (λz=>y z.1) _ b
def Pj (T:Txt w K mg t):dS P w K mg base t.dg "whole" 4 t.sx t.nE ["self", "row", "page"] [] (A7 K) :=
 ⟨T.nM,T.Nb,⟨_,T.T4,.nil⟩,Ma T⟩
def JY{n:Int}(h:Sg n):gE (row n)/\jc (row n)=n:=by
 obtain⟨a,d,c,b⟩:=h;unfold row;by_cases c1:n<128
 ·rw[YB c1]
  exact⟨⟨⟨by unfold lb;rw[YB c1];simp,λi x z=>by cases z⟩,by unfold lb;rw[YB c1];simp⟩,rfl⟩
 rw[YA c1];by_cases c2:n<2048
 ·rw[YB c2];have e:lb (192+n/64)=2:=by unfold lb;repeat' split<;>omega
  refine⟨⟨⟨by rw[e];simp,(qd _ _).mpr ⟨λx hx=>?_,λx hx=>?_⟩⟩,by rw[e];simp⟩,?_⟩
  ·simp at hx;omega
  ·simp at hx;subst hx;unfold iZ i3;repeat' split<;>omega
  ·simp[jc,ix,bZ];omega
 rw[YA c2];by_cases c3:n<65536
 ·rw[YB c3];have e:lb (224+n/4096)=3:=by unfold lb;repeat' split<;>omega
  refine⟨⟨⟨by rw[e];simp,(qd _ _).mpr ⟨λx hx=>?_,λx hx=>?_⟩⟩,by rw[e];simp⟩,?_⟩
  ·simp at hx;omega
  ·simp at hx;subst hx;unfold iZ i3;repeat' split<;>omega
  ·simp[jc,ix,bZ];omega
 rw[YA c3];have e:lb (240+n/262144)=4:=by unfold lb;repeat' split<;>omega
 refine⟨⟨⟨by rw[e];simp,(qd _ _).mpr ⟨λx hx=>?_,λx hx=>?_⟩⟩,by rw[e];simp⟩,?_⟩
 ·simp at hx;omega
 ·simp at hx;subst hx;unfold iZ i3;repeat' split<;>omega
 ·simp[jc,ix,bZ];omega
def Gi{a:g0}(h:gE a){i:Nat}(k:0<i)(b:i<a.length):sV (a.take i)/\¬gE (a.take i):=by
 cases a with
 | nil=>exact h.elim
 | cons f r =>
  obtain⟨i,rfl⟩:∃j,i=j+1:=⟨i-1,by omega⟩;obtain⟨⟨g,d⟩,e⟩:=h;have hl:(r.take i).length=i:=by rw[Wa];simp at b;omega
  simp at b;rw[List.take_succ_cons];refine⟨⟨by rw[hl];omega,λj x hx=>?_⟩,λz=>?_⟩
  ·have c:j<i:=by have:=(V8.mp hx).1;omega
   rw[XA c]at hx;exact d j x hx
  ·have:=z.2;rw[hl]at this;omega
def fm(n:Int):Int:=if n<128 then 1 else if n<2048 then 2 else if n<65536 then 3 else 4
def NS{n:Int}(h:Sg n)(f:128<=n):∃(L:Nat) (v d:Int) (bB:g0),fm n=(L:Int)/\L≠1/\L<=4/\dC 6 L n=d::bB/\[0,0,192,224,240][L]? = some v/\row n=(v+d)::bB.map (λx=>128+x)/\n<2 ^ (6*L):=by
 obtain⟨g,e,_,_⟩:=h;have a:¬n<128:=by omega
 by_cases c2:n<2048
 ·have c:row n=[192+n/64,128+n%64]:=by unfold row;rw[YA a,YB c2]
  have b:fm n=2:=by unfold fm;rw[YA a,YB c2]
  rw[c,b];refine⟨2,192,n/64%64,[n%64],rfl,by decide,by decide,by simp[dC,W0],rfl,?_,by simp;omega⟩;have:n/64%64=n/64:=by omega
  rw[this];rfl
 by_cases c3:n<65536
 ·have c:row n=[224+n/4096,128+n/64%64,128+n%64]:=by unfold row;rw[YA a,YA c2,YB c3]
  have b:fm n=3:=by unfold fm;rw[YA a,YA c2,YB c3]
  rw[c,b];refine⟨3,224,n/4096%64,[n/64%64,n%64],rfl,by decide,by decide,by simp[dC,W0],rfl,?_,by simp;omega⟩;have:n/4096%64=n/4096:=by omega
  rw[this];rfl
 have c:row n=[240+n/262144,128+n/4096%64,128+n/64%64,128+n%64]:=by unfold row;rw[YA a,YA c2,YA c3]
 have b:fm n=4:=by unfold fm;rw[YA a,YA c2,YA c3]
 rw[c,b];refine⟨4,240,n/262144%64,[n/4096%64,n/64%64,n%64],rfl,by decide,by decide,by simp[dC,W0],rfl,?_,by simp;omega⟩;have:n/262144%64=n/262144:=by omega
 rw[this];rfl
def HM:Sp:=λvs H Q _=>∃(n:Int) (b m:Nat),vs=[.int n,.int (b:Int),.int (m:Int)]/\0<=n/\n<2 ^ (b*m)/\b<=1000/\m<=1000/\∀p H',bi H p (.lst ((dC b m n).map V.int)) H'->Q (.ref p) H'
def uI (T:Txt w K mg t):bh P w K mg base "parted" 2 t.zk t.vJ ["number", "bits", "many"] HM:=by
 refine⟨T.Qi,T.FG.kp,T.SM,T.FG.okQ mn (λvs H Q E h=>by obtain⟨n,b,m,rfl,_⟩:=h;rfl) λ_ _ _ _ H vs Q E hr h=>?_⟩;obtain⟨n,b,m,rfl,p,r,hb,hm,k⟩:=h;refine⟨_,(ai (bE (aE (DC T) hr (ad (aa 0) (ad (aO eP (aa 1) (aa 2)) ae))))
  (ai (aF (i:=3) mn.nd rfl (.inl rfl) (aT ae))
  (ai (cm PassesOwn.never rfl (gN rfl T.n_range (ad (aa 2) ae)) (bb (i:=4) mn.nd rfl (.inl rfl)) (ai (aF (i:=5) mn.nd rfl (.inl rfl) (aO Qg (aa 0) (aa 1)))
  (ai (bE (cq (K:=K) rfl Wp WB WC dO (aa 3) (ad (aO c7 (aa 0) (aO DS (aa 5) (aa 1))) ae)))
  (ak (aF (i:=0) mn.nd rfl (.inl rfl) (aa 5))))))
  (ak (aq (B0 (K:=K) rfl rfl T.n_list T.n_reversed (ad (aa 3) ae))))))),?_⟩
 have f:(2:Int) ^ 64=18446744073709551616:=by decide
 refine⟨Or.inl ⟨by omega,by omega⟩,?_⟩;refine⟨n,b*m,by rw[Int.natCast_mul];rfl,p,r,?_⟩;refine⟨sz Z,λg D j=>?_⟩;refine⟨(m:Int),rfl,by omega,by omega,?_⟩;refine iy (lo:=0) (n:=((m:Nat):Int).toNat) (λi σ u=>ah H u/\u g=some (.lst (((List.range i).map λi=>n/2 ^ (b*i)%2 ^ b).map V.int))/\∃l d,σ=[some (.int (n/2 ^ (b*i))),some (.int b),some (.int m),some (.ref g),l,d])
  ⟨j.sm,j.at_,_,_,by simp;rfl⟩ ?_ ?_
 ·rintro i σ x B ⟨o,a,l,d,rfl⟩;have y:i<m:=by simpa using B
  refine⟨by omega,?_⟩;refine⟨.inl ⟨rfl,_,.of a⟩,?_⟩;have s:0<=n/2 ^ (b*i)/2 ^ b/\n/2 ^ (b*i)/2 ^ b<=n:=by
   have z1:0<=n/2 ^ (b*i):=Int.ediv_nonneg p (Xq (oy _));exact⟨Int.ediv_nonneg z1 (Xq (oy _)),Int.le_trans (Int.ediv_le_self _ z1) (Int.ediv_le_self _ p)⟩
  have c:Builtin.Int.intBits (n/2 ^ (b*i)/2 ^ b)<=b*m:=intBits_le_iff.mpr (by
   have:((n/2 ^ (b*i)/2 ^ b).natAbs:Int)<((2 ^ (b*m):Nat):Int):=by rw[X5 s.1,X6];exact Int.lt_of_le_of_lt s.2 r
   exact X7.mp this)
  have v:b*m<=1000000:=Nat.mul_le_mul hb hm;refine⟨⟨by omega,show ((Builtin.Int.intBits (n/2 ^ (b*i)/2 ^ b):Nat):Int)+(b:Int)<=2 ^ 27 by omega⟩,?_⟩;refine⟨_,a,cZ (by simp;omega),?_⟩;refine⟨o.put j.nw,?_,?_⟩
  ·rw[az,W0,Wm,Wm];have:=Ng (n/2 ^ (b*i)) b;exact congrArg (λz=>some (HO.lst (_++[V.int z]))) this
  ·rw[<- Ri n b i];exact⟨_,_,Z⟩
 ·rintro σ x ⟨o,a,l,d,rfl⟩;refine⟨g,_,Z,.of a,λF C q=>?_⟩;have e:((List.map V.int ((List.range ((m:Nat):Int).toNat).map λi=>n/2 ^ (b*i)%2 ^ b))).reverse=(dC b m n).map V.int:=by
   rw[<- List.map_reverse,Xa,K0]
  rw[e]at q;exact k _ _ (q.after o)
def Hi:Sp:=λvs H Q _=>∃n,vs=[.int n]/\Sg n/\∀p H',bi H p (.lst ((dW n).map V.int)) H'->Q (.ref p) H'
def OG (T:Txt w K mg t):bh P w K mg base "units_of" 3 t.zg t.vE ["sign"] Hi:=by
 refine⟨T.Qb,T.FC.kp,T.SI,T.FC.okQ Bw (λvs H Q E h=>by obtain⟨n,rfl,_⟩:=h;rfl) λ_ _ _ _ H vs Q E hr h=>?_⟩;obtain⟨n,rfl,hs,k⟩:=h;have o:=hr.units;refine⟨_,(ai (aQ (aJ dl (aa 0) (bQ T.yG) (aM _)) (ak (aq (aT (ad (aa 0) ae)))) aR)
  (ai (aF (i:=1) Bw.nd rfl (.inl rfl) (aE (uI T) hr (ad (aO c7 (aa 0) (bQ T.yG)) (ad (bQ T.EE) (ad aj ae)))))
  (ak (aq (aT (ad (aO (VQ K) (bQ T.yH) (aK (VT K) (aa 1) aj (λ_ _=>rfl))) (ad (aO (VQ K) (bQ T.rH) (aK (VT K) (aa 1) aj (λ_ _=>rfl))) ae))))))),?_⟩
 obtain⟨v,u,_,_⟩:=hs;refine aw (λe=>?_) (λe=>?_)
 ·have b:dW n=[n]:=by unfold dW;rw[YB (YD e)]
  rw[b]at k;exact⟨sz Z,λp l g=>k p l g⟩
 have c:¬n<65536:=λz=>e (YE z);have b:dW n=[55296+(n-65536)/1024,56320+(n-65536)%1024]:=by unfold dW;rw[YA c]
 have d:(2:Int) ^ (10*2)=1048576:=by decide
 refine⟨n-65536,10,2,rfl,by omega,by omega,by decide,by decide,λs x a=>?_⟩;have f:dC 10 2 (n-65536)=[(n-65536)/1024,(n-65536)%1024]:=by
  have:(n-65536)/1024%1024=(n-65536)/1024:=by omega
  simp[dC,W0,this]
 rw[f]at a;refine⟨_,.int ((n-65536)/1024),.inl a.lst,aX (j:=0) Z,?_⟩;refine⟨_,.int ((n-65536)%1024),.inl a.lst,aX (j:=1) Z,?_⟩;rw[b]at k;exact⟨sz Z,λr q m=>k _ _ (m.after a.sm)⟩
def Hz(K:PySem.W.Frag)(t:Adr):Sp:=λvs H Q _=>∃(o a:Addr) (h:Bool) (us:g0),vs=[.ref o,.ref a]/\Po t H o h/\aI K H a (us.map V.int)/\us.length<=10/\(∀u∈us,0<=u/\u<65536)/\∀p H',bi H p (.lst ((us.flatMap (ub h)).map V.int)) H'->Q (.ref p) H'
def Pe (T:Txt w K mg t):cy P w K mg base t.cb "row_of" 3 t.Ab t.wI ["self", "units"] (Hz K t):=by
 refine⟨T.fS,T.M9,T.TZ,T.UU.okQ tS (λvs H Q E h=>by obtain⟨o,a,h,us,rfl,_⟩:=h;rfl) λ_ _ _ _ H vs Q E hr h=>?_⟩;obtain⟨o,a,h,us,rfl,po,q,hl,hb,k⟩:=h;have M:=hr.units;refine⟨_,(ai (aF (i:=2) tS.nd Z (.inl Z) (aT ae))
  (ai (cm PassesOwn.never rfl (cO (K:=K) rfl (aa 1)) (bb (i:=3) tS.nd rfl (.inl rfl)) (ak (bE (cq (K:=K) rfl Wp WM WN (VW K) (aa 2) (ad (c6 (DL T) hr (aa 0) (ad (aE (uI T) hr (ad (aa 3) (ad (bQ T.EH) (ad aj ae)))) ae)) ae)))))
  (ak (aq (aa 2))))),?_⟩
 refine⟨sz Z,λv L f=>?_⟩;refine⟨a,Z,⟨_,f.sm.seq q⟩,fP (K:=K) (a:=a) (xs:=us.map V.int) (λi σ p=>ah H p/\p v=some (.lst (((us.take i).flatMap (ub h)).map V.int))/\∃n,σ=[some (.ref o),some (.ref a),some (.ref v),n]) ⟨f.sm,f.at_,_,Z⟩ (λi σ p _ z=>z.1.seq q) ?_ ?_⟩
 ·rintro i x σ C hx ⟨g,d,n,rfl⟩;obtain⟨u,b,rfl⟩:=dD hx;have j:=hb u (Wo b);have O:i<us.length:=(V8.mp b).1;obtain⟨dx,r⟩:=po;have l:(2:Int) ^ (8*2)=65536:=by decide
  refine⟨.inl ⟨rfl,_,.of d⟩,?_⟩;refine⟨o,dx,_,Z,g _ _ r,Z,?_⟩;refine⟨u,8,2,rfl,j.1,by omega,by decide,by decide,λD J c=>?_⟩;have G:dC 8 2 u=[u/256,u%256]:=by
   have:u/256%256=u/256:=by omega
   simp[dC,W0,this]
  rw[G]at c;refine⟨o,D,h,u/256,u%256,Z,⟨dx,c.sm _ _ (g _ _ r)⟩,c.at_,λN I s y=>?_⟩;have m:=s _ _ (c.sm _ _ d);have B:((us.take i).flatMap (ub h)).length=2*(us.take i).length:=qc h _;have F:(us.take i).length<=10:=by rw[Wa];omega
  refine⟨_,_,m,y,bA (by rw[V4,V4,B];cases h<;>simp<;>omega),?_⟩;refine⟨(g.trans (c.sm.trans s)).put f.nw,?_,_,Z⟩;rw[az];have e:us.take (i+1)=us.take i++[u]:=by rw[XE,b];rfl
  rw[e,List.flatMap_append,Wm];simp[ub]
 ·rintro σ C ⟨g,d,n,rfl⟩;rw[V4,Wg]at d;exact k _ _ ⟨f.nw,g,d⟩
def OI (T:Txt w K mg t):bh P w K mg base "length_of" 1 t.zm t.vL ["sign"] (λvs H Q _=>∃n,vs=[.int n]/\Q (.int (fm n)) H):=by
 refine⟨T.Qn,T.FI.kp,T.SO,T.FI.okQ IS (λvs H Q E h=>by obtain⟨n,rfl,_⟩:=h;rfl) λ_ _ _ _ H vs Q E hr h=>?_⟩;obtain⟨n,rfl,k⟩:=h;refine⟨_,(ai (aQ (aJ dl (aa 0) aj (aM _)) (ak (aq aj)) aR)
  (ai (aQ (aJ dl (aa 0) aj (aM _)) (ak (aq aj)) aR)
  (ai (aQ (aJ dl (aa 0) aj (aM _)) (ak (aq aj)) aR)
  (ak (aq aj))))),?_⟩
 unfold fm at k;refine aw (λe=>?_) (λe=>?_)
 ·rw[YB (YD e)]at k;exact k
 rw[YA (λz=>e (YE z))]at k;refine aw (λe=>?_) (λe=>?_)
 ·rw[YB (YD e)]at k;exact k
 rw[YA (λz=>e (YE z))]at k;refine aw (λe=>?_) (λe=>?_)
 ·rw[YB (YD e)]at k;exact k
 rw[YA (λz=>e (YE z))]at k;exact k
def HE:Sp:=λvs H Q _=>∃n,vs=[.int n]/\Sg n/\∀p H',bi H p (.lst ((row n).map V.int)) H'->Q (.ref p) H'
def OK (T:Txt w K mg t):bh P w K mg base "lead_row" 3 t.zo t.vN ["sign"] HE:=by
 refine⟨T.Qp,T.FK.kp,T.SR,T.FK.okQ tM (λvs H Q E h=>by obtain⟨n,rfl,_⟩:=h;rfl) λ_ _ _ _ H vs Q E hr h=>?_⟩;obtain⟨n,rfl,hs,k⟩:=h;have z:=hr.units;refine⟨_,(ai (aF (i:=1) tM.nd Z (.inl Z) (aE (OI T) hr (ad (aa 0) ae)))
  (ai (aQ (aJ (ca (K:=K) rfl z) (aa 1) aj (aM _)) (ak (aq (aT (ad (aa 0) ae)))) aR)
  (ai (aF (i:=2) tM.nd rfl (.inl rfl) (aE (uI T) hr (ad (aa 0) (ad (bQ T.EI) (ad (aa 1) ae)))))
  (ak (aq (aO (VQ K) (aT (ad (aO (VQ K) (aK (VT K) (gh (v:=.ref t.nR) rfl T.EC rfl) (aa 1) (λ_ _=>rfl)) (aK (VT K) (aa 2) aj (λ_ _=>rfl))) ae)) (eO rfl (cz.of (fns:=(ag iP).names) (N:=["sign", "length", "parts"]) (Nc:=["part"]) (nv:=1) (caps:=[]) rfl rfl (by decide +kernel)) (cO (K:=K) rfl (de (VU K) (aa 2) (cn aj) fe)) (λ_ _ _ _=>(bb (i:=0) (show List.Nodup (["part"]:List Str) by decide +kernel) rfl (Or.inl rfl) (Or.inr rfl))) (λ_ _ _ _=>eK) (λ_ _ _ _=>(aO (VQ K) (bQ T.rJ) (aa 0)))))))))),?_⟩
 refine⟨n,Z,?_⟩;by_cases c:n<128
 ·have C:fm n=1:=by unfold fm;rw[YB c]
  have B:row n=[n]:=by unfold row;rw[YB c]
  refine aw (λ_=>?_) (λe=>YC (YE C) e);rw[B]at k;exact⟨sz Z,λp G g=>k p G g⟩
 obtain⟨L,v,J,bB,eL,R,S,s,f,I,D⟩:=NS hs (by omega);refine aw (λe=>YC (YD e) (by rw[eL];omega)) (λ_=>?_);refine⟨n,6,L,by rw[eL];rfl,hs.1,D,by decide,by omega,λp1 W d=>?_⟩;rw[s]at d;have m:cD (([0,0,192,224,240]:g0).map V.int) (fm n)=some (.int v):=by
  rw[eL];exact aX (by rw[We,f];rfl)
 refine⟨_,.int v,.inr (T.B8 _),m,?_⟩;refine⟨_,.int J,.inl d.lst,aX (j:=0) Z,?_⟩;refine⟨sz Z,λp2 H2 q=>?_⟩;refine⟨_,Z,_,q.sm.seq d.lst,λp3 O a=>?_⟩;rw[Er]at a;have x:bB.length<=1000:=by
  have:=K1 6 L n;rw[s]at this;simp at this;omega
 refine⟨_,Z,⟨_,a.lst⟩,?_⟩;refine jb ((bB.map λb=>128+b).map V.int) (by simp) a.lst (bA (by simp;omega)) (λi y v u N r f Y hN=>?_) λp4 u o=>?_
 ·rw[We]at r;obtain⟨y,l,rfl⟩:=WR.mp r;rw[We,We,l]at f;cases f;exact hN _ (ah.refl _)
 refine⟨_,_,(a.sm.trans o.sm).seq q.lst,o.lst,bA (by simp;omega),λU M F=>?_⟩;rw[I]at k;exact k _ _ (F.after (((d.sm.trans q.sm).trans a.sm).trans o.sm))
def Bj(C:Addr)(names:List Str):Sp:=λvs H Q _=>∃e us,vs=.ref e::us/\us.length=names.length/\H e=some (XN e C none)/\∀d0 H',H' e=some (XN e C (some d0))->H' d0=some (.xd (names.zip us))->(∀b o,b≠e->H b=some o->H' b=some o)->Q .non H'
def mM (T:Txt w K mg t):Fb P w K mg base "NoSign" t.bc 1 t.nQ t.qp ["self", "sign", "at"] (Bj t.bc ["sign", "at"]):=by
 refine⟨T.hZ,⟨T.gy,T.lS,T.lR,T.lQ⟩,T.ER,T.Gc.okQ BH (λvs H Q E h=>by obtain⟨e,us,rfl,hl,_⟩:=h;rw[WE,hl];rfl) λ_ _ _ _ H vs Q E hr h=>?_⟩;obtain⟨e,us,rfl,hl,hx,k⟩:=h;obtain⟨c,d,rfl⟩:∃c d,us=[c,d]:=match us,hl with|[c,d],_=>⟨c,d,rfl⟩
 have S:sI K t.bc:=⟨T.gy,T.An,T.lP⟩;refine⟨_,(ai (bE (B7 (K:=K) Z ⟨T.eb_0,T.eb_1,T.eb_2⟩ T.lK (ad (aa 0) (ad eM ae))))
  (ai (oS (K:=K) rfl (aa 0) (aa 1))
  (ak (oS (K:=K) rfl (aa 0) (aa 2))))),?_⟩
 refine⟨Wf Z,_,_,hx,T.gy,?_⟩;refine⟨e,_,_,rfl,hx,S,T.en_NoSign_sign,λ_ d0 hd a=>?_,(λd0 z=>by cases z)⟩;refine⟨e,_,_,rfl,az,S,T.en_NoSign_at,(λz=>by cases z),λd1 z=>?_⟩;cases z;refine⟨_,by rw[ap a];exact az,V6 (Wn _) (Wf Z),?_⟩;refine k d0 _ ?_ ?_ (λb o nb q=>?_)
 ·simp only [ap (Ne.symm a),az]
 ·first|exact az|(simp only [ap a,az];rfl)
 ·have nd:b≠d0:=au q hd;simp only [ap nb,ap nd];exact q
def Os (T:Txt w K mg t):E9 P w K mg base "NoSign" t.bc 1 t.nQ t.qp ["self", "sign", "at"] (Bj t.bc ["sign", "at"]):=by
 refine⟨T.hZ,⟨T.gy,T.lS,T.lR,T.lQ⟩,T.ER,T.Gc.okH BH (λvs H Q E h=>by obtain⟨e,us,rfl,hl,_⟩:=h;rw[WE,hl];rfl) λ_ _ _ _ H vs Q E hr h=>?_⟩;obtain⟨e,us,rfl,hl,hx,k⟩:=h;obtain⟨c,d,rfl⟩:∃c d,us=[c,d]:=match us,hl with|[c,d],_=>⟨c,d,rfl⟩
 have S:sI K t.bc:=⟨T.gy,T.An,T.lP⟩;refine⟨_,(ai (bE (B7 (K:=K) Z ⟨T.eb_0,T.eb_1,T.eb_2⟩ T.lK (ad (aa 0) (ad eM ae))))
  (ai (oS (K:=K) rfl (aa 0) (aa 1))
  (ak (oS (K:=K) rfl (aa 0) (aa 2))))),?_⟩
 refine⟨Wf Z,_,_,hx,T.gy,?_⟩;refine⟨e,_,_,rfl,hx,S,T.en_NoSign_sign,λ_ d0 hd a=>?_,(λd0 z=>by cases z)⟩;refine⟨e,_,_,rfl,az,S,T.en_NoSign_at,(λz=>by cases z),λd1 z=>?_⟩;cases z;refine⟨_,by rw[ap a];exact az,V6 (Wn _) (Wf Z),?_⟩;refine k d0 _ ?_ ?_ (λb o nb q=>?_)
 ·simp only [ap (Ne.symm a),az]
 ·first|exact az|(simp only [ap a,az];rfl)
 ·have nd:b≠d0:=au q hd;simp only [ap nb,ap nd];exact q
def oI(K:PySem.W.Frag)(t:Adr):Sp:=λvs H Q E=>∃(o:Addr) (h:Bool) (v:V),vs=[.ref o,v,.int 0]/\Po t H o h/\eA K H v/\(∀n,v=.int n->Sg n->∀p q H',H q=none->ah H H'->H' q=some (.lst ((cg h n).map V.int))->H' p=some (.tup [.ref q,.int 0])->Q (.ref p) H') /\
 (cv v=false->∀e d0 H',ah H H'->H' e=some (XO e t.bc (some d0))->H' d0=some (.xd [("sign",v),("at",.int 0)])->E (.ref t.bc) (some e) H')
def L4 (T:Txt w K mg t):bn P w K mg base (dn P w) 4 t.sr t.nz ["self", "sign", "page"] (oI K t):=by
 refine T.UT.okX JI (λvs H Q E h=>by obtain⟨o,h,v,rfl,_⟩:=h;rfl) λ_ _ _ _ H vs Q E hr h=>?_;obtain⟨o,h,v,rfl,po,k,k1,k2⟩:=h;have g:=hr.units;refine⟨_,(ai (aQ (dz (cV (aE (i4 T) hr (ad (aa 1) ae)))) (ak (mv (Es:=λ_=>E) (mM T) hr Z fj (ad (aa 1) (ad aj ae)))) aR)
  (ak (aq (bJ (ad (c6 (Pe T) hr (aa 0) (ad (aE (OG T) hr (ad (aa 1) ae)) ae)) (ad (aa 2) ae)))))),?_⟩
 refine⟨v,Z,k,?_⟩;refine aw (λhs=>?_) (λhs=>?_)
 ·have hs:cv v=false:=by simpa using hs
  refine⟨Wf rfl,λe r=>⟨e,_,rfl,rfl,az,λd0 x i d z1=>⟨rfl,e,some d0,rfl,i,?_⟩⟩⟩;have ne:d0≠e:=λz=>by rw[z,i]at d;cases d
  refine k2 hs e d0 _ (λb o q=>?_) az (by rw[ap ne];exact d);have nb:=au q r;rw[ap nb];exact z1 b o nb (by rw[ap nb];exact q)
 ·have hs:cv v=true:=by simpa using hs
  obtain⟨n,rfl⟩:∃n,v=.int n:=by
   cases v<;>first|exact⟨_,rfl⟩|(exfalso;simp[cv,cN]at hs)
  have hs:=(fJ n).mp hs;obtain⟨dx,j⟩:=id po;refine⟨o,dx,_,Z,j,Z,?_⟩;refine⟨n,Z,hs,λs B a=>?_⟩;refine⟨o,s,h,dW n,rfl,po.mono a.sm,a.lst,by have:=Aw n;omega,λu g=>Ax hs g,λm y c=>?_⟩;exact⟨sz Z,λl p f=>k1 n Z hs l m p (c.after a.sm).nw (a.sm.trans (c.sm.trans f.sm)) (f.sm _ _ c.at_) f.at_⟩
def uB (T:Txt w K mg t):iH P w K mg base t.cb "spell" 4 t.sr t.nz ["self", "sign", "page"] [] (oI K t) :=
 ⟨T.fS,T.M8,⟨_,T.TY,.nil⟩,L4 T⟩
def oJ(K:PySem.W.Frag)(C:Addr):Sp:=λvs H Q E=>∃(o:Addr) (v:V),vs=[.ref o,v,.int 0]/\eA K H v/\(∀n,v=.int n->Sg n->∀p q H',H q=none->ah H H'->H' q=some (.lst ((row n).map V.int))->H' p=some (.tup [.ref q,.int 0])->Q (.ref p) H') /\
 (cv v=false->∀e d0 H',ah H H'->H' e=some (XO e C (some d0))->H' d0=some (.xd [("sign",v),("at",.int 0)])->E (.ref C) (some e) H')
def L5 (T:Txt w K mg t):bn P w K mg base (dn P w) 4 t.sy t.nG ["self", "sign", "page"] (oJ K t.bc):=by
 refine T.UY.okX JL (λvs H Q E h=>by obtain⟨o,v,rfl,_⟩:=h;rfl) λ_ _ _ _ H vs Q E hr h=>?_;obtain⟨o,v,rfl,g,k1,k2⟩:=h;have m:=hr.units;refine⟨_,(ai (aQ (dz (cV (aE (i4 T) hr (ad (aa 1) ae)))) (ak (mv (Es:=λ_=>E) (mM T) hr Z fj (ad (aa 1) (ad aj ae)))) aR)
  (ak (aq (bJ (ad (aE (OK T) hr (ad (aa 1) ae)) (ad (aa 2) ae)))))),?_⟩
 refine⟨v,Z,g,?_⟩;refine aw (λhs=>?_) (λhs=>?_)
 ·have hs:cv v=false:=by simpa using hs
  refine⟨Wf rfl,λe k=>⟨e,_,rfl,rfl,az,λd0 p f d z1=>⟨rfl,e,some d0,rfl,f,?_⟩⟩⟩;have ne:d0≠e:=λz=>by rw[z,f]at d;cases d
  refine k2 hs e d0 _ (λb o q=>?_) az (by rw[ap ne];exact d);have nb:=au q k;rw[ap nb];exact z1 b o nb (by rw[ap nb];exact q)
 ·have hs:cv v=true:=by simpa using hs
  obtain⟨n,rfl⟩:∃n,v=.int n:=by
   cases v<;>first|exact⟨_,rfl⟩|(exfalso;simp[cv,cN]at hs)
  have hs:=(fJ n).mp hs;refine⟨n,Z,hs,λl r a=>?_⟩;exact⟨sz Z,λj i c=>k1 n Z hs j l i a.nw (a.sm.trans c.sm) (c.sm _ _ a.at_) c.at_⟩
def uC (T:Txt w K mg t):iH P w K mg base t.dg "spell" 4 t.sy t.nG ["self", "sign", "page"] [] (oJ K t.bc) :=
 ⟨T.nM,T.Nd,⟨_,T.T5,.nil⟩,L5 T⟩
end
end My
namespace My
open PySem L2
def cC:g0->Int->Option Nat
 | [],_=>none
 | m::ms,n=>if m=n then some 0 else (cC ms n).map (· + 1)
def fo{ns:g0}{n:Int}:cC ns n=none ↔ n∉ns:=by
 induction ns with
 | nil=>simp[cC]
 | cons m ms ih =>
  unfold cC;by_cases e:m=n
  ·simp[e]
  ·rw[YA e];have e':¬n=m:=λz=>e z.symm;simp[ih,e']
theorem pQ:∀ {ns:g0} {n:Int} {i:Nat},cC ns n=some i->ns[i]? = some n/\∀j,j<i->ns[j]? ≠ some n
 | [],n,i,h=>by cases h
 | m::ms,n,i,h=>by
  unfold cC at h;by_cases e:m=n
  ·rw[YB e]at h;cases h;exact⟨by simp[e],λj c=>YC c (by omega)⟩
  ·rw[YA e]at h;obtain⟨k,d,rfl⟩:=WR.mp h;obtain⟨a,b⟩:=pQ d;refine⟨by simpa using a,λj c=>?_⟩;cases j with
   | zero=>simpa using e
   | succ j=>simpa using b j (by omega)
theorem Oc(ns:g0)(n m:Int):cC (ns++[n]) m=match cC ns m with
 | some i=>some i
 | none=>if n=m then some ns.length else none:=by
 induction ns with
 | nil=>simp[cC]
 | cons a as ih =>
  rw[XL,cC,cC];by_cases e:a=m
  ·rw[YB e,YB e]
  ·rw[YA e,YA e,ih];cases cC as m with
   | some i=>rfl
   | none =>
    dsimp only [Option.map];by_cases e2:n=m
    ·rw[YB e2,YB e2];simp
    ·rw[YA e2,YA e2]
def uv{ns:g0}{n:Int}(h:n∈ns):∃i,cC ns n=some i/\i<ns.length:=by
 cases e:cC ns n with
 | none=>exact YC h (fo.mp e)
 | some i=>exact⟨i,rfl,(V8.mp (pQ e).1).1⟩
def aD{α:Type}(g:Int)(x y:α):α:=if g=0 then x else y
def cY(g:Int):Prop:=g=0\/g=1
def lT{g:Int}{x y:V}(h:cY g):cD [x,y] g=some (aD g x y):=by
 rcases h with rfl|rfl<;>rfl
def cY.flip{g:Int}(h:cY g):cY (1-g):=by
 rcases h with rfl|rfl
 ·exact .inr Z
 ·exact .inl Z
def Bq{α:Type}{g:Int}{x y:α}(h:cY g):aD (1-g) x y=aD g y x:=by
 rcases h with rfl|rfl<;>rfl
def jw{α β:Type}(f:α->β)(g:Int)(x y:α):aD g (f x) (f y)=f (aD g x y):=by
 unfold aD;split<;>rfl
def nP(O P:g0)(b:Nat):Bool:=!decide (O.getD b 0∈P)
def fU(O P:g0):List Nat:=(List.range O.length).filter (nP O P)
def CG{O P:g0}{b:Nat}:b∈fU O P ↔ ∃n,O[b]? = some n/\n∉P:=by
 unfold fU nP;rw[List.mem_filter,List.mem_range]
 constructor
 ·rintro⟨h,k⟩;refine⟨O[b],WG h,?_⟩;rw[WO,WG h]at k;simpa using k
 ·rintro⟨n,h,k⟩;refine⟨(V8.mp h).1,?_⟩;rw[WO,h];simpa using k
theorem Ds{f:Nat->Bool}{i:Nat}(h:∀j,j<i->f j=false)(k:f i=true):∀ {n:Nat},i<n->((List.range n).filter f).head? = some i
 | 0,z=>YC z (by omega)
 | n+1,z=>by
  rw[W0,List.filter_append,List.head?_append];by_cases c:i<n
  ·rw[Ds h k c];rfl
  ·obtain rfl:i=n:=by omega
   have e:(List.range i).filter f=[]:=by
    rw[Yv];intro j a;rw[h j (List.mem_range.mp a)]
    decide
   rw[e];simp[k]
def Q5{f:Nat->Bool}{n:Nat}(h:∀j,j<n->f j=false):(List.range n).filter f=[]:=by
 rw[Yv];intro j a;rw[h j (List.mem_range.mp a)]
 decide
def cS(O P:g0)(g:Int):g0:=match (fU O P).head? with
 | some b=>[254+(1-g),(b:Int)]
 | none=>[]
def ej(ns:g0):Prop:=(∀n∈ns,Sg n)/\ns.Nodup/\ns.length<=250
def tK{g:Int}{ns ms:g0}(h:ej ns)(k:ej ms):ej (aD g ns ms):=by
 unfold aD;split
 ·exact h
 ·exact k
structure Fp where
 dx:Addr
 pp:Addr
 pl:Addr
 ps:Addr
 d0:Addr
 d1:Addr
 l0:Addr
 l1:Addr
 s0:Addr
 s1:Addr
def gG(H:Hp)(d:Addr)(ns:g0):Prop:=∃kv,H d=some (.dK kv)/\∀n:Int,bd kv (.inl n)=(cC ns n).map λi=>V.int (i:Int)
structure Tg (t:Adr) (H:Hp) (a:Addr) (f:Fp) (ns ms:g0):Prop where
 o:H a=some (.ins t.bC f.dx [("places",.ref f.pp),("lists",.ref f.pl),("shifted",.ref f.ps)])
 p:H f.pp=some (.lst [.ref f.d0,.ref f.d1])
 l:H f.pl=some (.lst [.ref f.l0,.ref f.l1])
 s:H f.ps=some (.lst [.ref f.s0,.ref f.s1])
 d0:gG H f.d0 ns
 d1:gG H f.d1 ms
 l0:H f.l0=some (.lst (ns.map V.int))
 l1:H f.l1=some (.lst (ms.map V.int))
 s0:H f.s0=some (.lst ((cS ms ns 0).map V.int))
 s1:H f.s1=some (.lst ((cS ns ms 1).map V.int))
 k0:ej ns
 k1:ej ms
section
variable {t:Adr}{H H':Hp}{a:Addr}{f:Fp}{ns ms:g0}{g:Int}
def Tg.keep(h:Tg t H a f ns ms)(k:∀c u,c∈[a,f.pp,f.pl,f.ps,f.d0,f.d1,f.l0,f.l1,f.s0,f.s1]->H c=some u->H' c=some u):Tg t H' a f ns ms:=by
 obtain⟨o,p,l,s,⟨b,d0,d⟩,⟨e,d1,g⟩,l0,l1,s0,s1,k0,k1⟩:=h;exact⟨k _ _ (by simp) o,k _ _ (by simp) p,k _ _ (by simp) l,k _ _ (by simp) s,⟨b,k _ _ (by simp) d0,d⟩,⟨e,k _ _ (by simp) d1,g⟩,k _ _ (by simp) l0,k _ _ (by simp) l1,k _ _ (by simp) s0,k _ _ (by simp) s1,k0,k1⟩
def Tg.mono(h:Tg t H a f ns ms)(k:ah H H'):Tg t H' a f ns ms:=h.keep λc u _ e=>k c u e
def Tg.dk(h:Tg t H a f ns ms)(tg:cY g):gG H (aD g f.d0 f.d1) (aD g ns ms):=by
 rcases tg with rfl|rfl
 ·exact h.d0
 ·exact h.d1
def Tg.ll(h:Tg t H a f ns ms)(tg:cY g):H (aD g f.l0 f.l1)=some (.lst ((aD g ns ms).map V.int)):=by
 rcases tg with rfl|rfl
 ·exact h.l0
 ·exact h.l1
def Tg.ss(h:Tg t H a f ns ms)(tg:cY g):H (aD g f.s0 f.s1)=some (.lst ((cS (aD g ms ns) (aD g ns ms) g).map V.int)):=by
 rcases tg with rfl|rfl
 ·exact h.s0
 ·exact h.s1
def HJ(K:PySem.W.Frag):Sp:=λvs H Q _=>∃(a:Addr) (ns:g0) (b:Int),vs=[.ref a,.int b]/\aI K H a (ns.map V.int)/\ej ns/\∀p H',ah H H'->H p=none->gG H' p ns->Q (.ref p) H'
def Dx (T:Txt w K mg t):bh P w K mg base "places_in" 4 t.zj t.vH ["signs", "which"] (HJ K):=by
 refine⟨T.Qh,T.FF.kp,T.SL,T.FF.okQ oP (λvs H Q E h=>by obtain⟨a,xs,G,rfl,_⟩:=h;rfl) λ_ _ _ _ H vs Q E hr h=>?_⟩;obtain⟨a,ns,G,rfl,u,⟨sg,nd,ln⟩,M⟩:=h;have J:=hr.units;refine⟨_,(ai (aQ (aJ lL (bp (VS K) T.n_len Wj (ad (aa 0) ae)) (bQ T.RV) (aM _)) (ak iV) aR)
  (ai (aF (i:=2) oP.nd rfl (.inl rfl) B3)
  (ai (cm PassesOwn.never rfl (gO (K:=K) rfl rfl T.n_enumerate (ad (aa 0) ae)) (fN (K:=K) rfl rfl (cF (bb (i:=3) oP.nd rfl (.inl rfl)) (cF (bb (i:=4) oP.nd rfl (.inl rfl)) fM))) (ai (aQ (cG (dy (dz (cV (aE (i4 T) hr (ad (aa 4) ae)))) (eB (aJ (pV J) (aa 4) (aa 2) (by with_unfolding_all rfl))))) (ak iV) aR)
  (ak (o0 J (aa 2) (aa 4) (aa 3)))))
  (ak (aq (aa 2)))))),?_⟩
 refine⟨_,.inl u,?_⟩;refine aw (λz=>?_) (λ_=>?_)
 ·have z:((ns.map V.int).length:Int) > 250:=YD z;rw[V4]at z;omega
 refine λd H1 f=>?_;refine⟨a,_,rfl,f.sm.seq u,mU (K:=K) (a:=a) (xs:=ns.map V.int) (λi σ C=>ah H C/\∃(b:List (aS × V)) (B D:Option V),C d=some (.dK b)/\b.length<=i/\(∀n:Int,bd b (.inl n)=(cC (ns.take i) n).map λi=>V.int (i:Int))/\σ=[some (.ref a),some (.int G),some (.ref d),B,D]) ⟨f.sm,[],_,_,f.at_,by simp,(λn=>by simp[bd,cC]),rfl⟩ (λi σ C _ z=>z.1.seq u) ?_ ?_⟩
 ·rintro i x p σ L Y hx ⟨F,b,B,D,s,lk,g,rfl⟩ r;obtain⟨n,l,rfl⟩:=dD hx;have hi:=(V8.mp l).1;refine⟨p,_,Z,r.tup,Z,_,_,Z,_,_,Z,Z,?_⟩;have S:=F.trans r.sm;have d3:=r.sm _ _ s;have o:cv (.int n)=true:=(fJ n).mpr (sg n (Wo l));refine⟨_,Z,.int n,?_⟩;refine aw (λy=>?_) (λ_=>?_)
  ·have y:(!cv (.int n))=true:=y;rw[o]at y;cases y
  have e:n∉ns.take i:=λz=>by
   obtain⟨j,v⟩:=Yt z;have c:j<i:=by
    have:=(V8.mp v).1;rw[Wa]at this;omega
   rw[XA c]at v;obtain⟨W,U⟩:=V8.mp v;obtain⟨N,R⟩:=V8.mp l;exact YC (U.trans R.symm) (Xu.mp nd j i W N c)
  have I:bd b (.inl n)=none:=by rw[g,fo.mpr e];rfl
  refine⟨d,_,Z,cI.k (k:=.inl n) d3,?_⟩;refine aw (λy=>?_) (λ_=>?_)
  ·have y:(bd b (.inl n)).isSome=true:=y;rw[I]at y;cases y
  refine⟨d,_,rfl,gJ.k (k:=.inl n) d3 (cZ (by omega)),?_⟩;refine⟨S.put f.nw,_,_,_,az,?_,λm=>?_,Z⟩
  ·rw[KE _ I,Wb];simp;omega
  ·rw[gK,db l,Oc,Wa,WX (by omega)];by_cases q:m=n
   ·subst q;rw[YB rfl,fo.mpr e];simp
   ·rw[YA (λz=>q (Sum.inl.inj z)),g];have O:¬n=m:=λz=>q z.symm;cases cC (ns.take i) m with
    | some j=>rfl
    | none=>simp[O]
 ·rintro σ L ⟨F,b,B,D,s,lk,g,rfl⟩;rw[V4,Wg]at g;exact M d L F f.nw ⟨b,s,g⟩
structure nZ (t:Adr) (H:Hp) (a dx pp pl d0 d1 l0 l1:Addr) (ns ms:g0):Prop where
 o:H a=some (.ins t.bC dx [("places",.ref pp),("lists",.ref pl)])
 p:H pp=some (.lst [.ref d0,.ref d1])
 l:H pl=some (.lst [.ref l0,.ref l1])
 d0:gG H d0 ns
 d1:gG H d1 ms
 l0:H l0=some (.lst (ns.map V.int))
 l1:H l1=some (.lst (ms.map V.int))
def gG.mono{H c:Hp}{d:Addr}{ns:g0}(h:gG H d ns)(s:ah H c):gG c d ns:=by
 obtain⟨e,a,b⟩:=h;exact⟨e,s _ _ a,b⟩
def nZ.mono{H b:Hp}{a dx pp pl d0 d1 l0 l1:Addr}{ns ms:g0}(h:nZ t H a dx pp pl d0 d1 l0 l1 ns ms)(s:ah H b):nZ t b a dx pp pl d0 d1 l0 l1 ns ms :=
 ⟨s _ _ h.o,s _ _ h.p,s _ _ h.l,h.d0.mono s,h.d1.mono s,s _ _ h.l0,s _ _ h.l1⟩
def HG(t:Adr):Sp:=λvs H Q _=>∃(a dx pp pl d0 d1 l0 l1:Addr) (ns ms:g0) (g:Int),vs=[.ref a,.int g]/\cY g/\nZ t H a dx pp pl d0 d1 l0 l1 ns ms/\∀p H',ah H H'->H p=none->H' p=some (.lst ((cS (aD g ms ns) (aD g ns ms) g).map V.int))->Q (.ref p) H'
def DI (T:Txt w K mg t):cy P w K mg base t.bC "row_beyond" 1 t.zS t.wt ["self", "page"] (HG t):=by
 refine⟨T.cR,T.MS,T.Tx,T.UA.okQ tR (λvs H Q E h=>by obtain⟨a,dx,pp,pl,d0,d1,l0,l1,ns,ms,g,rfl,_⟩:=h;rfl) λ_ _ _ _ H vs Q E hr h=>?_⟩;obtain⟨a,dx,pp,pl,d0,d1,l0,l1,ns,ms,g,rfl,tg,b,k⟩:=h;have N:=hr.units;refine⟨_,(ai (cm PassesOwn.never rfl (gO (K:=K) rfl rfl T.n_enumerate (ad (aK (VT K) (aU (K:=K) rfl (aa 0)) (aO c7 aj (aa 1)) (λ_ _=>rfl)) ae)) (fN (K:=K) rfl rfl (cF (bb (i:=2) tR.nd rfl (.inl rfl)) (cF (bb (i:=3) tR.nd rfl (.inl rfl)) fM))) (ak (aQ (aJ (DT N) (aa 3) (aK (VT K) (aU (K:=K) rfl (aa 0)) (aa 1) (λ_ _=>rfl)) (by with_unfolding_all rfl)) (ak (aq (aT (ad (aK (VT K) (gh (v:=.ref t.lU) rfl T.yF rfl) (aO c7 aj (aa 1)) (λ_ _=>rfl)) (ad (aa 2) ae))))) aR)))
  (ak (aq (aT ae)))),?_⟩
 have ln:H (aD (1-g) l0 l1)=some (.lst ((aD g ms ns).map V.int)):=by
  rcases tg with rfl|rfl
  ·exact b.l1
  ·exact b.l0
 have L:gG H (aD g d0 d1) (aD g ns ms):=by
  rcases tg with rfl|rfl
  ·exact b.d0
  ·exact b.d1
 obtain⟨B,C,r⟩:=L;have sh:cD (([254,255]:g0).map V.int) (1-g)=some (.int (254+(1-g))):=by
  rcases tg with rfl|rfl<;>rfl
 generalize hO:aD g ms ns=O at *;generalize hP:aD g ns ms=P' at *;refine⟨a,_,dx,_,_,Z,b.o,T.cR,T.pF,Z,?_⟩;refine⟨_,.ref (aD (1-g) l0 l1),.inl (.of b.l),by rw[lT tg.flip];exact congrArg some (jw V.ref _ _ _),?_⟩;refine⟨aD (1-g) l0 l1,_,rfl,.of ln,mU (K:=K) (a:=aD (1-g) l0 l1) (xs:=O.map V.int) (λi σ G=>ah H G/\(∀j,j<i->nP O P' j=false)/\∃s u,σ=[some (.ref a),some (.int g),s,u]) ⟨ah.refl _,(λj h=>YC h (by omega)),_,_,rfl⟩ (λi σ G _ z=>z.1.seq (.of ln)) ?_ ?_⟩
 ·rintro i x p σ R W hx ⟨n,m,s,u,rfl⟩ D;obtain⟨q,F,rfl⟩:=dD hx;have U:=(V8.mp F).1;refine⟨p,_,Z,D.tup,Z,_,_,Z,_,_,Z,Z,?_⟩;have f:=n.trans D.sm;refine⟨a,_,dx,_,_,Z,f _ _ b.o,T.cR,T.iX,Z,?_⟩;refine⟨_,.ref (aD g d0 d1),.inl (.of (f _ _ b.p)),by rw[lT tg];exact congrArg some (jw V.ref _ _ _),?_⟩;refine⟨aD g d0 d1,_,Z,cI.k (k:=.inl q) (f _ _ C),?_⟩;have eq:(bd B (.inl q)).isSome=decide (q∈P'):=by
   rw[r];cases e:cC P' q with
   | none=>have:=fo.mp e;simp[this]
   | some j =>
    have:q∈P':=Decidable.byContradiction λz=>by rw[fo.mpr z]at e;cases e
    simp[this]
  have I:nP O P' i = !decide (q∈P'):=by
   unfold nP;rw[WO,F];rfl
  refine aw (λy=>?_) (λy=>?_)
  ·have y:(!(bd B (.inl q)).isSome)=true:=y;rw[eq,<- I]at y;refine⟨_,.int (254+(1-g)),.inr (T.tW _),sh,?_⟩;refine⟨sz Z,λS J d=>?_⟩;refine k _ _ (f.trans d.sm) (f.free d.nw) ?_;have e:cS O P' g=[254+(1-g),(i:Int)]:=by
    unfold cS fU;rw[Ds m y U]
   rw[e];exact d.at_
  ·have y:¬(!(bd B (.inl q)).isSome)=true:=y;rw[eq,<- I]at y;refine⟨f,λj M=>?_,_,_,Z⟩;by_cases c:j<i
   ·exact m j c
   ·obtain rfl:j=i:=by omega
    simpa using y
 ·rintro σ R ⟨n,m,s,u,rfl⟩;rw[V4]at m;refine⟨sz Z,λS J d=>k _ _ (n.trans d.sm) (n.free d.nw) ?_⟩;have e:cS O P' g=[]:=by
   unfold cS fU;rw[Q5 m]
   rfl
  rw[e];exact d.at_
def Kp.seq{a f:Addr}{H b:Hp}{xs:List V}(k:Kp a H b)(n:f≠a)(h:aI K H f xs):aI K b f xs:=by
 rcases h with h|h
 ·rcases h with h|⟨o,h⟩
  ·exact .inl (.inl (k _ _ n h))
  ·exact .inl (.inr ⟨o,k _ _ n h⟩)
 ·exact .inr h
def Be(K:PySem.W.Frag)(t:Adr):Sp:=λvs H Q _=>∃(a dx f g:Addr) (ns ms:g0),vs=[.ref a,.ref f,.ref g]/\H a=some (.ins t.bC dx [])/\aI K H f (ns.map V.int)/\aI K H g (ms.map V.int)/\ej ns/\ej ms/\f≠a/\g≠a /\
 ∀fp H',Kp a H H'->Tg t H' a fp ns ms->(∀c∈[fp.pp,fp.pl,fp.ps,fp.d0,fp.d1,fp.l0,fp.l1,fp.s0,fp.s1],c≠a/\H c=none)->Q .non H'
def Mg (T:Txt w K mg t):bn P w K mg base bD 5 t.rW t.qo ["self", "first", "second"] (Be K t):=by
 refine T.UB.okQ Jv (λvs H Q E h=>by obtain⟨a,dx,f,g,ns,ms,rfl,_⟩:=h;rfl) λ_ _ _ _ H vs Q E hr h=>?_;obtain⟨a,dx,f,g,ns,ms,rfl,ha,hf,hg,W,a1,nf,ng,kq⟩:=h;have hu:=hr.units;refine⟨_,(ai (ce (K:=K) Z (aa 0) (aT (ad (aE (Dx T) hr (ad (aa 1) (ad aj ae))) (ad (aE (Dx T) hr (ad (aa 2) (ad aj ae))) ae))))
  (ai (ce (K:=K) rfl (aa 0) (aT (ad (dM (VV K) T.n_list WJ (ad (aa 1) ae)) (ad (dM (VV K) T.n_list WJ (ad (aa 2) ae)) ae))))
  (ak (ce (K:=K) rfl (aa 0) (aT (ad (c6 (DI T) hr (aa 0) (ad aj ae)) (ad (c6 (DI T) hr (aa 0) (ad aj ae)) ae))))))),?_⟩
 refine⟨f,ns,0,Z,hf,W,λd0 H1 s1 Y am=>?_⟩;refine⟨g,ms,1,Z,s1.seq hg,a1,λd1 H2 s2 V aq=>?_⟩;refine⟨sz Z,λpp H3 N=>?_⟩;have s3:=s1.trans (s2.trans N.sm);refine⟨a,_,dx,_,rfl,s3 _ _ ha,T.cR,T.iX,V6 Xf (by decide),?_⟩;obtain⟨R,e4⟩:∃R,R=upd H3 a (HO.ins t.bC dx (bX "places" (.ref pp) [])):=⟨_,rfl⟩;have a4:R a=some (.ins t.bC dx [("places",.ref pp)]):=by rw[e4,az];rfl
 have k4:Kp a H3 R:=by rw[e4];exact Kp.upd
 rw[<- e4];clear e4;have b:Kp a H R:=(Kp.of s3).trans k4;refine⟨_,.inl (b.seq nf hf),λl0 H5 q=>?_⟩;refine⟨_,.inl ((b.trans (Kp.of q.sm)).seq ng hg),λl1 H6 C=>?_⟩;refine⟨sz Z,λpl H7 O=>?_⟩;have U:=q.sm.trans (C.sm.trans O.sm);refine⟨a,_,dx,_,rfl,U _ _ a4,T.cR,T.pF,V6 (Wn 1) (by decide),?_⟩;obtain⟨s,e8⟩:∃s,s=upd H7 a (HO.ins t.bC dx (bX "lists" (.ref pl) [("places",.ref pp)])):=⟨_,rfl⟩;have L:s a=some (.ins t.bC dx [("places",.ref pp),("lists",.ref pl)]):=by rw[e8,az];rfl
 have k8:Kp a H7 s:=by rw[e8];exact Kp.upd
 rw[<- e8];clear e8;have J:d0≠a:=(au ha Y).symm;have F:d1≠a:=(au (s1 _ _ ha) V).symm;have v:pp≠a:=(au (s2 _ _ (s1 _ _ ha)) N.nw).symm;have i:l0≠a:=(au a4 q.nw).symm;have o:l1≠a:=(au (q.sm _ _ a4) C.nw).symm;have r:pl≠a:=(au (C.sm _ _ (q.sm _ _ a4)) O.nw).symm;have m:Kp a H3 s:=k4.trans ((Kp.of U).trans k8);have j:Kp a H s:=(Kp.of s3).trans m;obtain⟨af,q0,e0⟩:=am;obtain⟨ap,q1,e1⟩:=aq;have d:nZ t s a dx pp pl d0 d1 l0 l1 ns ms:=⟨L,m _ _ v N.at_,k8 _ _ r O.at_,⟨af,m _ _ J (N.sm _ _ (s2 _ _ q0)),e0⟩,⟨ap,m _ _ F (N.sm _ _ q1),e1⟩,k8 _ _ i (O.sm _ _ (C.sm _ _ q.at_)),k8 _ _ o (O.sm _ _ C.at_)⟩;refine⟨a,dx,_,Z,L,Z,?_⟩;refine⟨a,dx,pp,pl,d0,d1,l0,l1,ns,ms,0,Z,.inl Z,d,λz0 H9 I a0 ag=>?_⟩;refine⟨a,dx,_,Z,I _ _ L,Z,?_⟩;refine⟨a,dx,pp,pl,d0,d1,l0,l1,ns,ms,1,Z,.inr Z,d.mono I,λz1 HA sA S al=>?_⟩;refine⟨sz Z,λps HB gB=>?_⟩;have G:=I.trans (sA.trans gB.sm);refine⟨a,_,dx,_,rfl,G _ _ L,T.cR,T.pE,V6 (Wn 2) (by decide),?_⟩;obtain⟨M,eC⟩:∃M,M=upd HB a (HO.ins t.bC dx (bX "shifted" (.ref ps) [("places",.ref pp),("lists",.ref pl)])):=⟨_,rfl⟩;have aC:M a=some (.ins t.bC dx [("places",.ref pp),("lists",.ref pl),("shifted",.ref ps)]):=by rw[eC,az];rfl
 have kC:Kp a HB M:=by rw[eC];exact Kp.upd
 rw[<- eC];clear eC;have z:z0≠a:=(au L a0).symm;have D:z1≠a:=(au (I _ _ L) S).symm;have B:ps≠a:=(au (sA _ _ (I _ _ L)) gB.nw).symm;have ab:Kp a s M:=(Kp.of G).trans kC;have hB:=d.mono G;have fr:∀ {c:Addr} {H':Hp},Kp a H H'->c≠a->H' c=none->H c=none:=λ{c H'} k n e=>by
  cases h:H c with
  | none=>rfl
  | some u=>rw[k c u n h]at e;cases e
 refine kq ⟨dx,pp,pl,ps,d0,d1,l0,l1,z0,z1⟩ M (j.trans ab) ⟨aC,kC _ _ v hB.p,kC _ _ r hB.l,kC _ _ B gB.at_,?_,?_,kC _ _ i hB.l0,kC _ _ o hB.l1,kC _ _ z (gB.sm _ _ (sA _ _ ag)),kC _ _ D (gB.sm _ _ al),W,a1⟩ ?_
 ·obtain⟨kv,x,y⟩:=hB.d0;exact⟨kv,kC _ _ J x,y⟩
 ·obtain⟨kv,x,y⟩:=hB.d1;exact⟨kv,kC _ _ F x,y⟩
 ·intro c hc;simp only [Wh,WK,or_false]at hc;rcases hc with rfl|rfl|rfl|rfl|rfl|rfl|rfl|rfl|rfl
  ·exact⟨v,s1.free (s2.free N.nw)⟩
  ·exact⟨r,fr (b.trans (Kp.of (q.sm.trans C.sm))) r O.nw⟩
  ·exact⟨B,fr (j.trans (Kp.of (I.trans sA))) B gB.nw⟩
  ·exact⟨J,Y⟩
  ·exact⟨F,s1.free V⟩
  ·exact⟨i,fr b i q.nw⟩
  ·exact⟨o,fr (b.trans (Kp.of q.sm)) o C.nw⟩
  ·exact⟨z,fr j z a0⟩
  ·exact⟨D,fr (j.trans (Kp.of I)) D S⟩
def Dp (T:Txt w K mg t):ij P w K mg base "ShiftTongue" t.bC 5 t.rW t.qo ["self", "first", "second"] [] (Be K t):=⟨T.Pz,T.Nj,⟨[],T.Tz,.nil⟩,Mg T⟩
def EJ(O P:g0)(g:Int):cS O P g=[]\/∃b:Nat,(fU O P).head? = some b/\cS O P g=[254+(1-g),(b:Int)]:=by
 unfold cS;cases e:(fU O P).head? with
 | none=>exact .inl rfl
 | some b=>exact .inr ⟨b,rfl,rfl⟩
def R1(O P:g0)(g:Int):cS O P g=[] ↔ fU O P=[]:=by
 unfold cS;cases e:fU O P with
 | nil=>simp
 | cons b r=>simp
def dv(P O:g0)(g:Int)(x:V):Option (g0 × Int):=match x with
 | .int n=>match cC P n with
  | some i=>some ([(i:Int)],g)
  | none=>match cC O n with
   | some i=>some ([254+(1-g),(i:Int)],1-g)
   | none=>none
 | _=>none
def G8{P O:g0}{g:Int}{x:V}(hP:ej P)(hO:ej O)(h:cv x=false):dv P O g x=none:=by
 cases x with
 | int n =>
  have a:¬Sg n:=λz=>by rw[(fJ n).mpr z]at h;cases h
  unfold dv;dsimp only;rw[fo.mpr λz=>a (hP.1 n z)];dsimp only;rw[fo.mpr λz=>a (hO.1 n z)]
 | _=>rfl
def II{v:V}(h:cv v=true):∃n,v=.int n/\Sg n:=by
 cases v with
 | int n=>exact⟨n,rfl,(fJ n).mp h⟩
 | _=>simp[cv,cN]at h
def LO:Option Int->V
 | some n=>.int n
 | none=>.non
def T8{L:g0}{b n:Int}(a:0<=b)(h:L[b.toNat]? = some n):cD (L.map V.int) b=some (.int n):=by
 obtain⟨k,rfl⟩:∃k:Nat,b=(k:Int):=⟨b.toNat,by omega⟩;exact aX (by rw[We];simp at h;rw[h];rfl)
def Hx(t:Adr):Sp:=λvs H Q _=>∃(a:Addr) (f:Fp) (ns ms:g0) (b g:Int),vs=[.ref a,.int b,.int g]/\cY g/\Tg t H a f ns ms/\0<=b/\Q (LO (aD g ns ms)[b.toNat]?) H
def DH (T:Txt w K mg t):cy P w K mg base t.bC "sign_of" 1 t.zR t.wq ["self", "byte", "page"] (Hx t):=by
 refine⟨T.cR,T.MR,T.Tv,T.Uz.okQ Ju (λvs H Q E h=>by obtain⟨a,f,ns,ms,b,g,rfl,_⟩:=h;rfl) λ_ _ _ _ H vs Q E hr h=>?_⟩;obtain⟨a,f,ns,ms,b,g,rfl,two,tg,e,k⟩:=h;refine⟨_,(ak (aq (gg (aJ dl (aa 1) (bp (VS K) T.n_len Wj (ad (aK (VT K) (aU (K:=K) Z (aa 0)) (aa 2) (λ_ _=>rfl)) ae)) (aM _)) (aK (VT K) (aK (VT K) (aU (K:=K) Z (aa 0)) (aa 2) (λ_ _=>rfl)) (aa 1) (λ_ _=>rfl)) bu))),?_⟩;have c:cD [V.ref f.l0,V.ref f.l1] g=some (.ref (aD g f.l0 f.l1)):=by rw[lT two];exact congrArg some (jw V.ref _ _ _)
 have hl:=tg.ll two;refine⟨a,_,f.dx,_,_,Z,tg.o,T.cR,T.pF,Z,?_⟩;refine⟨_,_,.inl (.of tg.l),c,?_⟩;refine⟨_,.inl (.of hl),?_⟩;refine aw (λz=>?_) (λz=>?_)
 ·have z:b<(((aD g ns ms).map V.int).length:Int):=YD z;rw[V4]at z;refine⟨a,_,f.dx,_,_,Z,tg.o,T.cR,T.pF,Z,?_⟩;refine⟨_,_,.inl (.of tg.l),c,?_⟩;obtain⟨n,d⟩:∃n,(aD g ns ms)[b.toNat]? = some n:=⟨_,WG (by omega)⟩;rw[d]at k;exact⟨_,.int n,.inl (.of hl),T8 e d,k⟩
 ·have z:¬b<(((aD g ns ms).map V.int).length:Int):=λy=>z (YE y);rw[V4]at z;rw[Xc (by omega)]at k;exact k
def Af(g:Int)(row:g0):Prop:=(∃b,row=[b]/\0<=b)\/∃c,row=[254+(1-g),c]/\0<=c
def eX(P O:g0)(g:Int)(row:g0):Option (Int × Int):=match row with
 | [b]=>P[b.toNat]?.map λn=>(n,g)
 | [_,c]=>match O[c.toNat]? with
  | some n=>if n∈P then none else some (n,1-g)
  | none=>none
 | _=>none
def A8(t:Adr):Sp:=λvs H Q _=>∃(a:Addr) (f:Fp) (ns ms:g0) (q:Addr) (row:g0) (g:Int),vs=[.ref a,.ref q,.int g]/\cY g/\Tg t H a f ns ms/\H q=some (.lst (row.map V.int))/\Af g row /\
 (eX (aD g ns ms) (aD g ms ns) g row=none->Q .non H)/\(∀n g',eX (aD g ns ms) (aD g ms ns) g row=some (n,g')->∀p H',bi H p (.tup [.int n,.int g']) H'->Q (.ref p) H')
def Mb (T:Txt w K mg t):bn P w K mg base bD 2 t.rT t.ni ["self", "row", "page"] (A8 t):=by
 refine T.Ux.okQ tQ (λvs H Q E h=>by obtain⟨o,f,ns,ms,q,row,g,rfl,_⟩:=h;rfl) λ_ _ _ _ H vs Q E hr h=>?_;obtain⟨a,f,ns,ms,q,row,g,rfl,two,tg,r,ok,d,l⟩:=h;have s:=hr.units;refine⟨_,(ai (aQ (aJ (ca (K:=K) Z s) (bp (VS K) T.n_len Wj (ad (aa 1) ae)) aj (aM _)) (ai (aF (i:=3) tQ.nd Z (.inl Z) (c6 (DH T) hr (aa 0) (ad (aK (VT K) (aa 1) aj (λ_ _=>rfl)) (ad (aa 2) ae))))
  (ak (aq (gg (aJ fA (aa 3) bu (aM _)) bu (bJ (ad (aa 3) (ad (aa 2) ae))))))) aR)
  (ai (aQ (cG (fL (aJ (ca (K:=K) rfl s) (bp (VS K) T.n_len Wj (ad (aa 1) ae)) aj (aM _)) (gf (aJ (ca (K:=K) rfl s) (aK (VT K) (aa 1) aj (λ_ _=>rfl)) (aK (VT K) (gh (v:=.ref t.lU) rfl T.yF rfl) (aO c7 aj (aa 2)) (λ_ _=>rfl)) (aM _))))) (ai (aF (i:=3) tQ.nd rfl (.inl rfl) (c6 (DH T) hr (aa 0) (ad (aK (VT K) (aa 1) aj (λ_ _=>rfl)) (ad (aO c7 aj (aa 2)) ae))))
  (ak (aq (gg (cG (dy (aJ fA (aa 3) bu (aM _)) (eB (aJ (pV s) (aa 3) (aK (VT K) (aU (K:=K) rfl (aa 0)) (aa 2) (λ_ _=>rfl)) (by with_unfolding_all rfl))))) bu (bJ (ad (aa 3) (ad (aO c7 aj (aa 2)) ae))))))) aR)
  (ak (aq bu)))),?_⟩
 refine⟨_,.inl (.of r),?_⟩;rcases ok with ⟨b,rfl,b0⟩|⟨c,rfl,c0⟩
 ·refine⟨a,f.dx,_,Z,tg.o,Z,?_⟩;refine⟨_,_,.inl (.of r),aX (j:=0) Z,?_⟩;refine⟨a,f,ns,ms,b,g,Z,two,tg,b0,?_⟩;unfold eX at d l;dsimp only at d l;cases e:(aD g ns ms)[b.toNat]? with
  | none=>exact d (by rw[e];rfl)
  | some n=>exact⟨sz rfl,λp x g'=>l n g (by rw[e];rfl) p x g'⟩
 ·have sh:cD (([254,255]:g0).map V.int) (1-g)=some (.int (254+(1-g))):=by
   rcases two with rfl|rfl<;>rfl
  refine⟨_,.inl (.of r),?_⟩;refine⟨_,_,.inl (.of r),aX (j:=0) Z,?_⟩;refine⟨_,_,.inr (T.tW _),sh,?_⟩;refine aw (λ_=>?_) (λz=>YC (show decide (254+(1-g)=254+(1-g))=true by simp) z);refine⟨a,f.dx,_,Z,tg.o,Z,?_⟩;refine⟨_,_,.inl (.of r),aX (j:=1) Z,?_⟩;refine⟨a,f,ns,ms,c,1-g,Z,two.flip,tg,c0,?_⟩;rw[Bq two];unfold eX at d l;dsimp only at d l;cases e:(aD g ms ns)[c.toNat]? with
  | none =>
   rw[e]at d;exact d Z
  | some n =>
   rw[e]at d l;dsimp only at d l;obtain⟨u,y,m⟩:=tg.dk two;refine⟨a,_,f.dx,_,_,Z,tg.o,T.cR,T.iX,Z,?_⟩;refine⟨_,.ref (aD g f.d0 f.d1),.inl (.of tg.p),by rw[lT two];exact congrArg some (jw V.ref _ _ _),?_⟩;refine⟨_,_,Z,cI.k (k:=.inl n) y,?_⟩;by_cases hn:n∈aD g ns ms
   ·rw[YB hn]at d;obtain⟨i,C,_⟩:=uv hn;have B:bd u (.inl n)=some (.int (i:Int)):=by rw[m,C];rfl
    refine aw (λ_=>?_) (λz=>YC (show (bd u (.inl n)).isSome=true by rw[B];rfl) z);exact d Z
   ·rw[YA hn]at l;have B:bd u (.inl n)=none:=by rw[m,fo.mpr hn];rfl
    refine aw (λz=>YC (show (bd u (.inl n)).isSome=true from z) (by rw[B];decide)) (λ_=>?_);exact⟨sz Z,λp x g'=>l n (1-g) Z p x g'⟩
def DG (T:Txt w K mg t):dS P w K mg base t.bC "whole" 2 t.rT t.ni ["self", "row", "page"] [] (A8 t) :=
 ⟨T.cR,T.MP,⟨_,T.Tq,.nil⟩,Mb T⟩
def bT(one other:g0):Bool:=decide (other.take one.length=one)
def Iz(K:PySem.W.Frag):Sp:=λvs H Q _=>∃(a b:Addr) (x y:g0),vs=[.ref a,.ref b]/\aI K H a (x.map V.int)/\aI K H b (y.map V.int)/\∀H',ah H H'->Q (.bl (bT x y)) H'
def nI(ns:g0)(k:Nat):cX (ns.map V.int) none (some (k:Int))=(ns.take k).map V.int:=by rw[ja,Eo]
def uK (T:Txt w K mg t):bh P w K mg base "begins" 1 t.zF t.we ["one", "other"] (Iz K):=by
 refine⟨T.QN,T.FZ.kp,T.S7,T.FZ.okQ Jg (λvs H Q E h=>by obtain⟨a,b,x,y,rfl,_⟩:=h;rfl) λ_ _ _ _ H vs Q E hr h=>?_⟩;obtain⟨a,b,x,y,rfl,d,hb,k⟩:=h;have e:=hr.units;refine⟨_,(ak (aq (gQ (ca (K:=K) Z e) (de (VU K) (aa 1) fe (cn (bp (VS K) T.n_len Wj (ad (aa 0) ae)))) (aa 0) (aM _)))),?_⟩;refine⟨_,.inl d,_,Z,_,hb,λg f c=>?_⟩;rw[V4,nI]at c;exact D8 c.lst (c.sm.seq d) (k f c.sm)
def iz(P O:g0)(g:Int)(row:g0):Bool:=(eX P O g row).isSome || (!(cS O P g).isEmpty && bT row (cS O P g))
def Bg(t:Adr):Sp:=λvs H Q _=>∃(a:Addr) (f:Fp) (ns ms:g0) (q:Addr) (row:g0) (g:Int),vs=[.ref a,.ref q,.int g]/\cY g/\Tg t H a f ns ms/\H q=some (.lst (row.map V.int))/\Af g row /\
 (iz (aD g ns ms) (aD g ms ns) g row=false->∀H',ah H H'->Q .non H')/\(iz (aD g ns ms) (aD g ms ns) g row=true->∀p (b:g0) H',ah H H'->H' p=some (.lst (b.map V.int))->(eX (aD g ns ms) (aD g ms ns) g row=none->b=(cS (aD g ms ns) (aD g ns ms) g).drop row.length)->Q (.ref p) H')
def Ml (T:Txt w K mg t):bn P w K mg base bD 3 t.rX t.nk ["self", "row", "page"] (Bg t):=by
 refine T.UC.okQ Jw (λvs H Q E h=>by obtain⟨o,f,ns,ms,q,row,g,rfl,_⟩:=h;rfl) λ_ _ _ _ H vs Q E hr h=>?_;obtain⟨a,f,ns,ms,q,row,g,rfl,two,tg,l,ok,d,i⟩:=h;have C:=hr.units;refine⟨_,(ai (aQ (aJ mQ (dB (DG T) hr (aa 0) (ad (aa 1) (ad (aa 2) ae))) bu (aM _)) (ak (aq (aT ae))) aR)
  (ai (aQ (cG (fL (dz (fg (K:=K) rfl (aa 1))) (gf (fg (K:=K) rfl (aK (VT K) (aU (K:=K) rfl (aa 0)) (aa 2) (λ_ _=>rfl)))))) (ak (aq (aT (ad aj ae)))) aR)
  (ai (aQ (cG (fL (fg (K:=K) rfl (aK (VT K) (aU (K:=K) rfl (aa 0)) (aa 2) (λ_ _=>rfl))) (gf (cV (aE (uK T) hr (ad (aa 1) (ad (aK (VT K) (aU (K:=K) rfl (aa 0)) (aa 2) (λ_ _=>rfl)) ae))))))) (ak (aq (de (VU K) (aK (VT K) (aU (K:=K) rfl (aa 0)) (aa 2) (λ_ _=>rfl)) (cn (bp (VS K) T.n_len Wj (ad (aa 1) ae))) fe))) aR)
  (ak (aq bu))))),?_⟩
 refine⟨a,f.dx,_,Z,tg.o,Z,?_⟩;refine⟨a,f,ns,ms,q,row,g,Z,two,tg,l,ok,λhw=>?_,λn g' hw p x B=>?_⟩
 ·have r:row≠[]:=by
   rcases ok with ⟨b,rfl,_⟩|⟨c,rfl,_⟩<;>simp
  have rt:(!(row.map V.int).isEmpty)=true:=by
   cases row with
   | nil=>exact YC rfl r
   | cons _ _=>rfl
  refine⟨_,.inl (.of l),?_⟩;refine aw (λz=>YC (show (!(!(row.map V.int).isEmpty))=true from z) (by rw[rt];decide)) (λ_=>?_);have m:cD [V.ref f.s0,V.ref f.s1] g=some (.ref (aD g f.s0 f.s1)):=by rw[lT two];exact congrArg some (jw V.ref _ _ _)
  have hs:=tg.ss two;refine⟨a,_,f.dx,_,_,Z,tg.o,T.cR,T.pE,Z,?_⟩;refine⟨_,_,.inl (.of tg.s),m,?_⟩;refine⟨_,.inl (.of hs),?_⟩;unfold iz at d i;rw[hw]at d i;refine aw (λz=>?_) (λz=>?_)
  ·have z:(!((cS (aD g ms ns) (aD g ns ms) g).map V.int).isEmpty)=true:=z;rw[List.isEmpty_map]at z;rw[z]at d i;refine⟨a,_,f.dx,_,_,Z,tg.o,T.cR,T.pE,Z,?_⟩;refine⟨_,_,.inl (.of tg.s),m,?_⟩;refine⟨q,aD g f.s0 f.s1,row,_,Z,.of l,.of hs,λx s1=>?_⟩;refine aw (λy=>?_) (λy=>?_)
   ·have y:bT row (cS (aD g ms ns) (aD g ns ms) g)=true:=y;rw[y]at i;have k:=tg.mono s1;refine⟨a,_,f.dx,_,_,Z,k.o,T.cR,T.pE,Z,?_⟩;refine⟨_,_,.inl (.of k.s),m,?_⟩;refine⟨_,.inl (.of (s1 _ _ l)),_,Z,_,.of (s1 _ _ hs),λv u j=>?_⟩;rw[V4,ja,wU]at j;exact i Z v _ u (s1.trans j.sm) j.at_ (λ_=>rfl)
   ·have y:bT row (cS (aD g ms ns) (aD g ns ms) g)=false:=by
     cases e:bT row (cS (aD g ms ns) (aD g ns ms) g) with
     | false=>rfl
     | true=>exact YC e y
    rw[y]at d;exact d Z x s1
  ·have z:(!((cS (aD g ms ns) (aD g ns ms) g).map V.int).isEmpty)=false:=by
    cases e:(!((cS (aD g ms ns) (aD g ns ms) g).map V.int).isEmpty) with
    | false=>rfl
    | true=>exact YC e z
   rw[List.isEmpty_map]at z;rw[z]at d;exact d Z H (ah.refl _)
 ·refine⟨sz Z,λv u j=>?_⟩;exact i (by unfold iz;rw[hw];rfl) v [] u (B.sm.trans j.sm) j.at_ (λh=>by rw[hw]at h;cases h)
def O5 (T:Txt w K mg t):dS P w K mg base t.bC "fill" 3 t.rX t.nk ["self", "row", "page"] [] (Bg t) :=
 ⟨T.cR,T.MT,⟨_,T.TB,.nil⟩,Ml T⟩
def fi(P O:g0)(g:Int)(row:g0):List V:=match eX P O g row with
 | some (n,g')=>[.str "sign",.int n,.int g']
 | none=>if iz P O g row=true then [.str "more",.non,.int g] else [.str "none",.non,.int g]
def gA(P O:g0):g0:=(fU P O).map λb:Nat=>(b:Int)
def ui{O P:g0}{c:Int}(a:0<=c):c∈gA O P ↔ ∃n,O[c.toNat]? = some n/\n∉P:=by
 unfold gA;rw[Wr]
 constructor
 ·rintro⟨b,hb,rfl⟩;simpa using CG.mp hb
 ·rintro h;exact⟨c.toNat,CG.mpr h,by omega⟩
def ET{O P:g0}:gA O P=[] ↔ fU O P=[]:=by unfold gA;simp
theorem CY{P O:g0}{g b:Int}(h:0<=b):fi P O g [b]=match P[b.toNat]? with
 | some n=>[.str "sign",.int n,.int g]
 | none=>if b=254+(1-g)/\gA O P≠[] then [.str "more",.non,.int g] else [.str "none",.non,.int g]:=by
 have hw:eX P O g [b]=P[b.toNat]?.map λn=>(n,g):=rfl;unfold fi;rw[hw];cases e:P[b.toNat]? with
 | some n=>rfl
 | none =>
  have a:eX P O g [b]=none:=by rw[hw,e];rfl
  dsimp only [Option.map];unfold iz;rw[a];rcases EJ O P g with hb|⟨i,hi,hb⟩
  ·have d:=ET.mpr ((R1 O P g).mp hb);rw[hb,d];simp
  ·have d:gA O P≠[]:=λz=>by
    rw[ET.mp z]at hi;cases hi
   rw[hb];unfold bT;by_cases c:b=254+(1-g)
   ·simp[c,d]
   ·have f:¬254+(1-g)=b:=λz=>c z.symm;simp[c,f]
def NL {P O:g0} {g c:Int} (a:0<=c):fi P O g [254+(1-g),c]=if c∈gA O P then [.str "sign",.int (O.getD c.toNat 0),.int (1-g)] else [.str "none",.non,.int g]:=by
 by_cases h:c∈gA O P
 ·rw[YB h];obtain⟨n,f,b⟩:=(ui a).mp h;unfold fi eX;simp[f,b,WO]
 ·rw[YA h];have hw:eX P O g [254+(1-g),c]=none:=by
   unfold eX;dsimp only;cases e:O[c.toNat]? with
   | none=>rfl
   | some n =>
    dsimp only;rw[YB];exact Decidable.byContradiction λz=>h ((ui a).mpr ⟨n,e,z⟩)
  have d:iz P O g [254+(1-g),c]=false:=by
   unfold iz;rw[hw];rcases EJ O P g with hb|⟨i,hi,hb⟩
   ·rw[hb];rfl
   ·rw[hb];unfold bT;have:¬(i:Int)=c:=λz=>h (by
     unfold gA;exact Wr.mpr ⟨i,List.mem_of_mem_head? hi,z⟩)
    simp[this]
  unfold fi;rw[hw,d]
  rfl
def oF(K:PySem.W.Frag)(t:Adr):Sp:=λvs H Q E=>∃(a:Addr) (f:Fp) (ns ms:g0) (x:V) (g:Int),vs=[.ref a,x,.int g]/\cY g/\Tg t H a f ns ms/\eA K H x /\
 (∀r g',dv (aD g ns ms) (aD g ms ns) g x=some (r,g')->∀p q H',ah H H'->H q=none->H' q=some (.lst (r.map V.int))->H' p=some (.tup [.ref q,.int g'])->Q (.ref p) H') /\
 (dv (aD g ns ms) (aD g ms ns) g x=none->∀e d0 H',ah H H'->H' e=some (XO e t.bc (some d0))->H' d0=some (.xd [("sign",x),("at",.int 0)])->E (.ref t.bc) (some e) H')
def L7 (T:Txt w K mg t):bn P w K mg base (dn P w) 4 t.rV t.nj ["self", "sign", "page"] (oF K t):=by
 refine T.Uy.okX Jt (λvs H Q E h=>by obtain⟨o,f,ns,ms,x,g,rfl,_⟩:=h;rfl) λ_ _ _ _ H vs Q E hr h=>?_;obtain⟨a,f,ns,ms,x,g,rfl,two,tg,U,k,ke⟩:=h;have F:=hr.units;refine⟨_,(ai (aQ (cV (aE (i4 T) hr (ad (aa 1) ae))) (ai (aQ (aJ (pV F) (aa 1) (aK (VT K) (aU (K:=K) rfl (aa 0)) (aa 2) (λ_ _=>rfl)) (by with_unfolding_all rfl)) (ak (aq (bJ (ad (aT (ad (tV F (aK (VT K) (aU (K:=K) rfl (aa 0)) (aa 2) (λ_ _=>rfl)) (aa 1)) ae)) (ad (aa 2) ae))))) aR)
  (ak (aQ (aJ (pV F) (aa 1) (aK (VT K) (aU (K:=K) rfl (aa 0)) (aO c7 aj (aa 2)) (λ_ _=>rfl)) (by with_unfolding_all rfl)) (ak (aq (bJ (ad (aT (ad (aK (VT K) (gh (v:=.ref t.lU) rfl T.yF rfl) (aO c7 aj (aa 2)) (λ_ _=>rfl)) (ad (tV F (aK (VT K) (aU (K:=K) rfl (aa 0)) (aO c7 aj (aa 2)) (λ_ _=>rfl)) (aa 1)) ae))) (ad (aO c7 aj (aa 2)) ae))))) aR))) aR)
  (ak (mv (Es:=λ_=>E) (mM T) hr rfl fj (ad (aa 1) (ad aj ae))))),?_⟩
 have okP:ej (aD g ns ms):=tK tg.k0 tg.k1;have okO:ej (aD g ms ns):=tK tg.k1 tg.k0;have c:dv (aD g ns ms) (aD g ms ns) g x=none->∀e,H e=none->∀d0 d,d e=some (XN e t.bc (some d0))->d d0=some (.xd [("sign",x),("at",.int 0)])->(∀b o,b≠e->upd H e (XN e t.bc none) b=some o->d b=some o)->E (.ref t.bc) (some e) (upd d e (XO e t.bc (some d0))):=λY e C d0 d j l z1=>by
  have ne:d0≠e:=λz=>by rw[z,j]at l;cases l
  refine ke Y e d0 _ (λb o q=>?_) az (by rw[ap ne];exact l);have nb:=au q C;rw[ap nb];exact z1 b o nb (by rw[ap nb];exact q)
 refine⟨_,Z,U,?_⟩;refine aw (λM=>?_) (λz=>?_)
 ·obtain⟨n,rfl,_⟩:=II M;have J:∀g,cY g->cD [V.ref f.d0,V.ref f.d1] g=some (.ref (aD g f.d0 f.d1)):=λg two=>by rw[lT two];exact congrArg some (jw V.ref _ _ _)
  obtain⟨G,B,y⟩:=tg.dk two;obtain⟨I,u,m⟩:=tg.dk two.flip;rw[Bq two]at m;refine⟨a,_,f.dx,_,_,Z,tg.o,T.cR,T.iX,Z,?_⟩;refine⟨_,_,.inl (.of tg.p),J g two,?_⟩;refine⟨_,_,Z,cI.k (k:=.inl n) B,?_⟩;unfold dv at k c;dsimp only at k c;cases e1:cC (aD g ns ms) n with
  | some i =>
   rw[e1]at k;have L:bd G (.inl n)=some (.int (i:Int)):=by rw[y,e1];rfl
   refine aw (λ_=>?_) (λz=>YC (show (bd G (.inl n)).isSome=true by rw[L];rfl) z);refine⟨a,_,f.dx,_,_,Z,tg.o,T.cR,T.iX,Z,?_⟩;refine⟨_,_,.inl (.of tg.p),J g two,?_⟩;refine⟨_,_,rfl,by have:=cI.k (k:=.inl n) B;rw[L]at this;exact this,?_⟩;refine⟨sz Z,λR W r=>?_⟩;refine⟨sz Z,λO N s=>?_⟩;exact k _ _ Z O R N (r.sm.trans s.sm) r.nw (s.sm _ _ r.at_) s.at_
  | none =>
   rw[e1]at k c;dsimp only at k c;have L:bd G (.inl n)=none:=by rw[y,e1];rfl
   refine aw (λz=>YC (show (bd G (.inl n)).isSome=true from z) (by rw[L];decide)) (λ_=>?_);refine⟨a,_,f.dx,_,_,Z,tg.o,T.cR,T.iX,Z,?_⟩;refine⟨_,_,.inl (.of tg.p),J (1-g) two.flip,?_⟩;refine⟨_,_,Z,cI.k (k:=.inl n) u,?_⟩;cases e2:cC (aD g ms ns) n with
   | none =>
    rw[e2]at c;have D:bd I (.inl n)=none:=by rw[m,e2];rfl
    refine aw (λz=>YC (show (bd I (.inl n)).isSome=true from z) (by rw[D];decide)) (λ_=>?_);refine⟨Wf rfl,λe C=>⟨e,_,rfl,rfl,az,λd0 d j l z1=>⟨rfl,e,some d0,rfl,j,?_⟩⟩⟩;exact c Z e C d0 d j l z1
   | some i =>
    rw[e2]at k;have D:bd I (.inl n)=some (.int (i:Int)):=by rw[m,e2];rfl
    refine aw (λ_=>?_) (λz=>YC (show (bd I (.inl n)).isSome=true by rw[D];rfl) z);have sh:cD (([254,255]:g0).map V.int) (1-g)=some (.int (254+(1-g))):=by
     rcases two with rfl|rfl<;>rfl
    refine⟨_,_,.inr (T.tW _),sh,?_⟩;refine⟨a,_,f.dx,_,_,Z,tg.o,T.cR,T.iX,Z,?_⟩;refine⟨_,_,.inl (.of tg.p),J (1-g) two.flip,?_⟩;refine⟨_,_,rfl,by have:=cI.k (k:=.inl n) u;rw[D]at this;exact this,?_⟩;refine⟨sz Z,λR W r=>?_⟩;refine⟨sz Z,λO N s=>?_⟩;exact k _ _ Z O R N (r.sm.trans s.sm) r.nw (s.sm _ _ r.at_) s.at_
 ·have S:cv x=false:=by
   cases e:cv x with
   | false=>rfl
   | true=>exact YC e z
  refine⟨Wf rfl,λe C=>⟨e,_,rfl,rfl,az,λd0 d j l z1=>⟨rfl,e,some d0,rfl,j,?_⟩⟩⟩;exact c (G8 okP okO S) e C d0 d j l z1
def uA (T:Txt w K mg t):iH P w K mg base t.bC "spell" 4 t.rV t.nj ["self", "sign", "page"] [] (oF K t) :=
 ⟨T.cR,T.MQ,⟨_,T.Tr,.nil⟩,L7 T⟩
structure jj (H:Hp) (p:Addr) (s:Int) (r:g0):Prop where
 h:∃q,H p=some (.tup [.int s,.ref q])/\H q=some (.lst (r.map V.int))
 l:1<=r.length/\r.length<=6
def jj.mono{H c:Hp}{p:Addr}{s:Int}{r:g0}(h:jj H p s r)(k:ah H c):jj c p s r:=by
 obtain⟨⟨q,a,b⟩,l⟩:=h
 exact⟨⟨q,k _ _ a,k _ _ b⟩,l⟩
def eR(e f:Int × g0):Bool:=decide (e.1=f.1) || bT e.2 f.2 || bT f.2 e.2
def Iv:Sp:=λvs H Q _=>∃(a b:Addr) (e f:Int × g0),vs=[.ref a,.ref b]/\jj H a e.1 e.2/\jj H b f.1 f.2/\∀H',ah H H'->Q (.bl (eR e f)) H'
def OQ (T:Txt w K mg t):bh P w K mg base "collide" 2 t.zA t.vY ["one", "other"] Iv:=by
 refine⟨T.QH,T.FU.kp,T.S2,T.FU.okQ Jc (λvs H Q E h=>by obtain⟨a,b,x,y,rfl,_⟩:=h;rfl) λ_ _ _ _ H vs Q E hr h=>?_⟩;obtain⟨a,b,⟨s1,c⟩,⟨g,d⟩,rfl,⟨⟨l,i,f⟩,_⟩,⟨⟨m,hb,e⟩,_⟩,k⟩:=h;dsimp only at i f hb e;have n:=hr.units;refine⟨_,(ak (aq (oZ (gQ (ca (K:=K) Z n) (aK (VT K) (aa 0) aj (λ_ _=>rfl)) (aK (VT K) (aa 1) aj (λ_ _=>rfl)) (aM _)) (oZ (aE (uK T) hr (ad (aK (VT K) (aa 0) aj (λ_ _=>rfl)) (ad (aK (VT K) (aa 1) aj (λ_ _=>rfl)) ae))) (gP (aE (uK T) hr (ad (aK (VT K) (aa 1) aj (λ_ _=>rfl)) (ad (aK (VT K) (aa 0) aj (λ_ _=>rfl)) ae)))))))),?_⟩;refine⟨_,_,.inr (.of i),aX (j:=0) Z,?_⟩;refine⟨_,_,.inr (.of hb),aX (j:=0) Z,?_⟩;refine aw (λz=>?_) (λz=>?_)
 ·refine bM (k H (ah.refl _)) ?_;have z:decide (s1=g)=true:=z;show (decide (s1=g) || bT c d || bT d c)=true;rw[z];rfl
 have z:¬decide (s1=g)=true:=z;refine⟨_,_,.inr (.of i),aX (j:=1) Z,?_⟩;refine⟨_,_,.inr (.of hb),aX (j:=1) Z,?_⟩;refine⟨l,m,c,d,Z,.of f,.of e,λp k1=>?_⟩;refine aw (λy=>?_) (λy=>?_)
 ·refine bM (k p k1) ?_;have y:bT c d=true:=y;show (decide (s1=g) || bT c d || bT d c)=true;rw[y];simp
 have y:¬bT c d=true:=y;refine⟨_,_,.inr (.of (k1 _ _ hb)),aX (j:=1) Z,?_⟩;refine⟨_,_,.inr (.of (k1 _ _ i)),aX (j:=1) Z,?_⟩;refine⟨m,l,d,c,Z,.of (k1 _ _ e),.of (k1 _ _ f),λo k2=>?_⟩;refine bM (k o (k1.trans k2)) ?_;show (decide (s1=g) || bT c d || bT d c)=bT d c;simp at z y;simp[z,y]
structure Es (es:List (Int × g0)):Prop where
 sg:∀e∈es,Sg e.1/\1<=e.2.length/\e.2.length<=6/\∀b∈e.2,0<=b/\b<=255
 pw:es.Pairwise λe f=>eR e f=false
 l:es.length<=64
def RC(e f:Int × g0):eR e f=eR f e:=by
 unfold eR;rw[show decide (e.1=f.1)=decide (f.1=e.1) by simp[eq_comm],Bool.or_assoc,Bool.or_assoc,Bool.or_comm (bT e.2 f.2)]
def Es.two{a:List (Int × g0)}(h:Es a){e f:Int × g0}(g:e∈a)(k:f∈a):e=f\/eR e f=false:=by
 obtain⟨i,d,rfl⟩:=XG.mp g;obtain⟨j,b,rfl⟩:=XG.mp k;rcases Nat.lt_trichotomy i j with c|c|c
 ·exact .inr (Xu.mp h.pw i j d b c)
 ·subst c;exact .inl Z
 ·rw[RC];exact .inr (Xu.mp h.pw j i b d c)
def Al(H:Hp)(ps:List Addr)(b:List (Int × g0)):Prop:=bY (λa e=>jj H a e.1 e.2) ps b
def He(K:PySem.W.Frag):Sp:=λvs H Q _=>∃(q:Addr) (r:g0),vs=[.ref q]/\H q=some (.lst (r.map V.int))/\(∀b∈r,0<=b/\b<=255)/\r.length<=1000/\∀H',ah H H'->Q (.bl true) H'
def OM (T:Txt w K mg t):bh P w K mg base "is_row" 3 t.zu t.vS ["thing"] (He K):=by
 refine⟨T.Qu,T.FO.kp,T.SW,T.FO.okQ IY (λvs H Q E h=>by obtain⟨q,r,rfl,_⟩:=h;rfl) λ_ _ _ _ H vs Q E hr h=>?_⟩;obtain⟨q,r,rfl,a,hb,hl,k⟩:=h;refine⟨_,(ak (aq (iu (bp (VR K) T.n_isinstance WS (ad (aa 0) (ad (gR rfl T.n_list WJ) ae))) (gP (bp (EA (K:=K) rfl rfl) T.n_all Yw (ad (eO rfl (cz.of (fns:=(ag iQ).names) (N:=["thing"]) (Nc:=["each"]) (nv:=1) (caps:=[]) rfl rfl (by decide +kernel)) (cO (K:=K) rfl (aa 0)) (λ_ _ _ _=>(bb (i:=0) (show List.Nodup (["each"]:List Str) by decide +kernel) rfl (Or.inl rfl) (Or.inr rfl))) (λ_ _ _ _=>eK) (λ_ _ _ _=>(aE (OO T) hr (ad (aa 0) ae)))) ae)))))),?_⟩;refine⟨_,_,.lst a,by with_unfolding_all rfl,?_⟩;refine gn ?_;refine⟨q,rfl,⟨_,.of a⟩,jb ((r.map λ_=>true).map V.bl) (by simp) (.of a) (bA (by rw[V4];omega)) (λi x y f N hx c g hN=>?_) λj e d=>?_⟩
 ·obtain⟨o,b,rfl⟩:=dD hx;rw[We,We,b]at c;cases c;have:=hb o (Wo b);exact⟨_,rfl,.int _,bM (hN _ (ah.refl _)) (by simp[cN];omega)⟩
 refine⟨_,d.lst,?_⟩;exact bM (k e d.sm) (by simp)
def Io(K:PySem.W.Frag):Sp:=λvs H Q _=>∃(p:Addr) (e:Int × g0),vs=[.ref p]/\jj H p e.1 e.2/\Sg e.1/\(∀b∈e.2,0<=b/\b<=255)/\∀H',ah H H'->Q (.bl true) H'
def ON (T:Txt w K mg t):bh P w K mg base "is_entry" 4 t.zx t.vV ["thing"] (Io K):=by
 refine⟨T.Qx,T.FR.kp,T.SZ,T.FR.okQ Ja (λvs H Q E h=>by obtain⟨p,e,rfl,_⟩:=h;rfl) λ_ _ _ _ H vs Q E hr h=>?_⟩;obtain⟨p,⟨sg,r⟩,rfl,⟨⟨q,a,b⟩,l1,d⟩,hs,hb,k⟩:=h;dsimp only at a b l1 d hs hb;have c:=hr.units;refine⟨_,(ai (aQ (cG (dy (dz (cV (bp (VR K) T.n_isinstance WS (ad (aa 0) (ad (gR Z T.n_tuple XH) ae))))) (eB (aJ (fu (K:=K) Z c) (bp (VS K) T.n_len Wj (ad (aa 0) ae)) aj (aM _))))) (ak (aq fO)) aR)
  (ak (aq (iu (aE (i4 T) hr (ad (aK (VT K) (aa 0) aj (λ_ _=>rfl)) ae)) (iu (aE (OM T) hr (ad (aK (VT K) (aa 0) aj (λ_ _=>rfl)) ae)) (gP (my eQ eQ aj (bp (VS K) T.n_len Wj (ad (aK (VT K) (aa 0) aj (λ_ _=>rfl)) ae)) (bQ T.RW)))))))),?_⟩
 refine⟨_,_,.tup a,by with_unfolding_all rfl,?_⟩;refine aw (λz=>YC z (by decide)) (λ_=>?_);refine⟨_,.inr (.of a),?_⟩;refine⟨_,_,.inr (.of a),aX (j:=0) Z,?_⟩;refine⟨_,Z,.int _,?_⟩;refine aw (λ_=>?_) (λz=>YC ((fJ sg).mpr hs) z);refine⟨_,_,.inr (.of a),aX (j:=1) Z,?_⟩;refine⟨q,r,rfl,b,hb,by omega,λf s1=>?_⟩;refine gn ?_;refine⟨_,_,.inr (.of (s1 _ _ a)),aX (j:=1) Z,?_⟩;refine⟨_,.inl (.of (s1 _ _ b)),?_⟩;refine aw (λz=>?_) (λz=>?_)
 ·exact bM (k f s1) (by rw[V4];simp;omega)
 ·exact YC (show decide ((1:Int)<=((r.map V.int).length:Int))=true by rw[V4];simp;omega) z
def Iw:Sp:=λvs H Q _=>∃(a:Addr) (ps:List Addr) (b:List (Int × g0)),vs=[.ref a]/\H a=some (.lst (ps.map V.ref))/\Al H ps b/\Es b/\∀H',ah H H'->Q .non H'
def Rv(xs:List V)(k:Nat):cX xs none (some (k:Int))=xs.take k:=Eo xs k
def iU{a:List Addr}{i:Nat}{x:V}(h:(a.map V.ref)[i]? = some x):∃q,a[i]? = some q/\x=.ref q:=by
 rw[We]at h;obtain⟨q,b,rfl⟩:=WR.mp h;exact⟨q,b,Z⟩
def OR (T:Txt w K mg t):bh P w K mg base "check_table" 5 t.zB t.vZ ["rows"] Iw:=by
 refine⟨T.QJ,T.FV.kp,T.S3,T.FV.okQ mo (λvs H Q E h=>by obtain⟨a,ps,L,rfl,_⟩:=h;rfl) λ_ _ _ _ H vs Q E hr h=>?_⟩;obtain⟨a,ps,L,rfl,r,en,ok,k⟩:=h;have hu:=hr.units;refine⟨_,(ai (aQ (aJ lL (bp (VS K) T.n_len Wj (ad (aa 0) ae)) (bQ T.RU) (aM _)) (ak iV) aR)
  (ak (cm PassesOwn.never rfl (gO (K:=K) rfl rfl T.n_enumerate (ad (aa 0) ae)) (fN (K:=K) rfl rfl (cF (bb (i:=1) mo.nd rfl (.inl rfl)) (cF (bb (i:=2) mo.nd rfl (.inl rfl)) fM))) (ai (aQ (dz (cV (aE (ON T) hr (ad (aa 2) ae)))) (ak iV) aR)
  (ak (cm PassesOwn.never rfl (gO (K:=K) rfl rfl T.n_enumerate (ad (de (VU K) (aa 0) fe (cn (aa 1))) ae)) (fN (K:=K) rfl rfl (cF (bb (i:=3) mo.nd rfl (.inl rfl)) (cF (bb (i:=4) mo.nd rfl (.inl rfl)) fM))) (ak (aQ (cV (aE (OQ T) hr (ad (aa 4) (ad (aa 2) ae)))) (ak iV) aR)))))))),?_⟩
 have lp:ps.length=L.length:=en.1;have a3:=ok.l;refine⟨_,.inl (.of r),?_⟩;refine aw (λz=>?_) (λ_=>?_)
 ·have z:((ps.map V.ref).length:Int) > 64:=YD z;rw[V4]at z;omega
 refine⟨a,_,Z,.of r,mU (K:=K) (a:=a) (xs:=ps.map V.ref) (λi σ n=>ah H n/\∃S J c d,σ=[some (.ref a),S,J,c,d]) ⟨ah.refl _,_,_,_,_,Z⟩ (λi σ n _ z=>z.1.seq (.of r)) ?_ ?_⟩
 ·rintro i x p σ M H3 hx ⟨F,S,J,c,d,rfl⟩ G;obtain⟨C,D,rfl⟩:=iU hx;obtain⟨e,N,I⟩:=en.right D;refine⟨p,_,Z,G.tup,Z,_,_,Z,_,_,Z,Z,?_⟩;have R:=F.trans G.sm;obtain⟨k1,k2,k3,k4⟩:=ok.sg e (Wo N);refine⟨C,e,Z,I.mono R,k1,k4,λH4 s4=>?_⟩;refine aw (λz=>YC (show (!true)=true from z) (by decide)) (λ_=>?_);have g:=R.trans s4;refine⟨_,Z,_,g.seq (.of r),λO Y v=>?_⟩;rw[Rv]at v;have q:=g.trans v.sm;refine⟨O,_,Z,v.lst,mU (K:=K) (a:=O) (xs:=(ps.map V.ref).take i) (λj σ n=>ah Y n/\∃c d,σ=[some (.ref a),some (.int (i:Int)),some (.ref C),c,d]) ⟨ah.refl _,_,_,Z⟩ (λi σ n _ z=>z.1.seq v.lst) ?_ ?_⟩
  ·rintro j u pj σ H6 H7 b ⟨s,c,d,rfl⟩ B;have m:j<i:=by have:=(V8.mp b).1;rw[Wa]at this;omega
   rw[XA m]at b;obtain⟨W,y,rfl⟩:=iU b;obtain⟨f,hf,ef⟩:=en.right y;refine⟨pj,_,Z,B.tup,Z,_,_,Z,_,_,Z,Z,?_⟩;have o:=q.trans (s.trans B.sm);refine⟨W,C,f,e,Z,ef.mono o,I.mono o,λH8 s8=>?_⟩;have U:eR f e=false:=by
    obtain⟨a1,e1⟩:=V8.mp hf;obtain⟨a2,e2⟩:=V8.mp N;rw[<- e1,<- e2];exact Xu.mp ok.pw j i a1 a2 m
   refine aw (λz=>YC (show eR f e=true from z) (by rw[U];decide)) (λ_=>?_);exact⟨s.trans (B.sm.trans s8),_,_,Z⟩
  ·rintro σ H6 ⟨s,c,d,rfl⟩;exact⟨q.trans s,_,_,_,_,Z⟩
 ·rintro σ M ⟨F,_⟩;exact k M F
structure Ft where
 dx:Addr
 d1:Addr
 d2:Addr
 d3:Addr
def cW(r:g0):List aS:=r.map Sum.inl
def pK(r:g0):r.map V.int=(cW r).map kV:=by
 unfold cW;rw[WY];rfl
def Db{r s:g0}(h:cW r=cW s):r=s:=by
 unfold cW at h
 induction r generalizing s with
 | nil=>cases s with
  | nil=>rfl
  | cons _ _=>cases h
 | cons x r ih=>cases s with
  | nil=>cases h
  | cons y s=>simp at h;rw[h.1,ih (by simpa using h.2)]
structure Kv (H:Hp) (k1:List (aS × V)) (k2 k3:List (List aS × V)) (es:List (Int × g0)):Prop where
 a:∀e∈es,∃q,bd k1 (.inl e.1)=some (.ref q)/\H q=some (.tup (e.2.map V.int))
 a':∀n:Int,(∀e∈es,e.1≠n)->bd k1 (.inl n)=none
 b:∀e∈es,bd k2 (cW e.2)=some (.int e.1)
 b':∀r:g0,(∀e∈es,e.2≠r)->bd k2 (cW r)=none
 c:∀e∈es,∀m,m<=e.2.length->∃q ys,bd k3 (cW (e.2.take m))=some (.ref q)/\H q=some (.tup ys)
structure Tt (t:Adr) (H:Hp) (a:Addr) (f:Ft) (es:List (Int × g0)) (n:Nat):Prop where
 o:H a=some (.ins t.bK f.dx [("row_by_sign",.ref f.d1),("sign_by_row",.ref f.d2),("rest_by_row",.ref f.d3)])
 k:∃k1 k2 k3,H f.d1=some (.dK k1)/\H f.d2=some (.dT k2)/\H f.d3=some (.dT k3)/\k1.length<=n/\k2.length<=n/\k3.length<=n/\Kv H k1 k2 k3 es
 ne:f.d2≠f.d3
variable {H H':Hp}{a:Addr}{f:Ft}{es:List (Int × g0)}{n:Nat}
def Kv.mono{k1:List (aS × V)}{k2 k3:List (List aS × V)}(h:Kv H k1 k2 k3 es)(s:∀q xs,H q=some (.tup xs)->H' q=some (.tup xs)):Kv H' k1 k2 k3 es:=by
 refine⟨λe d=>?_,h.a',h.b,h.b',λe d m hm=>?_⟩
 ·obtain⟨q,x,y⟩:=h.a e d;exact⟨q,x,s _ _ y⟩
 ·obtain⟨q,f,x,y⟩:=h.c e d m hm;exact⟨q,f,x,s _ _ y⟩
def Tt.mono(h:Tt t H a f es n)(s:ah H H'):Tt t H' a f es n:=by
 obtain⟨o,⟨k1,k2,k3,c,j,i,l1,g,b,d⟩,ne⟩:=h;exact⟨s _ _ o,⟨k1,k2,k3,s _ _ c,s _ _ j,s _ _ i,l1,g,b,d.mono λq xs e=>s _ _ e⟩,ne⟩
def aZ{c d:Addr}{u v:HO}(h:H c=some u)(k:H d=some v)(n:u≠v):c≠d:=λz=>by rw[z,k]at h;exact n (Wt h).symm
def dJ(f:Ft)(H a:Hp):Prop:=∀c u,c≠f.d1->c≠f.d2->c≠f.d3->H c=some u->a c=some u
def dJ.trans{H g a:Hp}(h:dJ f H g)(h':dJ f g a):dJ f H a:=λc u i d b e=>h' c u i d b (h c u i d b e)
def dJ.of{H a:Hp}(h:ah H a):dJ f H a:=λc u _ _ _ e=>h c u e
def Tt.tup{q:Addr}{xs:List V}(h:Tt t H a f es n)(b:H q=some (.tup xs))(k:dJ f H H'):H' q=some (.tup xs):=by
 obtain⟨o,⟨k1,k2,k3,e,d,c,_⟩,ne⟩:=h;exact k _ _ (aZ b e (by intro z;cases z)) (aZ b d (by intro z;cases z)) (aZ b c (by intro z;cases z)) b
def Im(t:Adr):Sp:=λvs H Q _=>∃(a:Addr) (f:Ft) (q:Addr) (n:Nat) (s:Int) (r:g0) (b:List (Int × g0)),vs=[.ref a,.int s,.ref q]/\Tt t H a f b n/\H q=some (.tup (r.map V.int))/\r.length<=6/\n<=1000/\(∀e∈b,e.1≠s/\e.2≠r) /\
 ∀H',Tt t H' a f (b++[(s,r)]) (n+9)->dJ f H H'->Q .non H'
def O2 (T:Txt w K mg t):cy P w K mg base t.bK "enter" 1 t.zQ t.wp ["self", "sign", "row"] (Im t):=by
 refine⟨T.dQ,T.MO,T.Tp,T.Uw.okQ BC (λvs H Q E h=>by obtain⟨a,f,q,n,s,r,es,rfl,_⟩:=h;rfl) λ_ _ _ _ H vs Q E hr h=>?_⟩;obtain⟨a,f,q,n,sg,r,es,rfl,tb,hq,lr,ln,new,k⟩:=h;have hu:=hr.units;obtain⟨o,⟨k1,k2,k3,a1,a2,a3,l1,l2,l3,kv⟩,ne⟩:=id tb;refine⟨_,(ai (o0 hu (aU (K:=K) Z (aa 0)) (aa 1) (aa 2))
  (ai (o0 hu (aU (K:=K) rfl (aa 0)) (aa 2) (aa 1))
  (ak (cm PassesOwn.never rfl (gN rfl T.n_range (ad (aO (VQ K) (bp (VS K) T.n_len Wj (ad (aa 2) ae)) aj) ae)) (bb (i:=3) BC.nd rfl (.inl rfl)) (ak (o0 hu (aU (K:=K) rfl (aa 0)) (de (DR (K:=K) rfl) (aa 2) fe (cn (aa 3))) (de (DR (K:=K) rfl) (aa 2) (cn (aa 3)) fe))))))),?_⟩
 have a6:f.d1≠f.d2:=aZ a1 a2 (by intro z;cases z);have a4:f.d1≠f.d3:=aZ a1 a3 (by intro z;cases z);have F:a≠f.d1:=aZ o a1 (by intro z;cases z);have G:a≠f.d2:=aZ o a2 (by intro z;cases z);have I:a≠f.d3:=aZ o a3 (by intro z;cases z);refine⟨a,_,f.dx,_,_,Z,o,T.dQ,T.pD,Z,?_⟩;refine⟨f.d1,_,rfl,gJ.k (k:=.inl sg) a1 (cZ (by omega)),?_⟩;obtain⟨B,R⟩:∃B,B=upd H f.d1 (.dK (cr k1 (.inl sg) (.ref q))):=⟨_,rfl⟩;rw[<- R];have o1:dJ f H B:=λc u m1 m2 m3 e=>by rw[R,ap m1];exact e
 have b1:B f.d1=some (.dK (cr k1 (.inl sg) (.ref q))):=by rw[R,az]
 have b2:B f.d2=some (.dT k2):=by rw[R,ap a6.symm];exact a2
 have b3:B f.d3=some (.dT k3):=by rw[R,ap a4.symm];exact a3
 clear R;refine⟨a,_,f.dx,_,_,Z,o1 _ _ F G I o,T.dQ,T.ue,Z,?_⟩;have ay:=tb.tup hq o1;refine⟨f.d2,_,rfl,gJ.t (k:=cW r) b2 (by rw[<- pK];exact ay) (cZ (by omega)),?_⟩;obtain⟨N,M⟩:∃N,N=upd B f.d2 (.dT (cr k2 (cW r) (.int sg))):=⟨_,rfl⟩;rw[<- M];have o2:dJ f B N:=λc u m1 m2 m3 e=>by rw[M,ap m2];exact e
 have c1:N f.d1=some (.dK (cr k1 (.inl sg) (.ref q))):=by rw[M,ap a6];exact b1
 have c2:N f.d2=some (.dT (cr k2 (cW r) (.int sg))):=by rw[M,az]
 have c3:N f.d3=some (.dT k3):=by rw[M,ap ne.symm];exact b3
 clear M;have J:=o1.trans o2;have ax:=tb.tup hq J;refine⟨_,.inr (.of ax),?_⟩;refine⟨_,rfl,by rw[V4];omega,by rw[V4];omega,?_⟩;rw[V4];refine iy (lo:=0) (n:=((r.length:Int)+1).toNat) (λi σ S=>dJ f H S/\S f.d1=some (.dK (cr k1 (.inl sg) (.ref q)))/\S f.d2=some (.dT (cr k2 (cW r) (.int sg)))/\(∃g,S f.d3=some (.dT g)/\g.length<=n+i/\(∀m,m<i->∃q l,bd g (cW (r.take m))=some (.ref q)/\S q=some (.tup l))/\(∀e∈es,∀m,m<=e.2.length->∃q l,bd g (cW (e.2.take m))=some (.ref q)/\S q=some (.tup l)))/\∃v3,σ=[some (.ref a),some (.int sg),some (.ref q),v3]) ⟨J,c1,c2,⟨k3,c3,by omega,(λm h=>YC h (by omega)),λe d m hm=>?_⟩,_,rfl⟩ ?_ ?_
 ·obtain⟨q',l,x,y⟩:=kv.c e d m hm;exact⟨q',l,x,tb.tup y J⟩
 ·rintro i σ H3 hi ⟨D,d1,d2,⟨g,d3,au,j,p⟩,v3,rfl⟩;have v:=tb.tup hq D;refine⟨_,Z,_,.of v,v,λC H4 s4 h4=>?_⟩;refine⟨a,_,f.dx,_,_,Z,s4 _ _ (D _ _ F G I o),T.dQ,T.uf,Z,?_⟩;refine⟨_,Z,_,.of (s4 _ _ v),s4 _ _ v,λp5 H5 s5 h5=>?_⟩;rw[Int.zero_add,nI,pK]at h5;have L:=s4.trans s5;refine⟨f.d3,_,rfl,gJ.t (k:=cW (r.take i)) (L _ _ d3) h5 (cZ (by omega)),?_⟩;obtain⟨O,Y⟩:∃O,O=upd H5 f.d3 (.dT (cr g (cW (r.take i)) (.ref C))):=⟨_,rfl⟩;rw[<- Y];have t6:∀c u,c≠f.d3->H3 c=some u->O c=some u:=λc u m e=>by rw[Y,ap m];exact L _ _ e
  have ar:C≠f.d3:=aZ (s5 _ _ h4) (L _ _ d3) (by intro z;cases z);have a7:O C=some (.tup (cX (r.map V.int) (some (0+(i:Int))) none)):=by rw[Y,ap ar];exact s5 _ _ h4
  have b6:O f.d3=some (.dT (cr g (cW (r.take i)) (.ref C))):=by rw[Y,az]
  clear Y;have keep:∀kk,(∃q l,bd g kk=some (.ref q)/\H3 q=some (.tup l))->∃q l,bd (cr g (cW (r.take i)) (.ref C)) kk=some (.ref q)/\O q=some (.tup l):=by
   rintro kk ⟨q',l,x,y⟩;rw[gK];by_cases c:kk=cW (r.take i)
   ·rw[YB c];exact⟨C,_,Z,a7⟩
   ·rw[YA c];exact⟨q',l,x,t6 _ _ (aZ y d3 (by intro z;cases z)) y⟩
  refine⟨λc u m1 m2 m3 e=>t6 _ _ m3 (D c u m1 m2 m3 e),t6 _ _ a4 d1,t6 _ _ ne d2,⟨_,b6,?_,λm hm=>?_,λe d m hm=>keep _ (p e d m hm)⟩,_,Z⟩
  ·have:=mJ g (cW (r.take i)) (.ref C);omega
  ·by_cases c:m<i
   ·exact keep _ (j m c)
   ·obtain rfl:m=i:=by omega
    refine⟨C,_,?_,a7⟩;rw[gK,YB rfl]
 ·rintro σ H3 ⟨D,d1,d2,⟨g,d3,au,j,p⟩,_⟩;refine k _ ⟨D _ _ F G I o,⟨_,_,g,d1,d2,d3,?_,?_,by omega,?_⟩,ne⟩ D
  ·have:=mJ k1 (.inl sg) (.ref q);omega
  ·have:=mJ k2 (cW r) (.int sg);omega
  ·refine⟨λe d=>?_,λn' U=>?_,λe d=>?_,λr' W=>?_,λe d m hm=>?_⟩
   ·rcases Wi.mp d with d|d
    ·rw[gK,YA (λz=>(new e d).1 (Sum.inl.inj z))];obtain⟨q',x,y⟩:=kv.a e d;exact⟨q',x,tb.tup y D⟩
    ·rw[Wl.mp d,gK,YB rfl];exact⟨q,Z,tb.tup hq D⟩
   ·rw[gK,YA (λz=>U (sg,r) (by simp) (Sum.inl.inj z).symm)];exact kv.a' n' λe d=>U e (by simp[d])
   ·rcases Wi.mp d with d|d
    ·rw[gK,YA (λz=>(new e d).2 (Db z))];exact kv.b e d
    ·rw[Wl.mp d,gK,YB rfl]
   ·rw[gK,YA (λz=>W (sg,r) (by simp) (Db z).symm)];exact kv.b' r' λe d=>W e (by simp[d])
   ·rcases Wi.mp d with d|d
    ·exact p e d m hm
    ·rw[Wl.mp d]at hm ⊢;exact j m (by dsimp only at hm;omega)
def Bb(t:Adr):Sp:=λvs H Q _=>∃(a dx p:Addr) (ps:List Addr) (b:List (Int × g0)),vs=[.ref a,.ref p]/\H a=some (.ins t.bK dx [])/\H p=some (.lst (ps.map V.ref))/\Al H ps b/\Es b /\
 ∀f H',Kp a H H'->Tt t H' a f b 1000->Q .non H'
def Tt.up{H:Hp}{a:Addr}{f:Ft}{b:List (Int × g0)}{n m:Nat}(h:Tt t H a f b n)(hm:n<=m):Tt t H a f b m:=by
 obtain⟨o,⟨k1,k2,k3,c,g,e,l1,j,i,d⟩,ne⟩:=h;exact⟨o,⟨k1,k2,k3,c,g,e,by omega,by omega,by omega,d⟩,ne⟩
def Md (T:Txt w K mg t):bn P w K mg base bD 6 t.rR t.qm ["self", "rows"] (Bb t):=by
 refine T.Uu.okQ BA (λvs H Q E h=>by obtain⟨a,dx,p,ps,y,rfl,_⟩:=h;rfl) λ_ _ _ _ H vs Q E hr h=>?_;obtain⟨a,dx,p,ps,y,rfl,B,hp,en,ok,kq⟩:=h;have hu:=hr.units;refine⟨_,(ai (bE (aE (OR T) hr (ad (aa 1) ae)))
  (ai (ce (K:=K) rfl (aa 0) B3)
  (ai (ce (K:=K) rfl (aa 0) B2)
  (ai (ce (K:=K) rfl (aa 0) B2)
  (ak (cm PassesOwn.never rfl (cO (K:=K) rfl (aa 1)) (bb (i:=2) BA.nd rfl (.inl rfl)) (ak (bE (c6 (O2 T) hr (aa 0) (ad (aK (VT K) (aa 2) aj (λ_ _=>rfl)) (ad (dM (yE (K:=K) rfl) T.n_tuple XH (ad (aK (VT K) (aa 2) aj (λ_ _=>rfl)) ae)) ae))))))))))),?_⟩
 refine⟨p,ps,y,Z,hp,en,ok,λH1 s1=>?_⟩;refine λd1 H2 k=>?_;refine⟨a,_,dx,_,rfl,k.sm _ _ (s1 _ _ B),T.dQ,T.pD,V6 Xf (by decide),?_⟩;obtain⟨s,U⟩:∃s,s=upd H2 a (HO.ins t.bK dx (bX "row_by_sign" (.ref d1) [])):=⟨_,rfl⟩;have a3:s a=some (.ins t.bK dx [("row_by_sign",.ref d1)]):=by rw[U,az];rfl
 have k3:Kp a H2 s:=by rw[U];exact Kp.upd
 rw[<- U];clear U;refine λd2 H4 M=>?_;refine⟨a,_,dx,_,rfl,M.sm _ _ a3,T.dQ,T.ue,V6 (Wn 1) (by decide),?_⟩;obtain⟨g,R⟩:∃g,g=upd H4 a (HO.ins t.bK dx (bX "sign_by_row" (.ref d2) [("row_by_sign",.ref d1)])):=⟨_,rfl⟩;have a5:g a=some (.ins t.bK dx [("row_by_sign",.ref d1),("sign_by_row",.ref d2)]):=by rw[R,az];rfl
 have k5:Kp a H4 g:=by rw[R];exact Kp.upd
 rw[<- R];clear R;refine λd3 H6 v=>?_;refine⟨a,_,dx,_,rfl,v.sm _ _ a5,T.dQ,T.uf,V6 (Wn 2) (by decide),?_⟩;obtain⟨b,S⟩:∃b,b=upd H6 a (HO.ins t.bK dx (bX "rest_by_row" (.ref d3) [("row_by_sign",.ref d1),("sign_by_row",.ref d2)])):=⟨_,rfl⟩;have a7:b a=some (.ins t.bK dx [("row_by_sign",.ref d1),("sign_by_row",.ref d2),("rest_by_row",.ref d3)]):=by rw[S,az];rfl
 have k7:Kp a H6 b:=by rw[S];exact Kp.upd
 rw[<- S];clear S;have n1:d1≠a:=(au (s1 _ _ B) k.nw).symm;have n2:d2≠a:=(au a3 M.nw).symm;have n3:d3≠a:=(au a5 v.nw).symm;have J:Kp a s g:=(Kp.of M.sm).trans k5;have F:Kp a g b:=(Kp.of v.sm).trans k7;have G:Kp a s b:=J.trans F;have a6:Kp a H1 b:=(Kp.of k.sm).trans (k3.trans G);have a8:Kp a H b:=(Kp.of s1).trans a6;have b2:g d2=some (.dT []):=k5 _ _ n2 M.at_;have Y:d2≠d3:=au b2 v.nw;have tb:Tt t b a ⟨dx,d1,d2,d3⟩ [] 0:=⟨a7,⟨[],[],[],G _ _ n1 (k3 _ _ n1 k.at_),F _ _ n2 b2,k7 _ _ n3 v.at_,V5 _,V5 _,V5 _,⟨(λe h=>nomatch h),(λn _=>rfl),(λe h=>nomatch h),(λr _=>rfl),(λe h=>nomatch h)⟩⟩,Y⟩;have f1:H d1=none:=s1.free k.nw;have f2:∀c u,H c=some u->c≠a->c≠d2:=λc u e n=>au (k3 _ _ n (k.sm _ _ (s1 _ _ e))) M.nw;have f3:∀c u,H c=some u->c≠a->c≠d3:=λc u e n=>au (J _ _ n (k3 _ _ n (k.sm _ _ (s1 _ _ e)))) v.nw;have lx:=en.1;have aC:=ok.l;have f:∀d,dJ ⟨dx,d1,d2,d3⟩ b d->Kp a H d:=λd o c u n e=>o c u (au e f1) (f2 c u e n) (f3 c u e n) (a8 c u n e);have px:∀d,dJ ⟨dx,d1,d2,d3⟩ b d->d p=some (.lst (ps.map V.ref)):=λd o=>f d o _ _ (aZ hp B (by intro z;cases z)) hp;refine⟨p,rfl,⟨_,.of (px b (dJ.of (ah.refl _)))⟩,fP (K:=K) (a:=p) (xs:=ps.map V.ref) (λi σ d=>Tt t d a ⟨dx,d1,d2,d3⟩ (y.take i) (i*9)/\dJ ⟨dx,d1,d2,d3⟩ b d/\∃v2,σ=[some (.ref a),some (.ref p),v2]) ⟨tb.up (by omega),dJ.of (ah.refl _),_,rfl⟩ (λi σ d _ z=>.of (px d z.2.1)) ?_ ?_⟩
 ·rintro i x σ H8 hx ⟨L,D,v2,rfl⟩;obtain⟨pe,I,rfl⟩:=iU hx;obtain⟨e,he,⟨q,O,N⟩,l1,l6⟩:=en.right I;have C:=f _ D _ _ (aZ O B (by intro z;cases z)) O;have a1:=f _ D _ _ (aZ N B (by intro z;cases z)) N;have hi:i<ps.length:=(V8.mp I).1;refine⟨a,dx,_,Z,L.o,Z,?_⟩;refine⟨_,_,.inr (.of C),aX (j:=0) Z,?_⟩;refine⟨_,_,.inr (.of C),aX (j:=1) Z,?_⟩;refine⟨_,.of a1,λpt H9 g9=>?_⟩;refine⟨a,⟨dx,d1,d2,d3⟩,pt,i*9,e.1,e.2,y.take i,rfl,L.mono g9.sm,g9.at_,l6,by omega,λe' W=>?_,λHA tA oA=>?_⟩
  ·obtain⟨j,hj,rfl⟩:=XG.mp W;obtain⟨a2,e2⟩:=V8.mp he;rw[Wa]at hj;have m:=Xu.mp ok.pw j i (by omega) a2 (by omega);rw[e2]at m;rw[List.getElem_take];unfold eR bT at m;refine⟨λz=>?_,λz=>?_⟩
   ·rw[YE z]at m;cases m
   ·rw[z]at m;simp at m
  ·have et:y.take (i+1)=y.take i++[(e.1,e.2)]:=db he;rw[et];exact⟨tA.up (by omega),D.trans ((dJ.of g9.sm).trans oA),_,rfl⟩
 ·rintro σ H8 ⟨t8,D,_⟩;rw[V4,lx,Wg]at t8;exact kq _ _ (f _ D) (t8.up (by omega))
def Do (T:Txt w K mg t):ij P w K mg base "TableTongue" t.bK 6 t.rR t.qm ["self", "rows"] [] (Bb t):=⟨T.Py,T.Ni,⟨[],T.Tn,.nil⟩,Md T⟩
def EW(a:List (Int × g0))(row:g0):Prop:=∃e∈a,∃m,m<=e.2.length/\row=e.2.take m
def A5(t:Adr):Sp:=λvs H Q _=>∃(a:Addr) (f:Ft) (b:List (Int × g0)) (q:Addr) (row:g0) (g:Int),vs=[.ref a,.ref q,.int g]/\Tt t H a f b 1000/\Es b/\H q=some (.lst (row.map V.int)) /\
 ((∀e∈b,e.2≠row)->∀H',ah H H'->Q .non H')/\(∀e∈b,e.2=row->∀p H',ah H H'->H' p=some (.tup [.int e.1,.int g])->Q (.ref p) H')
def L8 (T:Txt w K mg t):bn P w K mg base bD 2 t.rP t.mZ ["self", "row", "page"] (A5 t):=by
 refine T.Us.okQ Bz (λvs H Q E h=>by obtain⟨o,f,n,q,row,g,rfl,_⟩:=h;rfl) λ_ _ _ _ H vs Q E hr h=>?_;obtain⟨a,f,n,q,row,g,rfl,D,ok,s,z,C⟩:=h;have v:=hr.units;refine⟨_,(ai (aF (i:=3) Bz.nd Z (.inl Z) (B5 v (aU (K:=K) Z (aa 0)) (dM (yE (K:=K) Z) T.n_tuple XH (ad (aa 1) ae))))
  (ak (aq (gg (aJ fA (aa 3) bu (aM _)) bu (bJ (ad (aa 3) (ad (aa 2) ae))))))),?_⟩
 obtain⟨o,⟨k1,k2,k3,G,l,I,_,_,_,p⟩,ne⟩:=id D;refine⟨a,_,f.dx,_,_,Z,o,T.dQ,T.ue,Z,?_⟩;refine⟨f.d2,Z,.inr ⟨_,.inl l⟩,?_⟩;refine⟨_,.of s,λF u j=>?_⟩;have m:=j.at_;rw[pK]at m;refine⟨_,cI.t (j.sm _ _ l) m,?_⟩;by_cases c:∀e∈n,e.2≠row
 ·rw[p.b' row c];exact z c u j.sm
 ·obtain⟨e,B⟩:=Classical.not_forall.mp c;obtain⟨hm,d⟩:=Classical.not_imp.mp B;have d:e.2=row:=Classical.not_not.mp d;have k:=p.b e hm;rw[d]at k;rw[k];exact⟨sz Z,λy x r=>C e hm d y x (j.sm.trans r.sm) r.at_⟩
def OY (T:Txt w K mg t):dS P w K mg base t.bK "whole" 2 t.rP t.mZ ["self", "row", "page"] [] (A5 t) :=
 ⟨T.dQ,T.ML,⟨_,T.Tl,.nil⟩,L8 T⟩
def Bf(t:Adr):Sp:=λvs H Q _=>∃(a:Addr) (f:Ft) (b:List (Int × g0)) (q:Addr) (row:g0) (g:Int),vs=[.ref a,.ref q,.int g]/\Tt t H a f b 1000/\H q=some (.lst (row.map V.int))/\EW b row /\
 ∀p H',ah H H'->Q (.ref p) H'
def Mh (T:Txt w K mg t):bn P w K mg base bD 3 t.rS t.m9 ["self", "row", "page"] (Bf t):=by
 refine T.Uv.okQ BB (λvs H Q E h=>by obtain⟨o,f,p,q,row,g,rfl,_⟩:=h;rfl) λ_ _ _ _ H vs Q E hr h=>?_;obtain⟨a,f,p,q,row,g,rfl,B,n,⟨e,x,m,hm,rfl⟩,k⟩:=h;have r:=hr.units;refine⟨_,(ai (aF (i:=3) BB.nd Z (.inl Z) (B5 r (aU (K:=K) Z (aa 0)) (dM (yE (K:=K) Z) T.n_tuple XH (ad (aa 1) ae))))
  (ak (aq (gg (aJ fA (aa 3) bu (aM _)) bu (dM (VV K) T.n_list WJ (ad (aa 3) ae)))))),?_⟩
 obtain⟨o,⟨k1,k2,k3,J,C,l,_,_,_,u⟩,ne⟩:=id B;refine⟨a,_,f.dx,_,_,Z,o,T.dQ,T.uf,Z,?_⟩;refine⟨f.d3,Z,.inr ⟨_,.inl l⟩,?_⟩;refine⟨_,.of n,λI G b=>?_⟩;have j:=b.at_;rw[pK]at j;refine⟨_,cI.t (b.sm _ _ l) j,?_⟩;obtain⟨D,F,y,d⟩:=u.c e x m hm;rw[y];exact⟨_,.inr (.of (b.sm _ _ d)),λv s z=>k v s (b.sm.trans z.sm)⟩
def O1 (T:Txt w K mg t):dS P w K mg base t.bK "fill" 3 t.rS t.m9 ["self", "row", "page"] [] (Bf t) :=
 ⟨T.dQ,T.MN,⟨_,T.To,.nil⟩,Mh T⟩
def Ao{H a:Hp}{e d0:Addr}{C:Addr}{fs:List (Str × V)}{E:XK}(f:H e=none)(d:a e=some (XN e C (some d0)))(c:a d0=some (.xd fs))(z1:∀b o,b≠e->upd H e (XN e C none) b=some o->a b=some o)(k:∀e d0 a,ah H a->a e=some (XO e C (some d0))->a d0=some (.xd fs)->E (.ref C) (some e) a):E (.ref C) (some e) (upd a e (XO e C (some d0))):=by
 have ne:d0≠e:=λz=>by rw[z,d]at c;cases c
 refine k e d0 _ (λb o q=>?_) az (by rw[ap ne];exact c);have nb:=au q f;rw[ap nb];exact z1 b o nb (by rw[ap nb];exact q)
def oG(K:PySem.W.Frag)(t:Adr):Sp:=λvs H Q E=>∃(a:Addr) (f:Ft) (b:List (Int × g0)) (n g:Int),vs=[.ref a,.int n,.int g]/\Tt t H a f b 1000/\Es b /\
 (∀e∈b,e.1=n->∀p q H',ah H H'->H q=none->H' q=some (.lst (e.2.map V.int))->H' p=some (.tup [.ref q,.int g])->Q (.ref p) H') /\
 ((∀e∈b,e.1≠n)->∀e d0 H',ah H H'->H' e=some (XO e t.bc (some d0))->H' d0=some (.xd [("sign",.int n),("at",.int 0)])->E (.ref t.bc) (some e) H')
def L3 (T:Txt w K mg t):bn P w K mg base (dn P w) 4 t.rQ t.m8 ["self", "sign", "page"] (oG K t):=by
 refine T.Ut.okX Js (λvs H Q E h=>by obtain⟨o,f,s,n,g,rfl,_⟩:=h;rfl) λ_ _ _ _ H vs Q E hr h=>?_;obtain⟨a,f,s,n,g,rfl,M,ok,k,L⟩:=h;have y:=hr.units;refine⟨_,(ai (aQ (cG (dy (dz (cV (aE (i4 T) hr (ad (aa 1) ae)))) (eB (aJ (DT y) (aa 1) (aU (K:=K) rfl (aa 0)) (by with_unfolding_all rfl))))) (ak (mv (Es:=λ_=>E) (mM T) hr rfl fj (ad (aa 1) (ad aj ae)))) aR)
  (ak (aq (bJ (ad (dM (VV K) T.n_list WJ (ad (tV y (aU (K:=K) rfl (aa 0)) (aa 1)) ae)) (ad (aa 2) ae)))))),?_⟩
 obtain⟨o,⟨k1,k2,k3,C,N,R,_,_,_,B⟩,ne⟩:=id M;have i:(∀e∈s,e.1≠n)->∀e,H e=none->∀d0 d,d e=some (XN e t.bc (some d0))->d d0=some (.xd [("sign",.int n),("at",.int 0)])->(∀b o,b≠e->upd H e (XN e t.bc none) b=some o->d b=some o)->E (.ref t.bc) (some e) (upd d e (XO e t.bc (some d0))):=λm e l d0 d j p z1=>Ao l j p z1 (L m);refine⟨_,Z,.int _,?_⟩;refine aw (λz=>?_) (λz=>?_)
 ·have z:(!cv (.int n))=true:=z;refine gn ?_;refine⟨Wf rfl,λe l=>⟨e,_,rfl,rfl,az,λd0 d j p z1=>⟨rfl,e,some d0,rfl,j,?_⟩⟩⟩;refine i (λe' r en=>?_) e l d0 d j p z1;rw[<- en,(fJ _).mpr (ok.sg e' r).1]at z;cases z
 refine⟨a,_,f.dx,_,_,Z,o,T.dQ,T.pD,Z,?_⟩;refine⟨f.d1,_,Z,cI.k (k:=.inl n) C,?_⟩;by_cases c:∀e∈s,e.1≠n
 ·have F:=B.a' n c;refine aw (λ_=>?_) (λz=>YC (show (!(bd k1 (.inl n)).isSome)=true by rw[F];rfl) z);refine⟨Wf rfl,λe l=>⟨e,_,rfl,rfl,az,λd0 d j p z1=>⟨rfl,e,some d0,rfl,j,?_⟩⟩⟩;exact i c e l d0 d j p z1
 ·obtain⟨e,l⟩:=Classical.not_forall.mp c;obtain⟨hm,m⟩:=Classical.not_imp.mp l;have m:e.1=n:=Classical.not_not.mp m;obtain⟨q,u,D⟩:=B.a e hm;rw[m]at u;refine aw (λz=>YC (show (!(bd k1 (.inl n)).isSome)=true from z) (by rw[u];simp)) (λ_=>?_);refine⟨a,_,f.dx,_,_,Z,o,T.dQ,T.pD,Z,?_⟩;refine⟨f.d1,_,rfl,by have:=cI.k (k:=.inl n) C;rw[u]at this;exact this,?_⟩;refine⟨_,.inr (.of D),λJ O v=>?_⟩;refine⟨sz Z,λI G x=>?_⟩;exact k e hm m I J G (v.sm.trans x.sm) v.nw (x.sm _ _ v.at_) x.at_
def uz (T:Txt w K mg t):iH P w K mg base t.bK "spell" 4 t.rQ t.m8 ["self", "sign", "page"] [] (oG K t) :=
 ⟨T.dQ,T.MM,⟨_,T.Tm,.nil⟩,L3 T⟩
def oH(t:Adr):Sp:=λvs H _ E=>∃(a:Addr) (n g:Int),vs=[.ref a,.int n,.int g]/\∀e d0 H',ah H H'->H' e=some (XO e t.bc (some d0))->H' d0=some (.xd [("sign",.int n),("at",.int 0)])->E (.ref t.bc) (some e) H'
def L6 (T:Txt w K mg t):bn P w K mg base (dn P w) 3 t.rO t.mY ["self", "sign", "page"] (oH t):=by
 refine T.Up.okX Jq (λvs H Q E h=>by obtain⟨o,n,g,rfl,_⟩:=h;rfl) λ_ _ _ _ H vs Q E hr h=>?_;obtain⟨a,n,g,rfl,c⟩:=h;have i:=hr.units;refine⟨_,(ak (mv (Es:=λ_=>E) (mM T) hr Z fj (ad (aa 1) (ad aj ae)))),?_⟩;refine⟨Wf rfl,λe f=>⟨e,_,rfl,rfl,az,λd0 j b d z1=>⟨rfl,e,some d0,rfl,b,?_⟩⟩⟩;exact Ao f b d z1 c
def uy (T:Txt w K mg t):iH P w K mg base t.df "spell" 3 t.rO t.mY ["self", "sign", "page"] [] (oH t) :=
 ⟨T.nK,T.MI,⟨_,T.Tj,.nil⟩,L6 T⟩
inductive Kt where
 | ld
 | pr (h:Bool)
 | sh (f:Fp) (ns ms:g0)
 | tb (f:Ft) (es:List (Int × g0))
 | br
def TN(t:Adr)(H:Hp)(o:Addr):Kt->Prop
 | .ld=>∃dx,H o=some (.ins t.dg dx [])
 | .pr h=>Po t H o h
 | .sh f ns ms=>Tg t H o f ns ms
 | .tb f es=>Tt t H o f es 1000/\Es es
 | .br=>∃dx,H o=some (.ins t.df dx [])
def TN.mono{H a:Hp}{o:Addr}{D:Kt}(h:TN t H o D)(s:ah H a):TN t a o D:=by
 cases D with
 | ld=>obtain⟨dx,h⟩:=h;exact⟨dx,s _ _ h⟩
 | pr b=>exact Po.mono h s
 | sh f ns ms=>exact Tg.mono h s
 | tb f es=>exact⟨Tt.mono h.1 s,h.2⟩
 | br=>obtain⟨dx,h⟩:=h;exact⟨dx,s _ _ h⟩
def oE:Kt->Int->Int->Option (g0 × Int)
 | .ld,g,n=>some (row n,g)
 | .pr h,g,n=>some (cg h n,g)
 | .sh _ ns ms,g,n=>dv (aD g ns ms) (aD g ms ns) g (.int n)
 | .tb _ es,g,n=>(es.find? λe=>decide (e.1=n)).map λe=>(e.2,g)
 | .br,_,_=>none
def aY(D:Kt)(g n:Int):g0 × Int:=(oE D g n).getD ([],g)
def bo:Kt->Int->Prop
 | .ld,n=>Sg n
 | .pr _,n=>Sg n
 | .sh _ ns ms,n=>n∈ns\/n∈ms
 | .tb _ es,n=>∃e∈es,e.1=n
 | .br,_=>False
def dL:Kt->Int->Prop
 | .ld,_=>False
 | .pr _,_=>False
 | .sh _ ns ms,n=>n∉ns/\n∉ms
 | .tb _ es,n=>∀e∈es,e.1≠n
 | .br,_=>True
def dI:Kt->Int->Prop
 | .sh _ _ _,g=>cY g
 | _,g=>g=0
def G9{ns ms:g0}{g n:Int}(two:cY g)(h:n∈ns\/n∈ms):∃r g',dv (aD g ns ms) (aD g ms ns) g (.int n)=some (r,g')/\cY g'/\r.length<=2:=by
 have a:n∈aD g ns ms\/n∈aD g ms ns:=by
  rcases two with rfl|rfl
  ·exact h
  ·exact h.symm
 unfold dv;dsimp only;cases e:cC (aD g ns ms) n with
 | some i=>exact⟨_,_,rfl,two,by show (1:Nat)<=2;decide⟩
 | none =>
  dsimp only;have c:=fo.mp e;rcases a with a|a
  ·exact YC a c
  ·obtain⟨i,b,_⟩:=uv a;rw[b];exact⟨_,_,rfl,two.flip,by show (2:Nat)<=2;decide⟩
def qe{a:List (Int × g0)}{n:Int}(h:∃e∈a,e.1=n):∃e∈a,e.1=n/\(a.find? λe=>decide (e.1=n))=some e:=by
 cases e:a.find? λe=>decide (e.1=n) with
 | none =>
  obtain⟨f,b,rfl⟩:=h;have:=List.find?_eq_none.mp e f b;simp at this
 | some f =>
  exact⟨f,List.mem_of_find?_eq_some e,by simpa using List.find?_some e,rfl⟩
def ie:Kt->Prop
 | .tb _ es=>Es es
 | _=>True
def TN.ok{H:Hp}{o:Addr}{D:Kt}(h:TN t H o D):ie D:=by
 cases D with
 | tb f es=>exact h.2
 | _=>exact trivial
def jr{D:Kt}{g n:Int}(tn:ie D)(c:dI D g)(d:bo D n):∃r g',oE D g n=some (r,g')/\aY D g n=(r,g')/\dI D g'/\r.length<=6:=by
 have key:∃r g',oE D g n=some (r,g')/\dI D g'/\r.length<=6:=by
  cases D with
  | ld=>exact⟨_,_,rfl,c,Wq (tT n).2 (by decide)⟩
  | pr b=>exact⟨_,_,rfl,c,Wq (B9 b n) (by decide)⟩
  | sh f ns ms =>
   obtain⟨r,g',e,two,l⟩:=G9 c d;exact⟨r,g',e,two,by omega⟩
  | tb f es =>
   obtain⟨e,i,_,h⟩:=qe d;exact⟨e.2,g,by show Option.map _ _=_;rw[h];rfl,c,(Es.sg tn e i).2.2.1⟩
  | br=>exact d.elim
 obtain⟨r,g',e,a,b⟩:=key;exact⟨r,g',e,by unfold aY;rw[e];rfl,a,b⟩
def al(D:Kt)(g:Int)(ts:g0):g0 × Int:=ts.foldl (λa n=>(a.1++(aY D a.2 n).1,(aY D a.2 n).2)) ([],g)
def sY(D:Kt)(g:Int)(ts:g0)(n:Int):al D g (ts++[n])=((al D g ts).1++(aY D (al D g ts).2 n).1,(aY D (al D g ts).2 n).2):=by
 unfold al;rw[X3]
 rfl
theorem iI{D:Kt}{g:Int}(tn:ie D)(c:dI D g):∀(m:Nat) (ts:g0),(∀i n,i<m->ts[i]? = some n->bo D n)->dI D (al D g (ts.take m)).2/\(al D g (ts.take m)).1.length<=6*m
 | 0,ts,_=>⟨c,V5 _⟩
 | m+1,ts,h=>by
  obtain⟨a,b⟩:=iI tn c m ts λi n f=>h i n (by omega);cases e:ts[m]? with
  | none =>
   rw[Xb (by have:=Yx.mp e;omega)];rw[Xb (Yx.mp e)]at a b;exact⟨a,by omega⟩
  | some n =>
   rw[db e,sY];obtain⟨r,g',_,d,pg,l⟩:=jr tn a (h m n (by omega) e);rw[d];exact⟨pg,by rw[Wb];dsimp only;omega⟩
def yO{D:Kt}{ts:g0}(h:∀n∈ts,bo D n)(m:Nat):∀i n,i<m->ts[i]? = some n->bo D n:=λi n _ e=>h n (Wo e)
def A4{ns ms:g0}{g n:Int}(two:cY g)(h:n∈ns\/n∈ms):∃r g',dv (aD g ns ms) (aD g ms ns) g (.int n)=some (r,g')/\cY g'/\((∃b:Int,r=[b]/\0<=b/\(aD g ns ms)[b.toNat]? = some n/\g'=g)\/(∃c:Int,r=[254+(1-g),c]/\0<=c/\(aD g ms ns)[c.toNat]? = some n/\n∉aD g ns ms/\g'=1-g)):=by
 have a:n∈aD g ns ms\/n∈aD g ms ns:=by
  rcases two with rfl|rfl
  ·exact h
  ·exact h.symm
 unfold dv;dsimp only;cases e:cC (aD g ns ms) n with
 | some i=>exact⟨_,_,rfl,two,.inl ⟨(i:Int),rfl,by omega,by simpa using (pQ e).1,rfl⟩⟩
 | none =>
  dsimp only;have f:=fo.mp e;rcases a with a|a
  ·exact YC a f
  ·obtain⟨i,d,_⟩:=uv a;rw[d];exact⟨_,_,rfl,two.flip,.inr ⟨(i:Int),rfl,by omega,by simpa using (pQ d).1,f,rfl⟩⟩
def A3{f:Fp}{ns ms:g0}{g n:Int}{r:g0}{g':Int}(e:dv (aD g ns ms) (aD g ms ns) g (.int n)=some (r,g')):aY (.sh f ns ms) g n=(r,g'):=by
 show (dv (aD g ns ms) (aD g ms ns) g (.int n)).getD ([],g)=_;rw[e];rfl
def Cq:PyData.strOk "sign" = true:=by decide +kernel
def tX:PyData.strOk "more" = true:=by decide +kernel
def Mc:PyData.strOk "none" = true:=by decide +kernel
def jq{x:Str}(h:PyData.strOk x=true):SeqAt.shaped (.str x)=true:=by
 simpa [SeqAt.shaped,PyData.canLay0,PyData.depth] using h
def lG(D:Kt)(g n:Int)(m:Nat):List V:=if m=(aY D g n).1.length then [.str "sign",.int n,.int (aY D g n).2] else [.str "more",.non,.int g]
def NJ{ns ms:g0}{f:Fp}{g n:Int}{m:Nat}(two:cY g)(k:n∈ns\/n∈ms)(k0:ej ns)(k1:ej ms)(l:1<=m)(h:m<=(aY (.sh f ns ms) g n).1.length):Af g ((aY (.sh f ns ms) g n).1.take m)/\fi (aD g ns ms) (aD g ms ns) g ((aY (.sh f ns ms) g n).1.take m)=lG (.sh f ns ms) g n m:=by
 obtain⟨r,g',e,_,hr⟩:=A4 two k;have i:aY (.sh f ns ms) g n=(r,g'):=A3 e;unfold lG;rw[i]at h ⊢;dsimp only at h ⊢;rcases hr with ⟨b,rfl,d,hb,rfl⟩|⟨c,rfl,c0,hc,hnp,rfl⟩
 ·obtain rfl:m=1:=by simp at h;omega
  refine⟨.inl ⟨b,Z,d⟩,?_⟩;show fi _ _ _ [b]=_;rw[CY d,hb]
  rfl
 ·have a:c∈gA (aD g ms ns) (aD g ns ms):=(ui c0).mpr ⟨n,hc,hnp⟩;have d:(0:Int)<=254+(1-g):=by rcases two with rfl|rfl<;>decide
  have j:m<=2:=h;rcases (show m=1\/m=2 by omega) with rfl|rfl
  ·refine⟨.inl ⟨_,Z,d⟩,?_⟩;show fi _ _ _ [254+(1-g)]=_;have hl:=(tK (g:=g) k0 k1).2.2;rw[CY d,Xc (by rcases two with rfl|rfl<;>omega)];dsimp only;rw[YB ⟨rfl,λz=>by rw[z]at a;cases a⟩]
   rfl
  ·refine⟨.inr ⟨c,Z,c0⟩,?_⟩;show fi _ _ _ [254+(1-g),c]=_;rw[NL c0,YB a,WO,hc]
   rfl
def GV{b:List (Int × g0)}(ok:Es b){e a:Int × g0}(f:e∈b)(c:a∈b){m:Nat}(hm:m<=a.2.length)(h:e.2=a.2.take m):e=a/\m=a.2.length:=by
 have le:e.2.length=m:=by rw[h,Wa];omega
 have d:eR e a=true:=by
  unfold eR bT;have:a.2.take e.2.length=e.2:=by rw[le,h]
  simp[this]
 rcases ok.two f c with rfl|z
 ·exact⟨rfl,le.symm⟩
 ·rw[z]at d;cases d
def sS:Kt->Nat->Prop
 | .pr _,m=>m%2=0
 | _,_=>True
def CW{n:Int}(h:Sg n){m:Nat}(f:1<=m)(g:m<=(row n).length):(m=(row n).length/\gE ((row n).take m)/\jc ((row n).take m)=n)\/(m<(row n).length/\¬gE ((row n).take m)/\sV ((row n).take m)):=by
 obtain⟨a,b⟩:=JY h;rcases Xv m (row n).length with z|z
 ·obtain⟨c,d⟩:=Gi a f z;exact .inr ⟨z,d,c⟩
 ·have e:m=(row n).length:=by omega
  subst e;rw[Wg];exact .inl ⟨rfl,a,b⟩
def CV(h:Bool){n:Int}(hs:Sg n){m:Nat}(g:1<=m)(f:m<=(cg h n).length)(d:m%2=0):(m=(cg h n).length/\eY h ((cg h n).take m)=some n)\/(m<(cg h n).length/\eY h ((cg h n).take m)=none/\mX h ((cg h n).take m)≠none):=by
 have l:=o9 h n;rcases Xv m (cg h n).length with z|z
 ·have c:¬n<65536:=λc=>by rw[YB c]at l;omega
  rw[YA c]at l;have e:m=2:=by omega
  obtain⟨u,b,a,u2⟩:=K3 h hs c;rw[e,b];exact .inr ⟨by omega,Op h a u2,Oq h a u2⟩
 ·have e:m=(cg h n).length:=by omega
  rw[e,Wg];exact .inl ⟨rfl,Gk h hs⟩
def md:Sp:=λ_ _ _ _=>False
def OU (T:Txt w K mg t):dS P w K mg base t.df "whole" 1 t.zO t.qj ["self", "row", "page"] [] md :=
 ⟨T.nK,T.MG,⟨_,T.Ti,.nil⟩,T.Um.okQ Jo (λvs H Q E h=>h.elim) λa A outer s H vs Q E hr h=>h.elim⟩
def OX (T:Txt w K mg t):dS P w K mg base t.df "fill" 1 t.zP t.qk ["self", "row", "page"] [] md :=
 ⟨T.nK,T.MK,⟨_,T.Tk,.nil⟩,T.Ur.okQ Jr (λvs H Q E h=>h.elim) λa A outer s H vs Q E hr h=>h.elim⟩
def GU{r:g0}(h:eW r)(m:Nat):eW (r.take m):=λx hx=>h x (X8 hx)
def jt(t:Adr):Sp:=λvs H Q _=>∃(o q:Addr) (D:Kt) (n g:Int) (m:Nat),vs=[.ref o,.ref q,.int g]/\TN t H o D/\dI D g/\bo D n/\H q=some (.lst (((aY D g n).1.take m).map V.int))/\1<=m/\m<=(aY D g n).1.length/\sS D m /\
 ∀p H',ah H H'->H' p=some (.tup (lG D g n m))->Q (.ref p) H'
def mE (T:Txt w K mg t):bn P w K mg base bD 7 t.fD t.h8 ["self", "begun", "page"] (jt t):=by
 refine T.Uq.okQ By (λvs H Q E h=>by obtain⟨o,q,D,n,g,m,rfl,_⟩:=h;rfl) λ_ _ _ _ H vs Q E hr h=>?_;obtain⟨o,q,D,n,g,m,rfl,tn,pg,v,b,C,c,ev,k⟩:=h;have hu:=hr.units;refine⟨_,(ai (aF (i:=3) By.nd Z (.inl Z) (bW (dB (OU T) hr (aa 0) (ad (aa 1) (ad (aa 2) ae))) (bW (dB (Pj T) hr (aa 0) (ad (aa 1) (ad (aa 2) ae))) (bW (dB (DK T) hr (aa 0) (ad (aa 1) (ad (aa 2) ae))) (bW (dB (DG T) hr (aa 0) (ad (aa 1) (ad (aa 2) ae))) (dB (OY T) hr (aa 0) (ad (aa 1) (ad (aa 2) ae))))))))
  (ai (aQ (aJ mQ (aa 3) bu (aM _)) (ak (aq (bJ (ad eM (ad (aK (VT K) (aa 3) aj (λ_ _=>rfl)) (ad (aK (VT K) (aa 3) aj (λ_ _=>rfl)) ae)))))) aR)
  (ai (aQ (aJ fA (bW (dB (OX T) hr (aa 0) (ad (aa 1) (ad (aa 2) ae))) (bW (dB (Pn T) hr (aa 0) (ad (aa 1) (ad (aa 2) ae))) (bW (dB (Ph T) hr (aa 0) (ad (aa 1) (ad (aa 2) ae))) (bW (dB (O5 T) hr (aa 0) (ad (aa 1) (ad (aa 2) ae))) (dB (O1 T) hr (aa 0) (ad (aa 1) (ad (aa 2) ae))))))) bu (aM _)) (ak (aq (bJ (ad eM (ad bu (ad (aa 2) ae)))))) aR)
  (ak (aq (bJ (ad eM (ad bu (ad (aa 2) ae))))))))),?_⟩
 cases D with
 | br=>exact v.elim
 | ld =>
  obtain rfl:g=0:=pg;obtain⟨dx,F⟩:=id tn;have b:H q=some (.lst (((row n).take m).map V.int)):=b;have c:m<=(row n).length:=c;have rl:=tT n;have M:((row n).take m).length<=1000:=by rw[Wa];omega
  have I:∀p H',ah H H'->H' p=some (.tup (if m=(row n).length then [.str "sign",.int n,.int 0] else [.str "more",.non,.int 0]))->Q (.ref p) H':=k;refine .inr (.inl ⟨o,dx,_,Z,F,Z,?_⟩);refine⟨o,q,_,Z,.of b,M,λO p u r=>?_,λnw u s1=>?_⟩
  ·rcases CW v C c with ⟨e,_,ec⟩|⟨_,nw,_⟩
   ·rw[ec]at r;refine⟨_,_,.inr r.tup,aX (j:=0) Z,?_⟩;refine⟨_,_,.inr r.tup,aX (j:=1) Z,?_⟩;exact⟨sz rfl,λl d a=>I l d (r.sm.trans a.sm) (by rw[YB e];exact a.at_)⟩
   ·exact YC O nw
  ·rcases CW v C c with ⟨_,O,_⟩|⟨e,_,bg⟩
   ·exact YC O nw
   ·refine .inr (.inl ⟨o,dx,_,Z,s1 _ _ F,Z,?_⟩);refine⟨o,q,_,Z,.of (s1 _ _ b),M,λ_ l d a=>?_,λnb=>YC bg nb⟩;exact⟨sz rfl,λB x s=>I B x (s1.trans (a.sm.trans s.sm)) (by rw[YA (by omega)];exact s.at_)⟩
 | pr h =>
  obtain rfl:g=0:=pg;have po:Po t H o h:=tn;obtain⟨dx,F⟩:=id po;have b:H q=some (.lst (((cg h n).take m).map V.int)):=b;have c:m<=(cg h n).length:=c;have rl:=B9 h n;have M:((cg h n).take m).length<=900:=by rw[Wa];omega
  have J:=GU (K4 h v) m
  have I:∀p H',ah H H'->H' p=some (.tup (if m=(cg h n).length then [.str "sign",.int n,.int 0] else [.str "more",.non,.int 0]))->Q (.ref p) H':=k;refine .inr (.inr (.inl ⟨o,dx,_,Z,F,Z,?_⟩));refine⟨o,q,h,_,rfl,po,.of b,J,by omega,λn' en p u r=>?_,λen u s1=>?_⟩
  ·rcases CV h v C c ev with ⟨e,ec⟩|⟨_,nw,_⟩
   ·rw[ec]at en;cases en;refine⟨_,_,.inr r.tup,aX (j:=0) Z,?_⟩;refine⟨_,_,.inr r.tup,aX (j:=1) Z,?_⟩;exact⟨sz rfl,λl d a=>I l d (r.sm.trans a.sm) (by rw[YB e];exact a.at_)⟩
   ·rw[nw]at en;cases en
  ·rcases CV h v C c ev with ⟨_,ec⟩|⟨e,_,nf⟩
   ·rw[ec]at en;cases en
   ·refine .inr (.inr (.inl ⟨o,dx,_,Z,s1 _ _ F,Z,?_⟩));refine⟨o,q,h,_,Z,po.mono s1,.of (s1 _ _ b),J,M,λf ef l d a=>?_,λef=>YC ef nf⟩;exact⟨sz rfl,λB x s=>I B x (s1.trans (a.sm.trans s.sm)) (by rw[YA (by omega)];exact s.at_)⟩
 | sh f ns ms =>
  have two:cY g:=pg;have tg:Tg t H o f ns ms:=tn;obtain⟨ok,el⟩:=NJ (f:=f) two v tg.k0 tg.k1 C c;rw[<- el]at k;refine .inr (.inr (.inr (.inl ⟨o,f.dx,_,Z,tg.o,Z,?_⟩)));refine⟨o,f,ns,ms,q,_,g,Z,two,tg,b,ok,λhw=>?_,λn g' hw p u r=>?_⟩
  ·refine .inr (.inr (.inr (.inl ⟨o,f.dx,_,Z,tg.o,Z,?_⟩)));refine⟨o,f,ns,ms,q,_,g,Z,two,tg,b,ok,λU u s1=>?_,λU p1 r2 u s1 _ _=>?_⟩
   ·refine⟨sz Z,λl d a=>k l d (s1.trans a.sm) ?_⟩;unfold fi;rw[hw,U];exact a.at_
   ·refine⟨sz Z,λl d a=>k l d (s1.trans a.sm) ?_⟩;unfold fi;rw[hw,U];exact a.at_
  ·refine⟨_,_,.inr r.tup,aX (j:=0) Z,?_⟩;refine⟨_,_,.inr r.tup,aX (j:=1) Z,?_⟩;refine⟨sz Z,λl d a=>k l d (r.sm.trans a.sm) ?_⟩;unfold fi;rw[hw];exact a.at_
 | tb f es =>
  obtain rfl:g=0:=pg;obtain⟨N,ok⟩:=id tn;obtain⟨G,y,R,a0⟩:=qe v;have Y:aY (.tb f es) 0 n=(G.2,0):=by
   show (Option.map _ _).getD _=_;rw[a0];rfl
  unfold lG at k;rw[Y]at b c k;dsimp only at b c k;have rt:EW es (G.2.take m):=⟨G,y,m,c,rfl⟩;refine .inr (.inr (.inr (.inr ⟨o,f.dx,_,Z,N.o,Z,?_⟩)));refine⟨o,f,es,q,_,0,Z,N,ok,b,λW u s1=>?_,λe he L p u s1 S=>?_⟩
  ·refine .inr (.inr (.inr (.inr ⟨o,f.dx,_,Z,(N.mono s1).o,Z,?_⟩)));refine⟨o,f,es,q,_,0,Z,N.mono s1,s1 _ _ b,rt,λl d s2=>?_⟩;have ne:¬m=G.2.length:=λz=>W G y (by rw[z,Wg]);rw[YA ne]at k;exact⟨sz Z,λB x s=>k B x (s1.trans (s2.trans s.sm)) s.at_⟩
  ·obtain⟨ee,em⟩:=GV ok he y c L;rw[YB em]at k;rw[ee,R]at S;refine⟨_,_,.inr (.of S),aX (j:=0) Z,?_⟩;refine⟨_,_,.inr (.of S),aX (j:=1) Z,?_⟩;exact⟨sz Z,λB x s=>k B x (s1.trans s.sm) s.at_⟩
def OW (T:Txt w K mg t):dS P w K mg base t.df "look" 7 t.fD t.h8 ["self", "begun", "page"] [] (jt t):=⟨T.nK,T.MJ,⟨_,T.nN,.nil⟩,mE T⟩
def Pl (T:Txt w K mg t):dS P w K mg base t.dg "look" 7 t.fD t.h8 ["self", "begun", "page"] [] (jt t):=⟨T.nM,T.mt_LeadTongue_look,⟨_,T.nN,.nil⟩,mE T⟩
def Pf (T:Txt w K mg t):dS P w K mg base t.cb "look" 7 t.fD t.h8 ["self", "begun", "page"] [] (jt t):=⟨T.fS,T.mt_PairTongue_look,⟨_,T.nN,.nil⟩,mE T⟩
def O4 (T:Txt w K mg t):dS P w K mg base t.bC "look" 7 t.fD t.h8 ["self", "begun", "page"] [] (jt t):=⟨T.cR,T.mt_ShiftTongue_look,⟨_,T.nN,.nil⟩,mE T⟩
def O0 (T:Txt w K mg t):dS P w K mg base t.bK "look" 7 t.fD t.h8 ["self", "begun", "page"] [] (jt t):=⟨T.dQ,T.mt_TableTongue_look,⟨_,T.nN,.nil⟩,mE T⟩
def js(u:Int):Sp:=λvs H Q _=>∃o:V,vs=[o]/\Q (.int u) H
def pA (T:Txt w K mg t):bn P w K mg base bD 1 t.gC t.i5 ["self"] (js 1):=by
 refine T.Uo.okQ Jp (λvs H Q E h=>by obtain⟨o,rfl,_⟩:=h;rfl) λ_ _ _ _ H vs Q E hr h=>?_;obtain⟨o,rfl,k⟩:=h;exact⟨_,(ak (aq aj)),k⟩
def OV (T:Txt w K mg t):cy P w K mg base t.df "unit" 1 t.gC t.i5 ["self"] (js 1):=⟨T.nK,T.MH,T.rL,pA T⟩
def Pk (T:Txt w K mg t):cy P w K mg base t.dg "unit" 1 t.gC t.i5 ["self"] (js 1):=⟨T.nM,T.mt_LeadTongue_unit,T.rL,pA T⟩
def O3 (T:Txt w K mg t):cy P w K mg base t.bC "unit" 1 t.gC t.i5 ["self"] (js 1):=⟨T.cR,T.mt_ShiftTongue_unit,T.rL,pA T⟩
def OZ (T:Txt w K mg t):cy P w K mg base t.bK "unit" 1 t.gC t.i5 ["self"] (js 1):=⟨T.dQ,T.mt_TableTongue_unit,T.rL,pA T⟩
def Pd (T:Txt w K mg t):cy P w K mg base t.cb "unit" 1 t.zZ t.wG ["self"] (js 2):=by
 refine⟨T.fS,T.M6,T.TW,T.UQ.okQ JG (λvs H Q E h=>by obtain⟨o,rfl,_⟩:=h;rfl) λ_ _ _ _ H vs Q E hr h=>?_⟩;obtain⟨o,rfl,k⟩:=h;exact⟨_,(ak (aq aj)),k⟩
def Kp.free{x b:Addr}{H a:Hp}{o:HO}(k:Kp x H a)(hx:a x=some o)(n:a b=none):H b=none:=by
 cases e:H b with
 | none=>rfl
 | some u =>
  have:=k b u (λz=>by rw[z,hx]at n;cases n) e;rw[n]at this;cases this
abbrev dG(t:Adr)(dx o b mt:Addr)(pl g c:Int)(e:Bool):HO:=.ins t.bP dx [("tongue",.ref o),("place",.int pl),("at_page",.int g),("begun",.ref b),("many",.int c),("met",.ref mt),("ended",.bl e)]
def Bc(t:Adr):Sp:=λvs H Q _=>∃(x dx o:Addr) (pl:Int),vs=[.ref x,.ref o,.int pl]/\H x=some (.ins t.bP dx [])/\∀b mt H',H b=none->H mt=none->b≠mt->Kp x H H'->H' x=some (dG t dx o b mt pl 0 0 false)->H' b=some (.lst [])->H' mt=some (.lst [])->Q .non H'
def Me (T:Txt w K mg t):bn P w K mg base bD 1 t.sd t.nr ["self", "tongue", "place"] (Bc t):=by
 refine T.UK.okQ JD (λvs H Q E h=>by obtain⟨x,dx,o,pl,rfl,_⟩:=h;rfl) λ_ _ _ _ H vs Q E hr h=>?_;obtain⟨x,dx,o,pl,rfl,hx,k⟩:=h;refine⟨_,(ai (ce (K:=K) Z (aa 0) (aa 1))
  (ai (ce (K:=K) rfl (aa 0) (aa 2))
  (ai (ce (K:=K) rfl (aa 0) aj)
  (ai (ce (K:=K) rfl (aa 0) (aT ae))
  (ai (ce (K:=K) rfl (aa 0) aj)
  (ai (ce (K:=K) rfl (aa 0) (aT ae))
  (ak (ce (K:=K) rfl (aa 0) fO)))))))),?_⟩
 refine⟨x,_,dx,_,rfl,hx,T.bq,T.gT,V6 Xf (by decide),?_⟩;refine⟨x,_,dx,_,rfl,az,T.bq,T.Mr,V6 (Wn 1) (by decide),?_⟩;refine⟨x,_,dx,_,rfl,az,T.bq,T.lF,V6 (Wn 2) (by decide),?_⟩;refine⟨sz Z,λb n d=>?_⟩;have nb:H b=none:=Kp.free (x:=x) (Kp.trans Kp.upd (Kp.trans Kp.upd Kp.upd)) az d.nw;have k1:Kp x H n:=Kp.trans (Kp.trans Kp.upd (Kp.trans Kp.upd Kp.upd)) (Kp.of d.sm);have a:b≠x:=λz=>by rw[z,hx]at nb;cases nb
 have m:=d.sm x _ az;refine⟨x,_,dx,_,rfl,m,T.bq,T.gU,V6 (Wn 3) (by decide),?_⟩;refine⟨x,_,dx,_,rfl,az,T.bq,T.Cz,V6 (Wn 4) (by decide),?_⟩;refine⟨sz Z,λmt i c=>?_⟩;have g:H mt=none:=Kp.free (x:=x) (k1.trans (Kp.trans Kp.upd Kp.upd)) az c.nw;have k3:Kp x H i:=Kp.trans (k1.trans (Kp.trans Kp.upd Kp.upd)) (Kp.of c.sm);have j:i b=some (.lst []):=c.sm _ _ (by rw[ap a,ap a];exact d.at_);have f:b≠mt:=au (by rw[ap a,ap a];exact d.at_) c.nw;have e:mt≠x:=λz=>by rw[z,hx]at g;cases g
 have l:=c.sm x _ az;refine⟨x,_,dx,_,rfl,l,T.bq,T.Cw,V6 (Wn 5) (by decide),?_⟩;refine⟨x,_,dx,_,rfl,az,T.bq,T.iY,V6 (Wn 6) (by decide),?_⟩;exact k b mt _ nb g f (k3.trans (Kp.upd.trans Kp.upd)) (by rw[az];rfl) (by rw[ap a,ap a];exact j) (by rw[ap e,ap e];exact c.at_)
def Oi (T:Txt w K mg t):ij P w K mg base "Reader" t.bP 1 t.sd t.nr ["self", "tongue", "place"] [.int 0] (Bc t):=⟨T.PD,T.Nm,⟨_,T.Sf,.cons ⟨_,rfl⟩ .nil⟩,Me T⟩
def O6 (T:Txt w K mg t):cy P w K mg base t.bP "meet_none" 2 t.rZ t.wz ["self"] md :=
 ⟨T.bq,T.MW,T.TJ,T.UH.okQ JB (λvs H Q E h=>h.elim) λa A outer s H vs Q E hr h=>h.elim⟩
def O7 (T:Txt w K mg t):cy P w K mg base t.bP "meet" 2 t.zX t.wA ["self", "length", "kind"] md :=
 ⟨T.bq,T.MX,T.TK,T.UI.okQ JC (λvs H Q E h=>h.elim) λa A outer s H vs Q E hr h=>h.elim⟩
def HR(t:Adr):Sp:=λvs H Q _=>∃(x dx o b mt:Addr) (D:Kt) (n g c pl:Int) (m:Nat),vs=[.ref x]/\H x=some (dG t dx o b mt pl g c false)/\TN t H o D/\dI D g/\bo D n/\H b=some (.lst (((aY D g n).1.take m).map V.int))/\1<=m/\m<=(aY D g n).1.length/\sS D m /\
 (m<(aY D g n).1.length->∀q H',ah H H'->H q=none->H' q=some (.lst [])->Q (.ref q) H') /\
 (m=(aY D g n).1.length->∀q b' H',Kp x H H'->H q=none->H b'=none->q≠b'->H' x=some (dG t dx o b' mt pl (aY D g n).2 c false)->H' b'=some (.lst [])->H' q=some (.lst [.int n])->Q (.ref q) H')
def O8 (T:Txt w K mg t):cy P w K mg base t.bP "look_at_begun" 8 t.r9 t.wB ["self"] (HR t):=by
 refine⟨T.bq,T.MY,T.TL,T.UJ.okQ BD (λvs H Q E h=>by obtain⟨x,dx,o,b,mt,D,n,g,c,pl,m,rfl,_⟩:=h;rfl) λ_ _ _ _ H vs Q E hr h=>?_⟩;obtain⟨x,dx,o,b,mt,D,n,g,c,pl,m,rfl,hx,tn,pg,C,hb,G,L,I,W,Y⟩:=h;have R:=hr.units;refine⟨_,(ai (aF (i:=1) BD.nd Z (.inl Z) (bW (dB (OW T) hr (aU (K:=K) Z (aa 0)) (ad (aU (K:=K) Z (aa 0)) (ad (aU (K:=K) Z (aa 0)) ae))) (bW (dB (Pl T) hr (aU (K:=K) Z (aa 0)) (ad (aU (K:=K) Z (aa 0)) (ad (aU (K:=K) Z (aa 0)) ae))) (bW (dB (Pf T) hr (aU (K:=K) Z (aa 0)) (ad (aU (K:=K) Z (aa 0)) (ad (aU (K:=K) Z (aa 0)) ae))) (bW (dB (O4 T) hr (aU (K:=K) Z (aa 0)) (ad (aU (K:=K) Z (aa 0)) (ad (aU (K:=K) Z (aa 0)) ae))) (dB (O0 T) hr (aU (K:=K) Z (aa 0)) (ad (aU (K:=K) Z (aa 0)) (ad (aU (K:=K) Z (aa 0)) ae))))))))
  (ai (aQ (aJ (ca (K:=K) rfl R) (aK (VT K) (aa 1) aj (λ_ _=>rfl)) eM (aM _)) (ak (aq (aT ae))) aR)
  (ai (aQ (aJ (ca (K:=K) rfl R) (aK (VT K) (aa 1) aj (λ_ _=>rfl)) eM (aM _)) (ak (aq (di (O6 T) hr (aa 0)))) aR)
  (ai (ce (K:=K) rfl (aa 0) (aT ae))
  (ai (ce (K:=K) rfl (aa 0) (aK (VT K) (aa 1) aj (λ_ _=>rfl)))
  (ak (aq (aT (ad (aK (VT K) (aa 1) aj (λ_ _=>rfl)) ae))))))))),?_⟩
 refine jv (λS B=>∃J,ah H B/\B J=some (.tup (lG D g n m))/\S=[some (.ref x),some (.ref J)]) (λnx k=>?_) ?_
 ·cases D with
  | br=>exact C.elim
  | ld =>
   obtain⟨s,M⟩:=id tn;exact .inr (.inl ⟨x,_,dx,_,_,Z,hx,T.bq,T.gT,Z,o,s,_,Z,M,Z,x,_,dx,_,_,Z,hx,T.bq,T.gU,Z,x,_,dx,_,_,Z,hx,T.bq,T.lF,Z,o,b,.ld,n,g,m,Z,tn,pg,C,hb,G,L,I,λp B v a=>k _ _ ⟨p,v,a,Z⟩⟩)
  | pr h =>
   obtain⟨s,M⟩:=id tn;exact .inr (.inr (.inl ⟨x,_,dx,_,_,Z,hx,T.bq,T.gT,Z,o,s,_,Z,M,Z,x,_,dx,_,_,Z,hx,T.bq,T.gU,Z,x,_,dx,_,_,Z,hx,T.bq,T.lF,Z,o,b,.pr h,n,g,m,Z,tn,pg,C,hb,G,L,I,λp B v a=>k _ _ ⟨p,v,a,Z⟩⟩))
  | sh f ns ms =>
   exact .inr (.inr (.inr (.inl ⟨x,_,dx,_,_,Z,hx,T.bq,T.gT,Z,o,f.dx,_,Z,Tg.o tn,Z,x,_,dx,_,_,Z,hx,T.bq,T.gU,Z,x,_,dx,_,_,Z,hx,T.bq,T.lF,Z,o,b,.sh f ns ms,n,g,m,Z,tn,pg,C,hb,G,L,I,λp B v a=>k _ _ ⟨p,v,a,Z⟩⟩)))
  | tb f es =>
   exact .inr (.inr (.inr (.inr ⟨x,_,dx,_,_,Z,hx,T.bq,T.gT,Z,o,f.dx,_,Z,tn.1.o,Z,x,_,dx,_,_,Z,hx,T.bq,T.gU,Z,x,_,dx,_,_,Z,hx,T.bq,T.lF,Z,o,b,.tb f es,n,g,m,Z,tn,pg,C,hb,G,L,I,λp B v a=>k _ _ ⟨p,v,a,Z⟩⟩)))
 ·rintro S H1 ⟨J,s1,a,rfl⟩;unfold lG at a;by_cases e:m=(aY D g n).1.length
  ·rw[YB e]at a;refine⟨_,_,.inr (.of a),aX (j:=0) Z,?_⟩;refine⟨_,_,ba.str _,ba.str _,jq Cq,jq tX,?_⟩;refine aw (λz=>YC (show PyData.eqv (.str "sign") (.str "more")=true from z) (by decide +kernel)) (λ_=>?_);refine⟨_,_,.inr (.of a),aX (j:=0) Z,?_⟩;refine⟨_,_,ba.str _,ba.str _,jq Cq,jq Mc,?_⟩;refine aw (λz=>YC (show PyData.eqv (.str "sign") (.str "none")=true from z) (by decide +kernel)) (λ_=>?_);refine⟨sz Z,λb' U l=>?_⟩;have O:=s1.trans l.sm;have F:=O _ _ hx;have u:=l.sm _ _ a;have nb:H b'=none:=s1.free l.nw;have r:J≠x:=aZ u F (by intro z;cases z);have d:b'≠x:=λz=>by rw[z,hx]at nb;cases nb
   refine⟨x,_,dx,_,rfl,F,T.bq,T.gU,V6 (Wn 7) (by decide),?_⟩;refine⟨_,_,.inr (.of (by rw[ap r];exact u)),aX (j:=2) Z,?_⟩;refine⟨x,_,dx,_,rfl,az,T.bq,T.lF,V6 (Wn 7) (by decide),?_⟩;refine⟨_,_,.inr (.of (by rw[ap r,ap r];exact u)),aX (j:=1) Z,?_⟩;refine⟨sz Z,λq V y=>?_⟩;have N:=y.sm b' _ (by rw[ap d,ap d];exact l.at_);exact Y e q b' V (Kp.trans (Kp.trans (Kp.of O) (Kp.trans Kp.upd Kp.upd)) (Kp.of y.sm)) (Kp.free (x:=x) (Kp.trans (Kp.of O) (Kp.trans Kp.upd Kp.upd)) az y.nw) nb (au (by rw[ap d,ap d];exact l.at_) y.nw).symm (y.sm x _ (by rw[az];rfl)) N y.at_
  ·rw[YA e]at a;refine⟨_,_,.inr (.of a),aX (j:=0) Z,?_⟩;refine⟨_,_,ba.str _,ba.str _,jq tX,jq tX,?_⟩;refine aw (λ_=>?_) (λz=>YC (show PyData.eqv (.str "more") (.str "more")=true by decide +kernel) z);exact⟨sz rfl,λq U l=>W (by omega) q U (s1.trans l.sm) (s1.free l.nw) l.at_⟩
theorem tf(D:Kt):∀(ts:g0) (row:g0) (g:Int),ts.foldl (λa n=>(a.1++(aY D a.2 n).1,(aY D a.2 n).2)) (row,g)=(row++(al D g ts).1,(al D g ts).2)
 | [],row,g=>by simp[al]
 | n::ts,row,g=>by
  rw[Xp,tf D ts];have e:al D g (n::ts)=((aY D g n).1++(al D (aY D g n).2 ts).1,(al D (aY D g n).2 ts).2):=by
   show List.foldl _ _ (n::ts)=_;rw[Xp,tf D ts];simp
  rw[e,WV]
def sZ(D:Kt)(g:Int)(xs a:g0):al D g (xs++a)=((al D g xs).1++(al D (al D g xs).2 a).1,(al D (al D g xs).2 a).2):=by
 show List.foldl _ _ (xs++a)=_;rw[X3];exact tf D a _ _
def rk(D:Kt)(ts:g0)(k:Nat):g0:=(aY D (al D 0 (ts.take k)).2 (ts.getD k 0)).1
def oj{D:Kt}{ts:g0}{k:Nat}{n:Int}(h:ts[k]? = some n):al D 0 (ts.take (k+1))=((al D 0 (ts.take k)).1++rk D ts k,(aY D (al D 0 (ts.take k)).2 n).2):=by
 rw[db h,sY];unfold rk;rw[WO,h]
 rfl
def Gg{D:Kt}{ts:g0}{k:Nat}{n:Int}(h:ts[k]? = some n):∃bB,(al D 0 ts).1=(al D 0 (ts.take k)).1++rk D ts k++bB:=by
 have e:ts=ts.take (k+1)++ts.drop (k+1):=(Xw _ _).symm;refine⟨(al D (al D 0 (ts.take (k+1))).2 (ts.drop (k+1))).1,?_⟩;have:al D 0 ts=al D 0 (ts.take (k+1)++ts.drop (k+1)):=by rw[<- e]
 rw[this,sZ,oj h]
def G5{D:Kt}{g n:Int}(tn:ie D)(pg:dI D g)(d:bo D n):1<=(aY D g n).1.length:=by
 cases D with
 | ld=>exact (tT n).1
 | pr h=>show 1<=(cg h n).length;rw[o9];split<;>omega
 | sh f ns ms =>
  obtain⟨r,g',e,_,hr⟩:=A4 pg d;rw[A3 e];rcases hr with ⟨b,rfl,_⟩|⟨c,rfl,_⟩
  ·show 1<=1;decide
  ·show 1<=2;decide
 | tb f es =>
  obtain⟨e,j,_,i⟩:=qe d;have a:aY (.tb f es) g n=(e.2,g):=by
   show (Option.map _ _).getD _=_;rw[i];rfl
  rw[a];exact (Es.sg tn e j).2.1
 | br=>exact d.elim
def Q9{D:Kt}{g n:Int}{m:Nat}(hm:m<(aY D g n).1.length):sS D (m+1)\/(∃h,D=.pr h)/\(m+1)%2=1/\m+1<(aY D g n).1.length:=by
 cases D with
 | pr h =>
  rcases Yy (m+1) with z|z
  ·exact .inl z
  ·refine .inr ⟨⟨h,Z⟩,z,?_⟩;have hm:m<(cg h n).length:=hm;show m+1<(cg h n).length;have:=o9 h n
   split at this<;>omega
 | _=>exact .inl trivial
def Aj(x y:Addr)(H a:Hp):Prop:=∀b u,b≠x->b≠y->H b=some u->a b=some u
def Hs(t:Adr):Sp:=λvs H Q _=>∃(d:Hp) (x dx o b mt:Addr) (D:Kt) (n g c a pl:Int) (m:Nat),vs=[.ref x,.int a]/\TN t d o D/\ah d H/\d x=none/\d b=none/\H x=some (dG t dx o b mt pl g c false)/\dI D g/\bo D n/\H b=some (.lst (((aY D g n).1.take m).map V.int))/\(aY D g n).1[m]? = some a /\
 (m+1<(aY D g n).1.length->∀q H',Aj x b H H'->H q=none->H' x=some (dG t dx o b mt pl g (c+1) false)->H' b=some (.lst (((aY D g n).1.take (m+1)).map V.int))->H' q=some (.lst [])->Q (.ref q) H') /\
 (m+1=(aY D g n).1.length->∀q b' H',Aj x b H H'->H q=none->H b'=none->q≠b'->H' x=some (dG t dx o b' mt pl (aY D g n).2 (c+1) false)->H' b'=some (.lst [])->H' q=some (.lst [.int n])->Q (.ref q) H')
def DJ (T:Txt w K mg t):cy P w K mg base t.bP "take" 9 t.rY t.wy ["self", "byte"] (Hs t):=by
 refine⟨T.bq,T.MV,T.TH,T.UG.okQ JA (λvs H Q E h=>by obtain⟨Hb,x,dx,o,b,mt,D,n,g,c,C,pl,m,rfl,_⟩:=h;rfl) λ_ _ _ _ H vs Q E hr h=>?_⟩;obtain⟨Hb,x,dx,o,b,mt,D,n,g,c,C,pl,m,rfl,tn,sb,fx,fb,hx,pg,hn,hb,N,km,ks⟩:=h;have hu:=hr.units;have hm:m<(aY D g n).1.length:=(V8.mp N).1;have l6:(aY D g n).1.length<=6:=by obtain⟨r,g',_,e,_,l⟩:=jr tn.ok pg hn;rw[e];exact l
 have M:b≠x:=aZ hb hx (by intro z;cases z);refine⟨_,(ai (bE (cq (K:=K) Z Wp WB WC dO (aU (K:=K) Z (aa 0)) (ad (aa 1) ae)))
  (ai (B4 (K:=K) rfl (aa 0) aj)
  (ai (aQ (aJ (fu (K:=K) rfl hu) (aO uO (bp (VS K) T.n_len Wj (ad (aU (K:=K) rfl (aa 0)) ae)) (bW (di (OV T) hr (aU (K:=K) rfl (aa 0))) (bW (di (Pk T) hr (aU (K:=K) rfl (aa 0))) (bW (di (Pd T) hr (aU (K:=K) rfl (aa 0))) (bW (di (O3 T) hr (aU (K:=K) rfl (aa 0))) (di (OZ T) hr (aU (K:=K) rfl (aa 0)))))))) aj (aM _)) (ak (aq (aT ae))) aR)
  (ak (aq (di (O8 T) hr (aa 0))))))),?_⟩
 refine⟨x,_,dx,_,_,Z,hx,T.bq,T.gU,Z,?_⟩;refine⟨.inl ⟨rfl,_,.of hb⟩,?_⟩;refine⟨_,hb,cZ (by rw[V4,Wa];omega),?_⟩;obtain⟨G,R⟩:∃G,G=upd H b (.lst (((aY D g n).1.take m).map V.int++[.int C])):=⟨_,rfl⟩;rw[<- R];have W:G b=some (.lst (((aY D g n).1.take (m+1)).map V.int)):=by rw[R,az,db N,Wm];rfl
 have J:G x=some (dG t dx o b mt pl g c false):=by rw[R,ap M.symm];exact hx
 refine⟨x,_,dx,_,_,rfl,J,T.bq,T.Cz,rfl,_,_,rfl,rfl,dx,_,J,V6 (Wn 7) (by decide),?_⟩;obtain⟨v,O⟩:∃v,v=upd G x (dG t dx o b mt pl g (c+1) false):=⟨_,rfl⟩;have Y:upd G x (.ins t.bP dx (bX "many" (.int (c+1)) [("tongue",.ref o),("place",.int pl),("at_page",.int g),("begun",.ref b),("many",.int c),("met",.ref mt),("ended",.bl false)]))=v:=by rw[O];rfl
 rw[Y];have d:v x=some (dG t dx o b mt pl g (c+1) false):=by rw[O];exact az
 have i:v b=some (.lst (((aY D g n).1.take (m+1)).map V.int)):=by rw[O,ap M];exact W
 have a4:ah Hb v:=by rw[O,R];exact (sb.put fb).put fx
 have k2:Aj x b H v:=λa u B nb e=>by rw[O,ap B,R,ap nb];exact e
 have j:=tn.mono a4;have a6:((aY D g n).1.take (m+1)).length=m+1:=by rw[Wa];omega
 have s:∀q,v q=none->H q=none:=λq k=>by
  cases e:H q with
  | none=>rfl
  | some u =>
   have:=k2 q u (λz=>by rw[z,d]at k;cases k) (λz=>by rw[z,i]at k;cases k) e;rw[k]at this;cases this
 dsimp only;refine jv (λσ' H'=>H'=v/\sS D (m+1)/\σ'=[some (.ref x),some (.int C)]) (λnx p=>?_) ?_
 ·refine⟨x,_,dx,_,_,Z,d,T.bq,T.gU,Z,?_⟩;refine⟨_,.inl (.of i),?_⟩;rw[V4,a6];cases D with
  | br=>exact hn.elim
  | ld =>
   obtain⟨F,ho⟩:=id j;refine .inr (.inl ⟨x,_,dx,_,_,Z,d,T.bq,T.gT,Z,o,F,_,Z,ho,Z,_,Z,Ya,?_⟩);exact aw (λz=>YC z (by simp)) (λ_=>p _ _ ⟨rfl,trivial,rfl⟩)
  | pr h =>
   obtain⟨F,ho⟩:=id j;refine .inr (.inr (.inl ⟨x,_,dx,_,_,rfl,d,T.bq,T.gT,rfl,o,F,_,rfl,ho,rfl,_,rfl,(show (0:Int)<2 by decide),?_⟩));refine aw (λz=>?_) (λz=>?_)
   ·rcases Q9 hm with S|⟨_,_,lt⟩
    ·have S:(m+1)%2=0:=S;have z:(!decide ((((m+1:Nat):Int))%2=0))=true:=z;rw[YE (by omega)]at z;cases z
    ·exact⟨sz Z,λq I L=>km lt q I (λa u B nb e=>L.sm _ _ (k2 a u B nb e)) (s q L.nw) (L.sm _ _ d) (L.sm _ _ i) L.at_⟩
   ·refine p _ _ ⟨rfl,?_,rfl⟩;have z:¬(!decide ((((m+1:Nat):Int))%2=0))=true:=z;show (m+1)%2=0;rcases Yy (m+1) with y|y
    ·exact y
    ·exact YC (by rw[YF (by omega)];rfl) z
  | sh f ns ms =>
   refine .inr (.inr (.inr (.inl ⟨x,_,dx,_,_,Z,d,T.bq,T.gT,Z,o,f.dx,_,Z,Tg.o j,Z,_,Z,Ya,?_⟩)));exact aw (λz=>YC z (by simp)) (λ_=>p _ _ ⟨rfl,trivial,rfl⟩)
  | tb f es =>
   refine .inr (.inr (.inr (.inr ⟨x,_,dx,_,_,Z,d,T.bq,T.gT,Z,o,f.dx,_,Z,j.1.o,Z,_,Z,Ya,?_⟩)));exact aw (λz=>YC z (by simp)) (λ_=>p _ _ ⟨rfl,trivial,rfl⟩)
 ·rintro σ' H' ⟨rfl,S,rfl⟩;refine⟨x,dx,_,rfl,d,rfl,x,dx,o,b,mt,D,n,g,c+1,pl,m+1,rfl,d,j,pg,hn,i,by omega,by omega,S,λlt q I s3 k hq=>?_,λeq q b' I k3 k U ne a5 a1 a7=>?_⟩
  ·exact km lt q I (λa u B nb e=>s3 _ _ (k2 a u B nb e)) (s q k) (s3 _ _ d) (s3 _ _ i) hq
  ·exact ks eq q b' I (λa u B nb e=>k3 _ _ B (k2 a u B nb e)) (s q k) (s b' U) ne a5 a1 a7
def BP{D:Kt}{ts:g0}{k:Nat}{n:Int}(h:ts[k]? = some n):rk D ts k=(aY D (al D 0 (ts.take k)).2 n).1:=by unfold rk;rw[WO,h];rfl
def iW(D:Kt):dI D 0:=by
 cases D with
 | sh f ns ms=>exact .inl rfl
 | _=>exact rfl
def BO{D:Kt}{ts:g0}(tn:ie D)(hin:∀n∈ts,bo D n){k:Nat}(a:k<ts.length):0<(rk D ts k).length:=by
 have e:=WG a;rw[BP e];exact G5 tn (iI tn (iW D) k ts (yO hin k)).1 (hin _ (Wo e))
def Ar{D:Kt}{ts:g0}{j:Nat}(h:j<ts.length):(al D 0 (ts.take (j+1))).1.length=(al D 0 (ts.take j)).1.length+(rk D ts j).length:=by
 rw[oj (WG h)];simp
theorem As{D:Kt}{ts:g0}{j:Nat}:∀k,j<=k->k<=ts.length->(al D 0 (ts.take j)).1.length<=(al D 0 (ts.take k)).1.length
 | 0,h,_=>by
  obtain rfl:j=0:=by omega
  exact V5 _
 | k+1,h,hk=>by
  by_cases e:j=k+1
  ·rw[e];exact V5 _
  ·have:=As (D:=D) (ts:=ts) (j:=j) k (by omega) (by omega);rw[Ar (by omega)];omega
def c9(D:Kt)(ts:g0)(N k m:Nat):Prop:=k<=ts.length/\(al D 0 ts).1.take N=(al D 0 (ts.take k)).1++(rk D ts k).take m/\N<=(al D 0 ts).1.length/\(k=ts.length->m=0)/\(k<ts.length->m<(rk D ts k).length)
def c9.len{D:Kt}{ts:g0}{N k m:Nat}(h:c9 D ts N k m):N=(al D 0 (ts.take k)).1.length+m:=by
 obtain⟨c,e,hN,a,b⟩:=h;have l:=congrArg List.length e;rw[Wa,Wb,Wa]at l;rcases Xv k ts.length with z|z
 ·have:=b z;omega
 ·have:=a (by omega);omega
def c9.uniq{D:Kt}{ts:g0}{N k m k' m':Nat}(h:c9 D ts N k m)(h':c9 D ts N k' m'):k=k'/\m=m':=by
 have f:∀ {k m k' m':Nat},c9 D ts N k m->c9 D ts N k' m'->¬k<k':=λ{k m k' m'} h h' lt=>by
  have a:=h.len;have b:=h'.len;have g:k<ts.length:=V6 lt h'.1;have c:=h.2.2.2.2 g;have d:=As (D:=D) (ts:=ts) (j:=k+1) k' lt h'.1;rw[Ar g]at d;omega
 have e:k=k':=by
  have:=f h h';have:=f h' h;omega
 subst e;refine⟨rfl,?_⟩;have:=h.len;have:=h'.len;omega
def c9.zero{D:Kt}{ts:g0}(pos:∀j,j<ts.length->0<(rk D ts j).length):c9 D ts 0 0 0:=⟨Wu _,rfl,Wu _,(λ_=>rfl),pos 0⟩
def c9.step{D:Kt}{ts:g0}{N k m:Nat}{b:Int}(h:c9 D ts N k m)(pos:∀j,j<ts.length->0<(rk D ts j).length)(hb:(al D 0 ts).1[N]? = some b):∃n,ts[k]? = some n/\(rk D ts k)[m]? = some b/\(m+1<(rk D ts k).length->c9 D ts (N+1) k (m+1))/\(m+1=(rk D ts k).length->c9 D ts (N+1) (k+1) 0):=by
 have hl:=h.len;obtain⟨r,g,hN,o,f⟩:=h;have q:N<(al D 0 ts).1.length:=(V8.mp hb).1;have c:k<ts.length:=by
  rcases Xv k ts.length with z|z
  ·exact z
  ·have e:k=ts.length:=by omega
   rw[o e,e,Wg]at hl;omega
 have hm:=f c;obtain⟨n,p⟩:∃n,ts[k]? = some n:=⟨_,WG c⟩;obtain⟨bB,i⟩:=Gg (D:=D) p;have l:=oj (D:=D) p;have d:(rk D ts k)[m]? = some b:=by
  rw[i,hl,WV,W5 (by omega),XD,W6 hm]at hb;exact hb
 have a:(al D 0 ts).1.take (N+1)=(al D 0 (ts.take k)).1++(rk D ts k).take (m+1):=by rw[db hb,g,db d,WV]
 refine⟨n,p,d,λlt=>⟨r,a,q,by omega,λ_=>lt⟩,λeq=>⟨c,?_,q,(λ_=>rfl),pos (k+1)⟩⟩;rw[a,eq,Wg,l];simp
def Rd(t:Adr)(H:Hp)(x dx o b mt:Addr)(pl:Int)(D:Kt)(ts:g0)(N k m:Nat):Prop:=H x=some (dG t dx o b mt pl (al D 0 (ts.take k)).2 (N:Int) false)/\H b=some (.lst (((rk D ts k).take m).map V.int))
def Ij(K:PySem.W.Frag)(t:Adr):Sp:=λvs H Q _=>(∃(d:Hp) (x dx o b mt a:Addr) (D:Kt) (ts e:g0) (pl:Int) (N k m:Nat),vs=[.ref x,.ref a]/\TN t d o D/\ah d H/\d x=none/\d b=none/\(∀n∈ts,bo D n)/\ts.length<=1000/\aI K d a (e.map V.int)/\(∀i,i<e.length->e[i]? = (al D 0 ts).1[N+i]?)/\Rd t H x dx o b mt pl D ts N k m/\c9 D ts N k m /\
 ∀(q b':Addr) (k' m':Nat) H',ah d H'->H q=none->d b'=none->q≠b'->Rd t H' x dx o b' mt pl D ts (N+e.length) k' m'->H' q=some (.lst (((ts.take k').drop k).map V.int))->k<=k'->c9 D ts (N+e.length) k' m'->Q (.ref q) H') \/
 (∃(x dx o b mt a:Addr) (pl g c:Int),vs=[.ref x,.ref a]/\H x=some (dG t dx o b mt pl g c true)/\∀q H',bi H q (.lst []) H'->Q (.ref q) H')
def O9 (T:Txt w K mg t):cy P w K mg base t.bP "feed" 10 t.sf t.wC ["self", "row"] (Ij K t):=by
 refine⟨T.bq,T.MZ,T.TM,T.UL.okQ mq (λvs H Q E h=>by rcases h with ⟨Hb,x,dx,o,b,mt,a,D,ts,ws,pl,N,k,m,rfl,_⟩|⟨x,dx,o,b,mt,a,pl,g,c,rfl,_⟩<;>rfl) λ_ _ _ _ H vs Q E hr h=>?_⟩;have hu:=hr.units;rcases h with ⟨Hb,x,dx,o,b0,mt,a,D,ts,ws,pl,N,k0,m0,rfl,tn,sb,fx,fb0,hin,hl,ha,hws,⟨hx,hb0⟩,st0,k⟩|⟨x,dx,o,b,mt,a,pl,g,c,rfl,hx,k⟩
 ·refine⟨_,(ai (aF (i:=2) mq.nd Z (.inl Z) (aT ae))
   (ai (aQ (fg (K:=K) rfl (aU (K:=K) rfl (aa 0))) (ak (aq (aa 2))) aR)
   (ai (cm PassesOwn.never rfl (cO (K:=K) rfl (aa 1)) (bb (i:=3) mq.nd rfl (.inl rfl)) (ai (bE (cq (K:=K) rfl Wp WM WN (VW K) (aa 2) (ad (c6 (DJ T) hr (aa 0) (ad (aa 3) ae)) ae)))
   (ak (aQ (fg (K:=K) rfl (aU (K:=K) rfl (aa 0))) (ak BV) aR))))
   (ak (aq (aa 2)))))),?_⟩
  have pos:∀j,j<ts.length->0<(rk D ts j).length:=λj hj=>BO tn.ok hin hj;refine⟨sz Z,λq H1 p=>?_⟩;have s1:=sb.trans p.sm;have fq:Hb q=none:=sb.free p.nw;have S:=p.sm _ _ hx;refine⟨x,_,dx,_,_,Z,S,T.bq,T.iY,Z,?_⟩;refine⟨a,Z,⟨_,s1.seq ha⟩,fP (K:=K) (a:=a) (xs:=ws.map V.int) (λi σ H'=>ah Hb H'/\∃(j m:Nat) (b:Addr) (v3:Option V),Hb b=none/\q≠b/\Rd t H' x dx o b mt pl D ts (N+i) j m/\H' q=some (.lst (((ts.take j).drop k0).map V.int))/\k0<=j/\c9 D ts (N+i) j m/\σ=[some (.ref x),some (.ref a),some (.ref q),v3])
   ⟨s1,k0,m0,b0,_,fb0,(au hb0 p.nw).symm,⟨S,p.sm _ _ hb0⟩,by rw[XW (by rw[Wa];omega)];exact p.at_,V5 _,st0,Z⟩ (λi σ H' _ z=>z.1.seq ha) ?_ ?_⟩
  ·rintro i v σ H3 hv ⟨M,j,m,b,v3,fb,f,⟨L,af⟩,d,F,st,rfl⟩;obtain⟨a6,G,rfl⟩:=dD hv;have a4:i<ws.length:=(V8.mp G).1;rw[hws i a4]at G;obtain⟨n,U,a2,a3,ag⟩:=st.step pos G;have aw:j<ts.length:=(V8.mp U).1;have W:=hin n (Wo U);have a7:=(iI tn.ok (iW D) j ts (yO hin j)).1;have a5:=oj (D:=D) U;have s:=BP (D:=D) U;have y:q≠x:=aZ d L (by intro z;cases z);have ar:((ts.take j).drop k0).length<=1000:=by rw[Xn,Wa];omega
   refine⟨.inl ⟨rfl,_,.of d⟩,?_⟩;refine⟨x,dx,_,rfl,L,rfl,Hb,x,dx,o,b,mt,D,n,_,_,a6,pl,m,rfl,tn,M,fx,fb,L,a7,W,by rw[<- s];exact af,by rw[<- s];exact a2,λlt q2 O k4 a8 J r C=>?_,λeq q2 b2 O k4 a8 Y ne J r C=>?_⟩
   ·rw[<- s]at lt r;have I:=k4 _ _ y f d;have s4:ah Hb O:=λa u e=>k4 a u (au e fx) (au e fb) (M a u e);refine⟨_,_,I,C,bA (by rw[V4];show _+0<=_;omega),?_⟩;have l:upd O q (.lst (((ts.take j).drop k0).map V.int++[])) x=some (dG t dx o b mt pl (al D 0 (ts.take j)).2 ((N+i+1:Nat):Int) false):=by rw[ap y.symm,Xx];exact J
    refine⟨x,_,dx,_,_,Z,l,T.bq,T.iY,Z,?_⟩;exact⟨s4.put fq,j,m+1,b,_,fb,f,⟨l,by rw[ap f.symm];exact r⟩,by rw[az,Wv],F,a3 lt,rfl⟩
   ·rw[<- s]at eq;have I:=k4 _ _ y f d;have s4:ah Hb O:=λa u e=>k4 a u (au e fx) (au e fb) (M a u e);have B:q≠b2:=au d Y;refine⟨_,_,I,C,bA (by rw[V4];show _+1<=_;rw[Xn,Wa];omega),?_⟩;have ex:(al D 0 (ts.take (j+1))).2=(aY D (al D 0 (ts.take j)).2 n).2:=by rw[a5]
    have l:upd O q (.lst (((ts.take j).drop k0).map V.int++[.int n])) x=some (dG t dx o b2 mt pl (al D 0 (ts.take (j+1))).2 ((N+i+1:Nat):Int) false):=by rw[ap y.symm,ex,Xx];exact J
    refine⟨x,_,dx,_,_,Z,l,T.bq,T.iY,Z,?_⟩;exact⟨s4.put fq,j+1,0,b2,_,M.free Y,B,⟨l,by rw[ap B.symm];exact r⟩,by rw[az,db U,List.drop_append_of_le_length (by rw[Wa];omega),Wm];rfl,by omega,ag eq,rfl⟩
  ·rintro σ H3 ⟨M,j,m,b,v3,fb,f,R,d,F,st,rfl⟩;rw[V4]at R st;exact k q b j m H3 M p.nw fb f R d F st
 ·refine⟨_,(ai (aF (i:=2) mq.nd Z (.inl Z) (aT ae))
   (ai (aQ (fg (K:=K) rfl (aU (K:=K) rfl (aa 0))) (ak (aq (aa 2))) aR)
   (ai (cm PassesOwn.never rfl (cO (K:=K) rfl (aa 1)) (bb (i:=3) mq.nd rfl (.inl rfl)) (ai (bE (cq (K:=K) rfl Wp WM WN (VW K) (aa 2) (ad (c6 (DJ T) hr (aa 0) (ad (aa 3) ae)) ae)))
   (ak (aQ (fg (K:=K) rfl (aU (K:=K) rfl (aa 0))) (ak BV) aR))))
   (ak (aq (aa 2)))))),?_⟩
  refine⟨sz Z,λq H1 p=>?_⟩;refine⟨x,_,dx,_,_,Z,p.sm _ _ hx,T.bq,T.iY,Z,?_⟩;exact k q H1 p
def dX{H:Hp}{x dx C:Addr}(hx:H x=none)(a:H dx=none):ah H (upd (upd H dx (.own x)) x (.ins C dx [])):=λb c q=>by rw[ap (au q hx),ap (au q a)];exact q
def Ip(t:Adr):Sp:=λvs H Q _=>∃(x dx o b mt:Addr) (pl g c:Int) (e:Bool),vs=[.ref x]/\H x=some (dG t dx o b mt pl g c e)/\H b=some (.lst [])/\∀p H',H p=none->Kp x H H'->H' x=some (dG t dx o b mt pl g c true)->H' p=some (.lst [])->Q (.ref p) H'
def Pb (T:Txt w K mg t):cy P w K mg base t.bP "end" 3 t.sj t.wE ["self"] (Ip t):=by
 refine⟨T.bq,T.M3,T.TR,T.UN.okQ BE (λvs H Q E h=>by obtain⟨x,dx,o,b,mt,pl,g,c,e,rfl,_⟩:=h;rfl) λ_ _ _ _ H vs Q E hr h=>?_⟩;obtain⟨x,dx,o,b,mt,pl,g,c,e,rfl,hx,hb,k⟩:=h;have f:=hr.units;refine⟨_,(ai (aQ (fg (K:=K) Z (aU (K:=K) Z (aa 0))) (ak (aq (aT ae))) aR)
  (ai (aF (i:=1) BE.nd rfl (.inl rfl) (gg (fg (K:=K) rfl (aU (K:=K) rfl (aa 0))) (c6 (O7 T) hr (aa 0) (ad (bp (VS K) T.n_len Wj (ad (aU (K:=K) rfl (aa 0)) ae)) (ad eM ae))) (aT ae)))
  (ai (ce (K:=K) rfl (aa 0) fO)
  (ak (aq (aa 1)))))),?_⟩
 refine⟨x,_,dx,_,_,Z,hx,T.bq,T.iY,Z,?_⟩;cases e with
 | true=>exact⟨sz rfl,λp d a=>k p d a.nw (Kp.of a.sm) (a.sm _ _ hx) a.at_⟩
 | false =>
  refine⟨x,_,dx,_,_,Z,hx,T.bq,T.gU,Z,_,.inl (.of hb),?_⟩;refine⟨sz Z,λp d a=>?_⟩;refine⟨x,_,dx,_,rfl,a.sm _ _ hx,T.bq,T.iY,V6 (Wn 7) (by decide),?_⟩;exact k p _ a.nw ((Kp.of a.sm).trans Kp.upd) (by rw[az];rfl) (by rw[ap (au hx a.nw).symm];exact a.at_)
def Ic(t:Adr):Sp:=λvs H Q _=>∃(x dx o b mt:Addr) (pl g c:Int) (e:Bool),vs=[.ref x]/\H x=some (dG t dx o b mt pl g c e)/\H mt=some (.lst [])/\∀p H',bi H p (.lst []) H'->Q (.ref p) H'
def Pa (T:Txt w K mg t):cy P w K mg base t.bP "faults" 1 t.si t.wD ["self"] (Ic t):=by
 refine⟨T.bq,T.M0,T.TQ,T.UM.okQ JE (λvs H Q E h=>by obtain⟨x,dx,o,b,mt,pl,g,c,e,rfl,_⟩:=h;rfl) λ_ _ _ _ H vs Q E hr h=>?_⟩;obtain⟨x,dx,o,b,mt,pl,g,c,e,rfl,hx,hm,k⟩:=h;refine⟨_,(ak (aq (dM (VV K) T.n_list WJ (ad (aU (K:=K) Z (aa 0)) ae)))),?_⟩;refine⟨x,_,dx,_,_,Z,hx,T.bq,T.Cw,Z,?_⟩;exact⟨_,.inl (.of hm),k⟩
def G7{b a:g0}{g n:Int}(h:n∉b)(k:n∉a):dv b a g (.int n)=none:=by
 unfold dv;dsimp only;rw[fo.mpr h];dsimp only;rw[fo.mpr k]
def tY{D:Kt}{n:Int}(h:dL D n):¬bo D n:=λk=>by
 cases D with
 | ld=>exact h
 | pr b=>exact h
 | sh f ns ms=>exact k.elim h.1 h.2
 | tb f es=>obtain⟨e,a,en⟩:=k;exact h e a en
 | br=>exact k
def tH{v:TE}{x:TA}{σ:St}{o:Addr}{g n:Int}{H:Hp}{D:Kt}{Q:VK}{Es:St->XK}(tn:TN t H o D)(pg:dI D g)(I:bo D n\/dL D n)(y:∀R:VK,R (.ref o) H->v σ H R)(B:∀R:List V->Hp->Prop,R [.int n,.int g] H->x σ H R)
 (k1:bo D n->∀pf q d,ah H d->d q=some (.lst ((aY D g n).1.map V.int))->d pf=some (.tup [.ref q,.int (aY D g n).2])->Q (.ref pf) d)
 (k2:dL D n->∀e d0 i,ah H i->i e=some (XO e t.bc (some d0))->Es σ (.ref t.bc) (some e) i) :
 eZ t.df "spell" (oH t) [] Es v x σ H Q\/eZ t.dg "spell" (oJ K t.bc) [] Es v x σ H Q\/eZ t.cb "spell" (oI K t) [] Es v x σ H Q\/eZ t.bC "spell" (oF K t) [] Es v x σ H Q\/eZ t.bK "spell" (oG K t) [] Es v x σ H Q:=by
 have G:bo D n->∃r g',oE D g n=some (r,g')/\aY D g n=(r,g'):=λh=>by obtain⟨r,g',a,b,_⟩:=jr tn.ok pg h;exact⟨r,g',a,b⟩
 cases D with
 | br =>
  obtain⟨dx,F⟩:=id tn;exact .inl (y _ ⟨o,dx,_,Z,F,Z,B _ ⟨o,n,g,Z,λe d0 i s C _=>k2 trivial e d0 i s C⟩⟩)
 | ld =>
  obtain⟨dx,F⟩:=id tn;obtain rfl:g=0:=pg;have hs:Sg n:=I.elim id False.elim;refine .inr (.inl (y _ ⟨o,dx,_,Z,F,Z,B _ ⟨o,.int n,Z,.int n,λm N _ p q d _ k j l=>?_,λhb=>?_⟩⟩))
  ·cases N;exact k1 hs p q d k j l
  ·rw[(fJ n).mpr hs]at hb;cases hb
 | pr b =>
  obtain⟨dx,F⟩:=id tn;obtain rfl:g=0:=pg;have hs:Sg n:=I.elim id False.elim;refine .inr (.inr (.inl (y _ ⟨o,dx,_,Z,F,Z,B _ ⟨o,b,.int n,Z,tn,.int n,λm N _ p q d _ k j l=>?_,λhb=>?_⟩⟩)))
  ·cases N;exact k1 hs p q d k j l
  ·rw[(fJ n).mpr hs]at hb;cases hb
 | sh f ns ms =>
  refine .inr (.inr (.inr (.inl (y _ ⟨o,f.dx,_,Z,Tg.o tn,Z,B _ ⟨o,f,ns,ms,.int n,g,Z,pg,tn,.int n,λr g' hs p q d k _ j l=>?_,λO e d0 i s C _=>?_⟩⟩))))
  ·rcases I with c|c
   ·obtain⟨J,u,a,b⟩:=G c;have a:dv (aD g ns ms) (aD g ms ns) g (.int n)=some (J,u):=a;rw[hs]at a;cases a;exact k1 c p q d k (by rw[b];exact j) (by rw[b];exact l)
   ·rw[G7]at hs
    ·cases hs
    ·unfold aD;split
     ·exact c.1
     ·exact c.2
    ·unfold aD;split
     ·exact c.2
     ·exact c.1
  ·rcases I with c|c
   ·obtain⟨J,u,a,b⟩:=G c;have a:dv (aD g ns ms) (aD g ms ns) g (.int n)=some (J,u):=a;rw[O]at a;cases a
   ·exact k2 c e d0 i s C
 | tb f es =>
  refine .inr (.inr (.inr (.inr (y _ ⟨o,f.dx,_,Z,tn.1.o,Z,B _ ⟨o,f,es,n,g,Z,tn.1,tn.2,λe U en p q d k _ j l=>?_,λO e d0 i s C _=>k2 O e d0 i s C⟩⟩))));have c:bo (.tb f es) n:=⟨e,U,en⟩;obtain⟨Y,S,L,M⟩:=qe c;have W:Y=e:=by
   rcases tn.2.two S U with z|z
   ·exact z
   ·unfold eR at z;rw[YE (L.trans en.symm)]at z;cases z
  have b:aY (.tb f es) g n=(e.2,g):=by
   show (Option.map _ _).getD _=_;rw[M,W];rfl
  exact k1 c p q d k (by rw[b];exact j) (by rw[b];exact l)
def Se(t:Adr)(H:Hp)(x o:Addr):Prop:=∃dx,H x=some (.ins t.eG dx [("tongue",.ref o)])
def HX(t:Adr):Sp:=λvs H Q _=>∃(x dx o:Addr),vs=[.ref x,.ref o]/\H x=some (.ins t.eG dx [])/\∀H',Kp x H H'->H' x=some (.ins t.eG dx [("tongue",.ref o)])->Q .non H'
def Oh (T:Txt w K mg t):ij P w K mg base "SeenSpeller" t.eG 1 t.zV t.ww ["self", "tongue"] [] (HX t):=by
 refine⟨T.PC,T.Nl,⟨[],T.TF,.nil⟩,T.UF.okQ Jz (λvs H Q E h=>by obtain⟨x,dx,o,rfl,_⟩:=h;rfl) λ_ _ _ _ H vs Q E hr h=>?_⟩;obtain⟨x,dx,o,rfl,hx,k⟩:=h;refine⟨_,(ak (ce (K:=K) Z (aa 0) (aa 1))),?_⟩;refine⟨x,_,dx,_,rfl,hx,T.yb,T.Cv,V6 Xf (by decide),?_⟩;exact k _ Kp.upd (by rw[az];rfl)
def Ba(t:Adr):Sp:=λvs H Q E=>∃(x o:Addr) (D:Kt) (n g:Int),vs=[.ref x,.int n,.int g]/\Se t H x o/\TN t H o D/\dI D g/\Sg n/\(bo D n\/dL D n) /\
 (bo D n->∀pf q H4,ah H H4->H4 q=some (.lst ((aY D g n).1.map V.int))->H4 pf=some (.tup [.ref q,.int (aY D g n).2])->Q (.ref pf) H4) /\
 (dL D n->∀e d0 H',ah H H'->H' e=some (XO e t.bc (some d0))->E (.ref t.bc) (some e) H')
def Oe (T:Txt w K mg t):iH P w K mg base t.eG "spell" 5 t.zU t.wv ["self", "sign", "page"] [] (Ba t):=by
 refine⟨T.yb,T.MU,⟨_,T.TD,.nil⟩,T.UE.okX Jy (λvs H Q E h=>by obtain⟨x,o,D,n,g,rfl,_⟩:=h;rfl) λ_ _ _ _ H vs Q E hr h=>?_⟩;obtain⟨x,o,D,n,g,rfl,⟨dx,hx⟩,tn,pg,sg,a,k1,k2⟩:=h;have b:=hr.units;refine⟨_,(ai (aQ (cV (aE (DA T) hr (ad (aa 1) ae))) (ak (aq (bJ (ad (aT (ad (aO c7 (aa 1) (bQ T.EF)) ae)) (ad (aa 2) ae))))) aR)
  (ak (aq (bW (dA (uy T) hr fj (aU (K:=K) rfl (aa 0)) (ad (aa 1) (ad (aa 2) ae))) (bW (dA (uC T) hr fj (aU (K:=K) rfl (aa 0)) (ad (aa 1) (ad (aa 2) ae))) (bW (dA (uB T) hr fj (aU (K:=K) rfl (aa 0)) (ad (aa 1) (ad (aa 2) ae))) (bW (dA (uA T) hr fj (aU (K:=K) rfl (aa 0)) (ad (aa 1) (ad (aa 2) ae))) (dA (uz T) hr fj (aU (K:=K) rfl (aa 0)) (ad (aa 1) (ad (aa 2) ae)))))))))),?_⟩
 refine⟨_,Z,.int n,?_⟩;refine aw (λz=>?_) (λ_=>?_)
 ·have z:(decide (61184<=n) && decide (n<=61439))=true:=z;rw[Wy]at z;exact YC ⟨YD z.1,YD z.2⟩ sg.2.2.2
 exact tH (K:=K) tn pg a (λR h=>⟨x,_,dx,_,_,Z,hx,T.yb,T.Cv,Z,h⟩) (λR h=>h) k1 k2
def jf(t:Adr)(H:Hp)(x:Addr)(D:Kt):Prop:=TN t H x D\/∃o,Se t H x o/\TN t H o D
def Se.mono{H a:Hp}{x o:Addr}(h:Se t H x o)(s:ah H a):Se t a x o:=by obtain⟨dx,h⟩:=h;exact⟨dx,s _ _ h⟩
def jf.mono{H c:Hp}{x:Addr}{D:Kt}(h:jf t H x D)(s:ah H c):jf t c x D:=h.elim (λh=>.inl (h.mono s)) λ⟨o,a,b⟩=>.inr ⟨o,a.mono s,b.mono s⟩
def jf.ok{H:Hp}{x:Addr}{D:Kt}(h:jf t H x D):ie D:=h.elim (λh=>h.ok) λ⟨_,_,b⟩=>b.ok
def G6{a:TE}{b:TA}{σ:St}{o:Addr}{g n:Int}{H:Hp}{D:Kt}{Q:VK}{Es:St->XK}(tn:jf t H o D)(pg:dI D g)(sg:Sg n)(f:bo D n\/dL D n)(c:∀R:VK,R (.ref o) H->a σ H R)(d:∀R:List V->Hp->Prop,R [.int n,.int g] H->b σ H R)
 (k1:bo D n->∀pf q H4,ah H H4->H4 q=some (.lst ((aY D g n).1.map V.int))->H4 pf=some (.tup [.ref q,.int (aY D g n).2])->Q (.ref pf) H4)
 (k2:dL D n->∀e d0 H',ah H H'->H' e=some (XO e t.bc (some d0))->Es σ (.ref t.bc) (some e) H') :
 eZ t.eG "spell" (Ba t) [] Es a b σ H Q\/eZ t.df "spell" (oH t) [] Es a b σ H Q\/eZ t.dg "spell" (oJ K t.bc) [] Es a b σ H Q\/eZ t.cb "spell" (oI K t) [] Es a b σ H Q\/eZ t.bC "spell" (oF K t) [] Es a b σ H Q\/eZ t.bK "spell" (oG K t) [] Es a b σ H Q:=by
 rcases tn with tn|⟨oo,⟨dx,ho⟩,tn⟩
 ·exact .inr (tH tn pg f c d k1 k2)
 ·exact .inl (c _ ⟨o,dx,_,Z,ho,Z,d _ ⟨o,oo,D,n,g,Z,⟨dx,ho⟩,tn,pg,sg,f,k1,k2⟩⟩)
def Yn(D:Kt)(n:Int):Prop:=Sg n/\(bo D n\/dL D n)
def Hh(K:PySem.W.Frag)(t:Adr):Sp:=λvs H Q E=>∃(o a:Addr) (D:Kt) (ns:g0) (g:Int),vs=[.ref o,.ref a,.int g]/\jf t H o D/\dI D g/\aI K H a (ns.map V.int)/\ns.length<=1000/\(∀n∈ns,Yn D n) /\
 ((∀n∈ns,bo D n)->∀p q H',H q=none->ah H H'->H' q=some (.lst ((al D g ns).1.map V.int))->H' p=some (.tup [.ref q,.int (al D g ns).2])->Q (.ref p) H') /\
 ((∃n∈ns,dL D n)->∀e d0 c d1 H',ah H H'->H' e=some (XO e t.bc (some d0) (some c))->H' c=some (XO c t.bc (some d1))->E (.ref t.bc) (some e) H')
def Dm (T:Txt w K mg t):E6 P w K mg base "write_from" 6 t.rM t.qf ["tongue", "text", "page"] [] (Hh K t):=by
 refine⟨T.DQ,T.sR.kp,⟨_,T.EO,.nil⟩,T.sR.okX im (λvs H Q E h=>by obtain⟨o,a,D,ns,g,rfl,_⟩:=h;rfl) λ_ _ _ _ H vs Q E hr h=>?_⟩;obtain⟨o,a,D,ns,u,rfl,tn,U,ha,hl,a4,k1,k2⟩:=h;have hu:=hr.units;refine⟨_,(ai (aF (i:=3) im.nd Z (.inl Z) (aT ae))
  (ai (cm PassesOwn.leaving rfl (gO (K:=K) rfl rfl T.n_enumerate (ad (aa 1) ae)) (fN (K:=K) rfl rfl (cF (bb (i:=4) im.nd rfl (.inl rfl)) (cF (bb (i:=5) im.nd rfl (.inl rfl)) fM))) (ai (tU (K:=K) (Es:=λ_=>E) rfl ⟨rfl,rfl⟩ T.hZ (λe=>PassesOwnAt.leaving) fj (λpn W Eb L=>(ak (aF (i:=6) im.nd rfl (.inl rfl) (bW (dA (Oe T) hr L (aa 0) (ad (aa 5) (ad (aa 2) ae))) (bW (dA (uy T) hr L (aa 0) (ad (aa 5) (ad (aa 2) ae))) (bW (dA (uC T) hr L (aa 0) (ad (aa 5) (ad (aa 2) ae))) (bW (dA (uB T) hr L (aa 0) (ad (aa 5) (ad (aa 2) ae))) (bW (dA (uA T) hr L (aa 0) (ad (aa 5) (ad (aa 2) ae))) (dA (uz T) hr L (aa 0) (ad (aa 5) (ad (aa 2) ae))))))))))) (λeh LH=>(ak (Kh (Es:=λ_=>E) (Os T) (hr.hand _) rfl LH (ad (aa 5) (ad (aa 4) ae))))))
  (ai (bE (cq (K:=K) rfl Wp WM WN (VW K) (aa 3) (ad (aK (VT K) (aa 6) aj (λ_ _=>rfl)) ae)))
  (ak (aF (i:=2) im.nd rfl (.inl rfl) (aK (VT K) (aa 6) aj (λ_ _=>rfl)))))))
  (ak (aq (bJ (ad (aa 3) (ad (aa 2) ae))))))),?_⟩
 refine⟨sz Z,λF H1 G=>?_⟩;refine⟨a,_,Z,G.sm.seq ha,mU (K:=K) (a:=a) (xs:=ns.map V.int) (λi σ s=>(∀j m,j<i->ns[j]? = some m->bo D m)/\ah H s/\s F=some (.lst ((al D u (ns.take i)).1.map V.int))/\∃v4 Y N,σ=[some (.ref o),some (.ref a),some (.int (al D u (ns.take i)).2),some (.ref F),v4,Y,N]) ⟨(λj m h=>YC h (X9 _)),G.sm,G.at_,_,_,_,Z⟩ (λi σ s _ z=>z.2.1.seq ha) ?_ ?_⟩
 ·rintro i x p σ H2 S hx ⟨hin,s2,y,v4,Y,N,rfl⟩ k;obtain⟨n,l,rfl⟩:=dD hx;have hi:i<ns.length:=(V8.mp l).1;refine⟨p,_,Z,k.tup,Z,_,_,Z,_,_,Z,Z,?_⟩;have s3:=s2.trans k.sm;have a5:=tn.mono s3;obtain⟨I,li⟩:=iI tn.ok U i ns hin;obtain⟨sg,hc⟩:=a4 n (Wo l);have e:∀r g',aY D (al D u (ns.take i)).2 n=(r,g')->al D u (ns.take (i+1))=((al D u (ns.take i)).1++r,g'):=λr g' B=>by rw[db l,sY,B]
  generalize hg:(al D u (ns.take i)).2=g at *;refine⟨λσ' c oe s=>σ'=[some (.ref o),some (.ref a),some (.int g),some (.ref F),some (.int (i:Int)),some (.int n),N]/\c=.ref t.bc/\ah S s/\dL D n/\∃e d0,oe=some e/\s e=some (XO e t.bc (some d0)),?_,?_⟩
  ·refine G6 (K:=K) a5 I sg hc (λR h=>h) (λR h=>h) (λhI pf q H4 J hq v=>?_) (λhN e' d0 s s1 x1=>⟨rfl,rfl,s1,hN,e',d0,rfl,x1⟩);obtain⟨r,g',_,B,_,sl⟩:=jr tn.ok I hI;rw[B]at hq v;dsimp only at hq v;have O:=J _ _ (k.sm _ _ y);refine⟨.inl ⟨rfl,_,.of O⟩,?_⟩;refine⟨_,.ref q,.inr (.of v),aX (j:=0) Z,?_⟩;refine⟨_,_,O,hq,bA (by rw[V4,V4];omega),?_⟩;have a0:pf≠F:=λz=>by rw[z,O]at v;cases v
   refine⟨_,.int _,.inr (.of (by rw[ap a0];exact v)),aX (j:=1) Z,?_⟩;refine⟨λj m hj hm=>?_,(s3.trans J).put G.nw,?_,_,_,_,by rw[e r g' B];rfl⟩
   ·rcases Xv j i with z|z
    ·exact hin j m z hm
    ·obtain rfl:j=i:=by omega
     rw[l]at hm;cases hm;exact hI
   ·rw[az,e r g' B,Wm]
  ·rintro σ' C e' od qq H4 ⟨rfl,hC,J,no,aC,d0,he,d⟩ _;cases hC;cases he;refine⟨T.xm_NoSign_NoSign,?_⟩;refine⟨⟨_,_,d⟩,Wf rfl,λM f=>⟨M,_,rfl,rfl,az,λd2 H5 x2 y2 z2=>⟨rfl,M,some d2,_,_,rfl,x2,z2 _ _ (au d f) (by rw[ap (au d f)];exact d),?_⟩⟩⟩;have ne:d2≠M:=λz=>by rw[z,x2]at y2;cases y2
   refine k2 ⟨n,Wo l,no⟩ M d2 _ d0 _ (λb o q=>?_) az (by rw[ap (au d f)];exact z2 _ _ (au d f) (by rw[ap (au d f)];exact d));have q4:=J _ _ (s3 _ _ q);have nb:=au q4 f;rw[ap nb];exact z2 b o nb (by rw[ap nb];exact q4)
 ·rintro σ H2 ⟨hin,s2,y,v4,Y,N,rfl⟩;rw[V4]at hin y;rw[Wg]at y;rw[V4,Wg];have all:∀n∈ns,bo D n:=λn l=>by
   obtain⟨j,hj,e⟩:=List.getElem_of_mem l;exact hin j n hj (by rw[WG hj,e])
  exact⟨sz Z,λp3 S k=>k1 all p3 F S G.nw (s2.trans k.sm) (k.sm _ _ y) k.at_⟩
def Hf(K:PySem.W.Frag)(t:Adr):Sp:=λvs H Q _=>∃(o a:Addr) (D:Kt) (ns:g0),vs=[.ref o,.ref a]/\TN t H o D/\aI K H a (ns.map V.int)/\ns.length<=1000/\(∀n∈ns,Sg n/\bo D n)/\∀q H',H q=none->ah H H'->H' q=some (.lst ((al D 0 ns).1.map V.int))->Q (.ref q) H'
def mO (T:Txt w K mg t):bh P w K mg base "write" 7 t.zf t.vD ["tongue", "text"] (Hf K t):=by
 refine⟨T.Qa,T.FB.kp,T.SH,T.FB.okQ IQ (λvs H Q E h=>by obtain⟨o,a,D,ns,rfl,_⟩:=h;rfl) λ_ _ _ _ H vs Q E hr h=>?_⟩;obtain⟨o,a,D,ns,rfl,tn,d,hl,hin,k⟩:=h;have m:=hr.units;refine⟨_,(ak (aq (aK (VT K) (B6 (Dm T) hr uo (ad (aa 0) (ad (aa 1) (ad aj ae)))) aj (λ_ _=>rfl)))),?_⟩;refine⟨o,a,D,ns,0,rfl,.inl tn,iW D,d,hl,λn b=>⟨(hin n b).1,.inl (hin n b).2⟩,λ_ p q e c i l g=>?_,λ⟨n,b,f⟩=>YC (hin n b).2 (tY f)⟩;exact⟨_,_,.inr (.of g),aX (j:=0) Z,k q e c i l⟩
abbrev jd(t:Adr)(dx ss:Addr)(g:Int):HO:=.ins t.d8 dx [("tongue",.ref ss),("at_page",.int g)]
def HU(t:Adr):Sp:=λvs H Q _=>∃(x dx o:Addr),vs=[.ref x,.ref o]/\H x=some (.ins t.d8 dx [])/\∀H',Kp x H H'->H' x=some (jd t dx o 0)->Q .non H'
def On (T:Txt w K mg t):E8 P w K mg base 1 t.zG t.wf ["self", "tongue"] [] (HU t):=by
 refine⟨T.Ga.kp,⟨_,T.S8,.nil⟩,T.Ga.okQ Jh (λvs H Q E h=>by obtain⟨x,dx,o,rfl,_⟩:=h;rfl) λ_ _ _ _ H vs Q E hr h=>?_⟩;obtain⟨x,dx,o,rfl,hx,k⟩:=h;refine⟨_,(ai (ce (K:=K) Z (aa 0) (aa 1))
  (ak (ce (K:=K) rfl (aa 0) aj))),?_⟩
 refine⟨x,_,dx,_,rfl,hx,T.gz,T.ug,V6 Xf (by decide),?_⟩;refine⟨x,_,dx,_,rfl,az,T.gz,T.mF,V6 (Wn 1) (by decide),?_⟩;exact k _ (Kp.upd.trans Kp.upd) (by rw[az];rfl)
def HW(t:Adr):Sp:=λvs H Q _=>∃(x dx o:Addr),vs=[.ref x,.ref o]/\H x=some (.ins t.d8 dx [])/\∀s H',Kp x H H'->H s=none->H' x=some (jd t dx s 0)->Se t H' s o->Q .non H'
def Og (T:Txt w K mg t):ij P w K mg base "SeenWriter" t.d8 3 t.zT t.wu ["self", "tongue"] [] (HW t):=⟨T.PB,T.Nk,⟨[],T.TC,.nil⟩,by
 refine T.UD.okQ Jx (λvs H Q E h=>by obtain⟨x,dx,o,rfl,_⟩:=h;rfl) λ_ _ _ _ H vs Q E hr h=>?_;obtain⟨x,dx,o,rfl,hx,k⟩:=h;refine⟨_,(ak (bE (Ku (K:=K) Z T.Sc T.Pw (On T) hr (ad (aa 0) (ad (fh (Oh T) hr (ad (aa 1) ae)) ae))))),?_⟩;refine λs ds hs b i=>?_;have sm:=dX (C:=t.eG) hs b;refine⟨s,ds,o,rfl,az,λj k1 d=>⟨rfl,?_⟩⟩;have s1:ah H j:=λa u e=>k1 a u (au e hs) (sm a u e);have f:s≠x:=(au hx hs).symm;refine⟨x,dx,s,Z,s1 _ _ hx,λg k2 c=>?_⟩;exact k s g ((Kp.of s1).trans k2) hs c ⟨ds,k2 _ _ f d⟩⟩
def Il(K:PySem.W.Frag)(t:Adr):Sp:=λvs H Q E=>∃(x dx ss o a:Addr) (D:Kt) (ns:g0) (g:Int),vs=[.ref x,.ref a]/\H x=some (jd t dx ss g)/\Se t H ss o/\TN t H o D/\dI D g/\aI K H a (ns.map V.int)/\ns.length<=1000/\(∀n∈ns,Yn D n) /\
 ((∀n∈ns,bo D n)->∀q H',H q=none->Kp x H H'->H' x=some (jd t dx ss (al D g ns).2)->H' q=some (.lst ((al D g ns).1.map V.int))->Q (.ref q) H') /\
 ((∃n∈ns,dL D n)->∀e d0 c d1 H',ah H H'->H' e=some (XO e t.bc (some d0) (some c))->H' c=some (XO c t.bc (some d1))->E (.ref t.bc) (some e) H')
def Od (T:Txt w K mg t):iH P w K mg base t.d8 "feed" 7 t.rN t.qh ["self", "text"] [] (Il K t):=by
 refine⟨T.gz,T.mt_SeenWriter_feed,⟨_,T.EQ,.nil⟩,T.Gb.okX oQ (λvs H Q E h=>by obtain⟨x,dx,ss,o,a,D,ns,g,rfl,_⟩:=h;rfl) λ_ _ _ _ H vs Q E hr h=>?_⟩;obtain⟨x,dx,ss,o,a,D,ns,g,rfl,hx,m,tn,pg,k,hl,d,k1,k2⟩:=h;have n:=hr.units;refine⟨_,(ai (aF (i:=2) oQ.nd Z (.inl Z) (B6 (Dm T) hr fj (ad (aU (K:=K) Z (aa 0)) (ad (aa 1) (ad (aU (K:=K) Z (aa 0)) ae)))))
  (ai (ce (K:=K) rfl (aa 0) (aK (VT K) (aa 2) aj (λ_ _=>rfl)))
  (ak (aq (aK (VT K) (aa 2) aj (λ_ _=>rfl)))))),?_⟩
 refine⟨x,_,dx,_,_,Z,hx,T.gz,T.ug,Z,?_⟩;refine⟨x,_,dx,_,_,Z,hx,T.gz,T.mF,Z,?_⟩;refine⟨ss,a,D,ns,g,Z,.inr ⟨o,m,tn⟩,pg,k,hl,d,λall p q r f s1 e b=>?_,k2⟩;refine⟨_,_,.inr (.of b),aX (j:=1) Z,?_⟩;refine⟨x,_,dx,_,rfl,s1 _ _ hx,T.gz,T.mF,V6 (Wn 2) (by decide),?_⟩;have l:p≠x:=aZ b (s1 _ _ hx) (by intro z;cases z);have c:q≠x:=aZ e (s1 _ _ hx) (by intro z;cases z);refine⟨_,_,.inr (.of (by rw[ap l];exact b)),aX (j:=0) Z,?_⟩;exact k1 all q _ f ((Kp.of s1).trans Kp.upd) (by rw[az];rfl) (by rw[ap c];exact e)
def Hd(t:Adr)(H:Hp)(eh:Addr):Prop:=∃d0 c d1,H eh=some (XO eh t.bc (some d0) (some c))/\H c=some (XO c t.bc (some d1))
def Hg(K:PySem.W.Frag)(t:Adr)(eh:Addr):Sp:=λvs H Q _=>∃(o a:Addr) (g:Int),vs=[.ref o,.ref a,.int g]/\aI K H a []/\Hd t H eh/\∀p q H',H q=none->ah H H'->H' q=some (.lst [])->H' p=some (.tup [.ref q,.int g])->Q (.ref p) H'
def Pp {eh:Addr} (T:Txt w K mg t):Fa eh P w K mg base "write_from" 1 t.rM t.qf ["tongue", "text", "page"] (Hg K t eh):=by
 refine⟨T.DQ,T.sR.kp,T.EO,T.sR.okE im (λvs H Q E h=>by obtain⟨o,a,g,rfl,_⟩:=h;rfl) λf A outer s H vs Q E hA hr h=>?_⟩;obtain⟨o,a,g,rfl,e,⟨d0,c,d1,p,j⟩,k⟩:=h;refine⟨_,(ai (aF (i:=3) im.nd Z (.inl Z) (aT ae))
  (ai (Kw (K:=K) rfl PassesOwn.never rfl T.n_enumerate (ad (aa 1) ae))
  (ak (aq (bJ (ad (aa 3) (ad (aa 2) ae))))))),?_⟩
 refine⟨sz Z,λn q b=>?_⟩;refine⟨a,eh,_,_,c,_,_,Z,b.sm.seq e,hA,b.sm _ _ p,b.sm _ _ j,?_⟩;exact⟨sz Z,λl m d=>k l n m b.nw (b.sm.trans d.sm) (d.sm _ _ b.at_) d.at_⟩
def Ik(K:PySem.W.Frag)(t:Adr)(eh:Addr):Sp:=λvs H Q _=>∃(x dx ss a:Addr) (g:Int),vs=[.ref x,.ref a]/\H x=some (jd t dx ss g)/\aI K H a []/\Hd t H eh/\∀q H',H q=none->Kp x H H'->H' x=some (jd t dx ss g)->H' q=some (.lst [])->Q (.ref q) H'
def Of {eh:Addr} (T:Txt w K mg t):E7 eh P w K mg base t.d8 "feed" 2 t.rN t.qh ["self", "text"] (Ik K t eh):=by
 refine⟨T.gz,T.mt_SeenWriter_feed,T.EQ,T.Gb.okE oQ (λvs H Q E h=>by obtain⟨x,dx,ss,a,g,rfl,_⟩:=h;rfl) λl A outer s H vs Q E hA hr h=>?_⟩;obtain⟨x,dx,ss,a,g,rfl,hx,f,hd,k⟩:=h;refine⟨_,(ai (aF (i:=2) oQ.nd Z (.inl Z) (Kz (Pp T) hA hr (ad (aU (K:=K) Z (aa 0)) (ad (aa 1) (ad (aU (K:=K) Z (aa 0)) ae)))))
  (ai (ce (K:=K) rfl (aa 0) (aK (VT K) (aa 2) aj (λ_ _=>rfl)))
  (ak (aq (aK (VT K) (aa 2) aj (λ_ _=>rfl)))))),?_⟩
 refine⟨x,_,dx,_,_,Z,hx,T.gz,T.ug,Z,?_⟩;refine⟨x,_,dx,_,_,Z,hx,T.gz,T.mF,Z,?_⟩;refine⟨ss,a,g,Z,f,hd,λp q n e s1 d b=>?_⟩;refine⟨_,_,.inr (.of b),aX (j:=1) Z,?_⟩;refine⟨x,_,dx,_,rfl,s1 _ _ hx,T.gz,T.mF,V6 (Wn 2) (by decide),?_⟩;have m:p≠x:=aZ b (s1 _ _ hx) (by intro z;cases z);have c:q≠x:=aZ d (s1 _ _ hx) (by intro z;cases z);refine⟨_,_,.inr (.of (by rw[ap m];exact b)),aX (j:=0) Z,?_⟩;exact k q _ e ((Kp.of s1).trans Kp.upd) (by rw[az];rfl) (by rw[ap c];exact d)
structure Ta where
 x:Addr
 dx:Addr
 st:Addr
 r:Addr
 dr:Addr
 o:Addr
 mt:Addr
 w:Addr
 dw:Addr
 ss:Addr
 og:Addr
 lk:Addr
abbrev sF(t:Adr)(a:Ta)(k:Nat):HO:=.ins t.bO a.dx [("stead",.ref a.st),("reader",.ref a.r),("writer",.ref a.w),("many",.int (k:Int)),("lacking",.ref a.lk)]
structure Tw (t:Adr) (Hb H:Hp) (a:Ta) (G:Kt) (g:Int) (k:Nat) (ps:List Addr):Prop where
 tg:TN t Hb a.og G
 sb:ah Hb H
 fx:Hb a.x=none
 fw:Hb a.w=none
 fl:Hb a.lk=none
 hs:Se t Hb a.ss a.og
 hst:Hb a.st=some (.lst [])
 hx:H a.x=some (sF t a k)
 hw:H a.w=some (jd t a.dw a.ss g)
 hl:H a.lk=some (.lst (ps.map V.ref))
 pg:dI G g
def Tw.grow{b H c:Hp}{a:Ta}{G:Kt}{g:Int}{k:Nat}{ps:List Addr}(h:Tw t b H a G g k ps)(s:ah H c):Tw t b c a G g k ps:=⟨h.tg,h.sb.trans s,h.fx,h.fw,h.fl,h.hs,h.hst,s _ _ h.hx,s _ _ h.hw,s _ _ h.hl,h.pg⟩
def iw{H:Hp}{c x C d dx b:Addr}{fs a:List (Str × V)}(h:H c=some (.ins C dx fs))(k:H x=some (.ins d b a))(n:fs.length≠a.length):c≠x:=λz=>by
 rw[z,k]at h;have:=Wt h
 injection this with _ _ e
 exact n (by rw[e])
def Tw.nxw{b H:Hp}{a:Ta}{G:Kt}{g:Int}{k:Nat}{ps:List Addr}(h:Tw t b H a G g k ps):a.x≠a.w:=iw h.hx h.hw (by show (5:Nat)≠2;decide)
def dF(ps:List Addr)(H a:Hp):Prop:=∀p u,p∈ps->H p=some (.tup u)->a p=some (.tup u)
def dF.trans{ps:List Addr}{H b a:Hp}(h:dF ps H b)(h':dF ps b a):dF ps H a:=λp u m e=>h' p u m (h p u m e)
def dF.of{ps:List Addr}{H a:Hp}(h:ah H a):dF ps H a:=λp u _ e=>h p _ e
def wo(H:Hp)(X:List Addr):Hp:=λa=>if a∈X then none else H a
def dh{H:Hp}{X:List Addr}{a:Addr}(h:a∈X):wo H X a=none:=YB h
def dq{H:Hp}{X:List Addr}{a:Addr}{u:HO}(h:a∉X)(e:H a=some u):wo H X a=some u:=(YA h).trans e
def fY{H:Hp}{X:List Addr}:ah (wo H X) H:=λa u e=>by
 unfold wo at e
 split at e
 ·cases e
 ·exact e
def ah.wo{b H:Hp}{X:List Addr}(s:ah b H)(h:∀a∈X,b a=none):ah b (wo H X):=λa u e=>dq (λz=>by rw[h a z]at e;cases e) (s a u e)
def dU{H:Hp}{x y z a:Addr}{u:HO}(d:a≠x)(c:a≠y)(b:a≠z)(e:H a=some u):wo H [x,y,z] a=some u:=dq (by simp only [Wh,WK,or_false,not_or];exact⟨d,c,b⟩) e
def Ap{b H:Hp}{x y z:Addr}(s:ah b H)(d:b x=none)(e:b y=none)(f:b z=none):ah b (wo H [x,y,z]):=ah.wo s λa c=>by
 simp only [Wh,WK,or_false]at c;rcases c with rfl|rfl|rfl<;>assumption
def Tw.to{b H:Hp}{a:Ta}{G:Kt}{g:Int}{k:Nat}{ps:List Addr}(h:Tw t b H a G g k ps):ah b (wo H [a.x,a.w,a.lk]):=Ap h.sb h.fx h.fw h.fl
def Tw.side{b H:Hp}{a:Ta}{G:Kt}{g:Int}{k:Nat}{ps:List Addr}(h:Tw t b H a G g k ps):Tw t (wo H [a.x,a.w,a.lk]) H a G g k ps:=⟨h.tg.mono h.to,fY,dh (by simp),dh (by simp),dh (by simp),h.hs.mono h.to,h.to _ _ h.hst,h.hx,h.hw,h.hl,h.pg⟩
def Tw.back{d f H:Hp}{a:Ta}{G G0:Kt}{g j:Int}{k k0:Nat}{ps c:List Addr}{i:Hp}(h:Tw t f H a G g k ps)(b:Tw t d i a G0 j k0 c)(e:G=G0)(s:ah d f):Tw t d H a G g k ps:=⟨e ▸ b.tg,s.trans h.sb,b.fx,b.fw,b.fl,b.hs,b.hst,h.hx,h.hw,h.hl,h.pg⟩
open Classical in
noncomputable def am(G:Kt)(ts:g0):g0:=ts.filter λn=>decide (bo G n)
open Classical in
noncomputable def bF(G:Kt):Nat->g0->List (Nat × Int)
 | _,[]=>[]
 | k,n::ts=>if bo G n then bF G (k+1) ts else (k,n)::bF G (k+1) ts
open Classical in
def um(G:Kt)(xs a:g0):am G (xs++a)=am G xs++am G a:=List.filter_append ..
open Classical in
def C5{G:Kt}{n:Int}(h:bo G n):am G [n]=[n]:=by simp[am,h]
open Classical in
def C4{G:Kt}{n:Int}(h:dL G n):am G [n]=[]:=by simp[am,tY h]
open Classical in
theorem pJ(G:Kt):∀(xs a:g0) (k:Nat),bF G k (xs++a)=bF G k xs++bF G (k+xs.length) a
 | [],a,k=>rfl
 | n::xs,a,k=>by
  simp only [XL,bF,WE];rw[pJ G xs a (k+1),show k+1+xs.length=k+(xs.length+1) by omega]
  split<;>rfl
open Classical in
def C2{G:Kt}{n:Int}{k:Nat}(h:bo G n):bF G k [n]=[]:=by simp[bF,h]
open Classical in
def C1{G:Kt}{n:Int}{k:Nat}(h:dL G n):bF G k [n]=[(k,n)]:=by simp[bF,tY h]
open Classical in
def gY{G:Kt}{ts:g0}{n:Int}(h:n∈am G ts):n∈ts/\bo G n:=by
 obtain⟨a,b⟩:=List.mem_filter.mp h;exact⟨a,YD b⟩
open Classical in
def lH(G:Kt)(ts:g0):(am G ts).length<=ts.length:=List.length_filter_le ..
open Classical in
theorem ul(G:Kt):∀(ts:g0) (k:Nat),(bF G k ts).length<=ts.length
 | [],_=>V5 _
 | n::ts,k=>by
  have:=ul G ts (k+1);simp only [bF]
  split
  ·exact Nat.le_succ_of_le this
  ·exact Nat.succ_le_succ this
def Lt(H:Hp)(ps:List Addr)(a:List (Nat × Int)):Prop:=bY (λp l=>H p=some (.tup [.int (l.1:Int),.int l.2])) ps a
def Lt.keep{H c:Hp}{ps:List Addr}{a:List (Nat × Int)}(h:Lt H ps a)(k:dF ps H c):Lt c ps a:=⟨h.1,λi p l b hl=>k _ _ (Wo b) (h.2 i p l b hl)⟩
def Lt.snoc{H:Hp}{ps:List Addr}{a:List (Nat × Int)}{p:Addr}{l:Nat × Int}(h:Lt H ps a)(c:H p=some (.tup [.int (l.1:Int),.int l.2])):Lt H (ps++[p]) (a++[l]):=bY.app h ⟨rfl,λi x y hx b=>by
 cases i with
 | zero=>cases hx;cases b;exact c
 | succ i=>cases hx⟩
def Hv(t:Adr):Sp:=λvs H Q _=>∃(b:Hp) (a:Ta) (G:Kt) (g n:Int) (k:Nat) (ps:List Addr),vs=[.ref a.x,.int n]/\Tw t b H a G g k ps/\ps.length<=1000/\Yn G n /\
 ∀q ps' H',H q=none->Tw t b H' a G (al G g (am G [n])).2 k ps'->ps'.length<=ps.length+1->(∀ls,Lt H ps ls->Lt H' ps' (ls++bF G k [n]))->H' q=some (.lst ((al G g (am G [n])).1.map V.int))->Q (.ref q) H'
def OT (T:Txt w K mg t):cy P w K mg base t.bO "turned_one" 8 t.zH t.wg ["self", "thing"] (Hv t):=by
 refine⟨T.cQ,T.MA,T.S9,T.Uf.okQ Ji (λvs H Q E h=>by obtain⟨S,a,G,g,n,k,ps,rfl,_⟩:=h;rfl) λ_ _ _ _ H vs Q E hr h=>?_⟩;obtain⟨S,a,G,g,n,k,ps,rfl,tw,lp,yn,O⟩:=h;have hu:=hr.units;have k1:bo G n->∀q j,H q=none->Tw t S j a G (aY G g n).2 k ps->dF ps H j->j q=some (.lst ((aY G g n).1.map V.int))->Q (.ref q) j:=λhI q j s t' tp y=>by
  have e:al G g (am G [n])=aY G g n:=by rw[C5 hI];simp[al]
  rw[e,C2 hI]at O;exact O q ps j s t' (WU _) (λls l=>by rw[Wv];exact l.keep tp) y
 have k2:dL G n->∀q p j,H q=none->Tw t S j a G g k (ps++[p])->dF ps H j->j p=some (.tup [.int (k:Int),.int n])->j q=some (.lst [])->Q (.ref q) j:=λhN q p j s t' tp hp y=>by
  rw[C4 hN,C1 hN]at O;exact O q (ps++[p]) j s t' (by rw[Wb];exact V5 _) (λls l=>(l.keep tp).snoc hp) y
 refine⟨_,(ak (tU (K:=K) (Es:=λ_=>E0) rfl ⟨rfl,rfl⟩ T.hZ (λe=>PassesOwnAt.never) uo (λpn W Eb L=>(ak (aq (dA (Od T) hr L (aU (K:=K) rfl (aa 0)) (ad (aT (ad (aa 1) ae)) ae))))) (λeh LH=>(ai (bE (cq (K:=K) rfl Wp WB WC dO (aU (K:=K) rfl (aa 0)) (ad (bJ (ad (aU (K:=K) rfl (aa 0)) (ad (aa 1) ae))) ae)))
  (ak (aq (Kr (Of (eh:=eh) T) rfl (hr.hand _) (aU (K:=K) rfl (aa 0)) (ad (aU (K:=K) rfl (aa 0)) ae)))))))),?_⟩
 refine⟨λσ' c oe j=>σ'=[some (.ref a.x),some (.int n)]/\c=.ref t.bc/\ah H j/\dL G n/\∃e,oe=some e/\Hd t j e,?_,?_⟩
 ·refine⟨a.x,_,a.dx,_,_,Z,tw.hx,T.cQ,T.t0,Z,a.w,a.dw,_,Z,tw.hw,Z,?_⟩;refine⟨sz Z,λp1 H1 F=>?_⟩;have i:=tw.grow F.sm;have a8:al G g [n]=aY G g n:=by simp[al]
  refine⟨a.w,a.dw,a.ss,a.og,p1,G,[n],g,rfl,i.hw,i.hs.mono i.sb,i.tg.mono i.sb,i.pg,F.lst,by show 1<=1000;decide,(λm hm=>by rw[Wl.mp hm];exact yn),λall q H2 s kp hw y=>?_,λ⟨m,hm,N⟩ e d0 c d1 j s' R Y=>?_⟩
  ·rw[a8]at hw y;have hI:=all n (by simp);have D:a.lk≠a.w:=aZ i.hl i.hw (by intro z;cases z);obtain⟨_,_,_,_,M,_⟩:=jr tw.tg.ok tw.pg hI;refine k1 hI q H2 (F.sm.free s) ⟨i.tg,λb u e=>kp b u (au e i.fw) (i.sb b u e),i.fx,i.fw,i.fl,i.hs,i.hst,kp _ _ i.nxw i.hx,hw,kp _ _ D i.hl,?_⟩ (λp u m e=>kp p _ (aZ (F.sm _ _ e) i.hw (by intro z;cases z)) (F.sm _ _ e)) y;obtain⟨r,g',_,ef,M,_⟩:=jr tw.tg.ok tw.pg hI;rw[ef];exact M
  ·rw[Wl.mp hm]at N;exact⟨rfl,rfl,F.sm.trans s',N,e,rfl,d0,c,d1,R,Y⟩
 ·rintro σ' C e od qq H3 ⟨rfl,hC,s3,N,e',he,hd⟩ _;cases hC;cases he;refine⟨T.xm_NoSign_NoSign,?_⟩;have U:=tw.grow s3;refine⟨a.x,_,a.dx,_,_,Z,U.hx,T.cQ,T.ud,Z,?_⟩;refine⟨.inl ⟨rfl,_,.of U.hl⟩,?_⟩;refine⟨a.x,_,a.dx,_,_,Z,U.hx,T.cQ,T.uc,Z,?_⟩;refine⟨sz Z,λp4 H4 v=>?_⟩;have f:=U.grow v.sm;refine⟨_,f.hl,cZ (by rw[V4];omega),?_⟩;obtain⟨B,e5⟩:∃B,B=upd H4 a.lk (.lst (ps.map V.ref++[.ref p4])):=⟨_,rfl⟩;rw[<- e5];have o:∀b u,b≠a.lk->H4 b=some u->B b=some u:=λb u nb e=>by rw[e5,ap nb];exact e
  have a7:a.x≠a.lk:=aZ f.hx f.hl (by intro z;cases z);have I:a.w≠a.lk:=aZ f.hw f.hl (by intro z;cases z);have d:Tw t S B a G g k (ps++[p4]):=⟨f.tg,λb u e=>o b u (au e f.fl) (f.sb b u e),f.fx,f.fw,f.fl,f.hs,f.hst,o _ _ a7 f.hx,o _ _ I f.hw,by rw[e5,az,Wm];rfl,f.pg⟩;have a6:Hd t B e:=by
   obtain⟨d0,c,d1,R,Y⟩:=hd;exact⟨d0,c,d1,o _ _ (aZ (v.sm _ _ R) f.hl (by intro z;cases z)) (v.sm _ _ R),o _ _ (aZ (v.sm _ _ Y) f.hl (by intro z;cases z)) (v.sm _ _ Y)⟩
  have a3:dF ps H B:=λp u m e=>o p _ (aZ (v.sm _ _ (s3 _ _ e)) f.hl (by intro z;cases z)) (v.sm _ _ (s3 _ _ e));have J:B p4=some (.tup [.int (k:Int),.int n]):=o _ _ (aZ v.at_ f.hl (by intro z;cases z)) v.at_;clear e5;refine⟨a.x,_,a.dx,_,_,Z,d.hx,T.cQ,T.t0,Z,a.w,a.dw,_,Z,d.hw,Z,a.x,_,a.dx,_,_,Z,d.hx,T.cQ,T.ua,Z,a.w,a.dw,a.ss,a.st,g,Z,d.hw,.of (d.sb _ _ d.hst),a6,λq H6 s kp hw y=>?_⟩;have D:a.lk≠a.w:=I.symm;have a4:H q=none:=by
   cases eq:H q with
   | none=>rfl
   | some u =>
    by_cases z:q=a.lk
    ·rw[z,d.hl]at s;cases s
    ·rw[o q u z (v.sm _ _ (s3 _ _ eq))]at s;cases s
  refine k2 N q p4 H6 a4 ⟨d.tg,λb u e=>kp b u (au e d.fw) (d.sb b u e),d.fx,d.fw,d.fl,d.hs,d.hst,kp _ _ d.nxw d.hx,hw,kp _ _ D d.hl,d.pg⟩ (a3.trans λp u m e=>kp p _ (aZ e d.hw (by intro z;cases z)) e) (kp _ _ (aZ J d.hw (by intro z;cases z)) J) y
def Ht(K:PySem.W.Frag)(t:Adr):Sp:=λvs H Q _=>∃(b:Hp) (a:Ta) (G:Kt) (g:Int) (ns:g0) (k:Nat) (ps:List Addr) (c:List (Nat × Int)) (d:Addr),vs=[.ref a.x,.ref d]/\Tw t b H a G g k ps/\Lt H ps c/\ps.length+ns.length<=1000/\aI K b d (ns.map V.int)/\ns.length<=1000/\(∀n∈ns,Yn G n) /\
 ∀q ps' H',H q=none->Tw t b H' a G (al G g (am G ns)).2 (k+ns.length) ps'->Lt H' ps' (c++bF G k ns)->H' q=some (.lst ((al G g (am G ns)).1.map V.int))->Q (.ref q) H'
def DE (T:Txt w K mg t):cy P w K mg base t.bO "turned" 9 t.zI t.wj ["self", "things"] (Ht K t):=by
 refine⟨T.cQ,T.MB,T.Tc,T.Ug.okQ tP (λvs H Q E h=>by obtain⟨Hb,a,G,g,ns,k,ps,ls,q0,rfl,_⟩:=h;rfl) λ_ _ _ _ H vs Q E hr h=>?_⟩;obtain⟨Hb,a,G,g,ns,k,ps,ls,q0,rfl,tw,lt,lp,R,ln,yn,kq⟩:=h;have hu:=hr.units;refine⟨_,(ai (aF (i:=2) tP.nd Z (.inl Z) (aT ae))
  (ai (cm PassesOwn.never rfl (cO (K:=K) rfl (aa 1)) (bb (i:=3) tP.nd rfl (.inl rfl)) (ai (bE (cq (K:=K) rfl Wp WM WN (VW K) (aa 2) (ad (c6 (OT T) hr (aa 0) (ad (aa 3) ae)) ae)))
  (ak (B4 (K:=K) rfl (aa 0) aj))))
  (ak (aq (aa 2))))),?_⟩
 refine⟨sz Z,λl H1 L=>?_⟩;have a9:Hb l=none:=tw.sb.free L.nw;have t1:=tw.grow L.sm;have B:l≠a.lk:=(au tw.hl L.nw).symm;refine⟨q0,Z,⟨_,t1.sb.seq R⟩,fP (K:=K) (a:=q0) (xs:=ns.map V.int) (λi σ H'=>∃(c:List Addr) (U:Option V),Tw t Hb H' a G (al G g (am G (ns.take i))).2 (k+i) c/\c.length<=ps.length+i/\Lt H' c (ls++bF G k (ns.take i))/\H' l=some (.lst ((al G g (am G (ns.take i))).1.map V.int))/\σ=[some (.ref a.x),some (.ref q0),some (.ref l),U])
  ⟨ps,_,t1,V5 _,by rw[List.take_zero];show Lt H1 ps (ls++[]);rw[Wv];exact lt.keep (dF.of L.sm),L.at_,rfl⟩ (λi σ H' _ z=>by obtain⟨c,U,t',_⟩:=z;exact t'.sb.seq R) ?_ ?_⟩
 ·rintro i v σ H2 hv ⟨c,U,s,af,o,d,rfl⟩;obtain⟨n,Y,rfl⟩:=dD hv;have hi:i<ns.length:=(V8.mp Y).1;have a2:=yn n (Wo Y);refine⟨.inl ⟨rfl,_,.of d⟩,?_⟩;have I:l≠a.x:=aZ d s.hx (by intro z;cases z);have N:l≠a.w:=aZ d s.hw (by intro z;cases z);refine⟨a.x,a.dx,_,rfl,s.hx,rfl,wo H2 [a.x,a.w,a.lk],a,G,_,n,k+i,c,rfl,s.side,by omega,a2,λq ab H3 nq C av a7 hq=>?_⟩;have F:=C.sb _ _ (dU I N B d);have a5:am G (ns.take (i+1))=am G (ns.take i)++am G [n]:=by rw[db Y,um]
  have J:al G g (am G (ns.take (i+1)))=((al G g (am G (ns.take i))).1++(al G (al G g (am G (ns.take i))).2 (am G [n])).1,(al G (al G g (am G (ns.take i))).2 (am G [n])).2):=by rw[a5,sZ]
  have len:∀(g:Int) (xs:g0),dI G g->(al G g (am G xs)).1.length<=6*xs.length:=λg xs pg=>by
   have:=(iI tw.tg.ok pg (am G xs).length (am G xs) (yO (λm hm=>(gY hm).2) _)).2;rw[Wg]at this;have:=lH G xs;omega
  have l1:=len g (ns.take i) tw.pg;have l2:=len _ [n] s.pg;rw[Wa]at l1;have l2:_<=6*1:=l2;refine⟨_,_,F,hq,bA (by rw[V4,V4];omega),?_⟩;have ar:l≠a.lk:=B;obtain⟨D,S⟩:∃D,D=upd H3 l (.lst ((al G g (am G (ns.take i))).1.map V.int++(al G (al G g (am G (ns.take i))).2 (am G [n])).1.map V.int)):=⟨_,rfl⟩;rw[<- S];have f:∀b u,b≠l->H3 b=some u->D b=some u:=λb u nb e=>by rw[S,ap nb];exact e
  have a4:D l=some (.lst ((al G g (am G (ns.take (i+1)))).1.map V.int)):=by rw[S,az,J,Wm]
  clear S;have y:=f _ _ I.symm C.hx;refine⟨a.x,_,a.dx,_,_,rfl,y,T.cQ,T.uc,rfl,_,_,rfl,rfl,a.dx,_,y,V6 (Wn 5) (by decide),?_⟩;obtain⟨M,W⟩:∃M,M=upd D a.x (sF t a (k+(i+1))):=⟨_,rfl⟩;have O:upd D a.x (.ins t.bO a.dx (bX "many" (.int (((k+i:Nat):Int)+1)) [("stead",.ref a.st),("reader",.ref a.r),("writer",.ref a.w),("many",.int ((k+i:Nat):Int)),("lacking",.ref a.lk)]))=M:=by rw[W];rfl
  rw[O];have j:∀b u,b≠a.x->D b=some u->M b=some u:=λb u nb e=>by rw[W,ap nb];exact e
  have a6:M a.x=some (sF t a (k+(i+1))):=by rw[W,az]
  clear W O;refine⟨ab,_,⟨tw.tg,λb u e=>j b u (au e tw.fx) (f b u (au e a9) (C.sb b u (s.to b u e))),tw.fx,tw.fw,tw.fl,tw.hs,tw.hst,a6,j _ _ C.nxw.symm (f _ _ N.symm (by rw[J];exact C.hw)),j _ _ (aZ (f _ _ B.symm C.hl) y (by intro z;cases z)) (f _ _ B.symm C.hl),by rw[J];exact C.pg⟩,by omega,?_,j _ _ I a4,rfl⟩;have:=a7 _ o;rw[db Y,pJ,<- WV,Wa,WX (by omega)];exact this.keep λp u m e=>j p _ (aZ (f p _ (aZ e F (by intro z;cases z)) e) y (by intro z;cases z)) (f p _ (aZ e F (by intro z;cases z)) e)
 ·rintro σ H2 ⟨c,U,s,af,o,d,rfl⟩;rw[V4,Wg]at s o d;exact kq l c H2 L.nw s o d
structure Tu (t:Adr) (Hb H:Hp) (a:Ta) (b:Addr) (D G:Kt) (ts:g0) (N k m:Nat) (e:Bool) (ps:List Addr):Prop where
 tw:Tw t Hb H a G (al G 0 (am G (ts.take k))).2 k ps
 lt:Lt H ps (bF G 0 (ts.take k))
 tn:TN t Hb a.o D
 fr:Hb a.r=none
 fb:Hb b=none
 hm:Hb a.mt=some (.lst [])
 nb:b≠a.lk
 hr:H a.r=some (dG t a.dr a.o b a.mt 0 (al D 0 (ts.take k)).2 (N:Int) e)
 hb:H b=some (.lst (((rk D ts k).take m).map V.int))
 st:c9 D ts N k m
 hin:∀n∈ts,bo D n
 yn:∀n∈ts,Yn G n
 ln:ts.length<=1000
 pl:ps.length<=k
def aH(a:Ta)(b:Addr):List Addr:=[a.x,a.r,b,a.w,a.lk]
def Aq{H:Hp}{a:Ta}{b c:Addr}{u:HO}(i:c≠a.x)(h:c≠a.r)(f:c≠b)(d:c≠a.w)(g:c≠a.lk)(e:H c=some u):wo H (aH a b) c=some u:=dq (by unfold aH;simp only [Wh,WK,or_false,not_or];exact⟨i,h,f,d,g⟩) e
section
variable {Hb H:Hp}{a:Ta}{b:Addr}{D G:Kt}{ts:g0}{N k m:Nat}{e:Bool}{ps:List Addr}
def Tu.xr(h:Tu t Hb H a b D G ts N k m e ps):a.x≠a.r:=iw h.tw.hx h.hr (by show (5:Nat)≠7;decide)
def Tu.wr(h:Tu t Hb H a b D G ts N k m e ps):a.w≠a.r:=iw h.tw.hw h.hr (by show (2:Nat)≠7;decide)
def Tu.xb(h:Tu t Hb H a b D G ts N k m e ps):a.x≠b:=aZ h.tw.hx h.hb (by intro z;cases z)
def Tu.wb(h:Tu t Hb H a b D G ts N k m e ps):a.w≠b:=aZ h.tw.hw h.hb (by intro z;cases z)
def Tu.rb(h:Tu t Hb H a b D G ts N k m e ps):a.r≠b:=aZ h.hr h.hb (by intro z;cases z)
def Tu.lr(h:Tu t Hb H a b D G ts N k m e ps):a.lk≠a.r:=aZ h.tw.hl h.hr (by intro z;cases z)
def Tu.to(h:Tu t Hb H a b D G ts N k m e ps):ah Hb (wo H (aH a b)):=λc u q=>Aq (au q h.tw.fx) (au q h.fr) (au q h.fb) (au q h.tw.fw) (au q h.tw.fl) (h.tw.sb c u q)
def Tu.up{c:Hp}(h:Tu t Hb H a b D G ts N k m e ps)(s:ah Hb c)(d:ah c H)(fx:c a.x=none)(fr:c a.r=none)(fb:c b=none)(fw:c a.w=none)(fl:c a.lk=none):Tu t c H a b D G ts N k m e ps :=
 ⟨⟨h.tw.tg.mono s,d,fx,fw,fl,h.tw.hs.mono s,s _ _ h.tw.hst,h.tw.hx,h.tw.hw,h.tw.hl,h.tw.pg⟩,h.lt,h.tn.mono s,fr,fb,s _ _ h.hm,h.nb,h.hr,h.hb,h.st,h.hin,h.yn,h.ln,h.pl⟩
def Tu.side(h:Tu t Hb H a b D G ts N k m e ps):Tu t (wo H (aH a b)) H a b D G ts N k m e ps:=h.up h.to fY (dh (by simp[aH])) (dh (by simp[aH])) (dh (by simp[aH])) (dh (by simp[aH])) (dh (by simp[aH]))
def Tu.back{g o:Hp}{i:Addr}{D0 G0:Kt}{d:g0}{n k0 j:Nat}{l:Bool}{f:List Addr}(h:Tu t g H a b D G ts N k m e ps)(c:Tu t Hb o a i D G d n k0 j l f)(s:ah Hb g):Tu t Hb H a b D G ts N k m e ps :=
 ⟨h.tw.back c.tw rfl s,h.lt,c.tn,c.fr,s.free h.fb,c.hm,h.nb,h.hr,h.hb,h.st,h.hin,h.yn,h.ln,h.pl⟩
def Tu.other{d:Hp}{L:List Addr}(h:Tu t Hb H a b D G ts N k m e ps)(s:ah (wo H L) d)(n:∀c∈aH a b,c∉L)(i:∀c∈L,Hb c=none)(f:∀c∈L,∀u,H c≠some (.tup u)):Tu t Hb d a b D G ts N k m e ps:=by
 have go:∀c u,c∈aH a b->H c=some u->d c=some u:=λc u g q=>s c u (dq (n c g) q)
 exact⟨⟨h.tw.tg,λc u q=>s c u (dq (λz=>by rw[i c z]at q;cases q) (h.tw.sb c u q)),h.tw.fx,h.tw.fw,h.tw.fl,h.tw.hs,h.tw.hst,go _ _ (by simp[aH]) h.tw.hx,go _ _ (by simp[aH]) h.tw.hw,go _ _ (by simp[aH]) h.tw.hl,h.tw.pg⟩,h.lt.keep λp u _ q=>s p _ (dq (λz=>f p z u q) q),h.tn,h.fr,h.fb,h.hm,h.nb,go _ _ (by simp[aH]) h.hr,go _ _ (by simp[aH]) h.hb,h.st,h.hin,h.yn,h.ln,h.pl⟩
def Tu.grow{c:Hp}(h:Tu t Hb H a b D G ts N k m e ps)(s:ah H c):Tu t Hb c a b D G ts N k m e ps:=⟨h.tw.grow s,h.lt.keep (dF.of s),h.tn,h.fr,h.fb,h.hm,h.nb,s _ _ h.hr,s _ _ h.hb,h.st,h.hin,h.yn,h.ln,h.pl⟩
def Tu.not_tup(h:Tu t Hb H a b D G ts N k m e ps):∀c∈aH a b,∀u,H c≠some (.tup u):=by
 intro c d u q;simp only [aH,Wh,WK,or_false]at d;rcases d with rfl|rfl|rfl|rfl|rfl
 ·rw[h.tw.hx]at q;cases q
 ·rw[h.hr]at q;cases q
 ·rw[h.hb]at q;cases q
 ·rw[h.tw.hw]at q;cases q
 ·rw[h.tw.hl]at q;cases q
def Tu.none5(h:Tu t Hb H a b D G ts N k m e ps):∀c∈aH a b,Hb c=none:=by
 intro c d;simp only [aH,Wh,WK,or_false]at d;rcases d with rfl|rfl|rfl|rfl|rfl
 ·exact h.tw.fx
 ·exact h.fr
 ·exact h.fb
 ·exact h.tw.fw
 ·exact h.tw.fl
end
def Lt.le{H:Hp}{ps:List Addr}{G:Kt}{ts:g0}{k:Nat}(h:Lt H ps (bF G 0 (ts.take k))):ps.length<=k:=by
 have:=ul G (ts.take k) 0;have:=h.1;rw[Wa]at *;omega
noncomputable def cP(G:Kt)(ts:g0)(k k':Nat):g0:=(al G (al G 0 (am G (ts.take k))).2 (am G ((ts.take k').drop k))).1
def tz(ts:g0){k k':Nat}(h:k<=k'):ts.take k'=ts.take k++(ts.take k').drop k:=by
 have:(ts.take k').take k=ts.take k:=by rw[List.take_take,WX h]
 rw[<- this,Xw]
def pv(G:Kt)(ts:g0){k k':Nat}(h:k<=k'):al G 0 (am G (ts.take k'))=((al G 0 (am G (ts.take k))).1++cP G ts k k',(al G (al G 0 (am G (ts.take k))).2 (am G ((ts.take k').drop k))).2):=by
 have e:al G 0 (am G (ts.take k'))=al G 0 (am G (ts.take k++(ts.take k').drop k)):=congrArg (λx=>al G 0 (am G x)) (tz ts h);rw[e,um,sZ]
 rfl
def Hk(K:PySem.W.Frag)(t:Adr):Sp:=λvs H Q _=>∃(d:Hp) (a:Ta) (b c:Addr) (D G:Kt) (ts f:g0) (N k m:Nat) (e:Bool) (ps:List Addr),vs=[.ref a.x,.ref c]/\Tu t d H a b D G ts N k m e ps/\aI K d c (f.map V.int) /\
 (e=false->(∀i,i<f.length->f[i]? = (al D 0 ts).1[N+i]?)/\∀q b' k' m' ps' H',d q=none->k<=k'->Tu t d H' a b' D G ts (N+f.length) k' m' false ps'->H' q=some (.lst ((cP G ts k k').map V.int))->q∉aH a b'->Q (.ref q) H') /\
 (e=true->∀q ps' H',d q=none->Tu t d H' a b D G ts N k m true ps'->H' q=some (.lst [])->q∉aH a b->Q (.ref q) H')
def tZ{c:Hp}{a:Ta}{b q:Addr}{j u2 i k l:HO}(n:c q=none)(g:c a.x=some j)(f:c a.r=some u2)(h:c b=some i)(d:c a.w=some k)(e:c a.lk=some l):q∉aH a b:=λz=>by
 simp only [aH,Wh,WK,or_false]at z;rcases z with rfl|rfl|rfl|rfl|rfl
 ·rw[n]at g;cases g
 ·rw[n]at f;cases f
 ·rw[n]at h;cases h
 ·rw[n]at d;cases d
 ·rw[n]at e;cases e
def pR (T:Txt w K mg t):cy P w K mg base t.bO "feed" 12 t.zL t.wl ["self", "row"] (Hk K t):=by
 refine⟨T.cQ,T.MD,T.Te,T.Uj.okQ Jl (λvs H Q E h=>by obtain⟨Hb,a,b,c,D,G,ts,ws,N,k,m,e,ps,rfl,_⟩:=h;rfl) λ_ _ _ _ H vs Q E hr h=>?_⟩;obtain⟨Hb,a,b,c,D,G,ts,ws,N,k,m,e,ps,rfl,d,hc,k1,k2⟩:=h;have hu:=hr.units;have kl:=d.st.1;have ln:=d.ln;have pl:=d.pl;refine⟨_,(ak (aq (c6 (DE T) hr (aa 0) (ad (c6 (O9 T) hr (aU (K:=K) Z (aa 0)) (ad (aa 1) ae)) ae)))),?_⟩;refine⟨a.x,a.dx,_,Z,d.tw.hx,Z,?_⟩;refine⟨a.x,_,a.dx,_,_,Z,d.tw.hx,T.cQ,T.pC,Z,a.r,a.dr,_,Z,d.hr,Z,?_⟩;cases e with
 | true =>
  refine .inr ⟨a.r,a.dr,a.o,b,a.mt,c,0,_,_,Z,d.hr,λq I M=>?_⟩;have f:=d.grow M.sm;refine⟨wo I [a.x,a.w,a.lk],a,G,_,[],k,ps,_,q,rfl,f.tw.side,f.lt,by show ps.length+0<=1000;omega,.of (dU (aZ M.at_ f.tw.hx (by intro z;cases z)) (aZ M.at_ f.tw.hw (by intro z;cases z)) (au d.tw.hl M.nw).symm M.at_),by decide,(λn hn=>nomatch hn),λq2 j J g B l F=>?_⟩;have l:Lt J j (bF G 0 (ts.take k)):=by have l:Lt J j (bF G 0 (ts.take k)++[]):=l;rwa [Wv]at l
  exact k2 Z q2 j J (f.tw.sb.free g) ⟨B.back f.tw Z f.tw.to,l,d.tn,d.fr,d.fb,d.hm,d.nb,B.sb _ _ (dU f.xr.symm f.wr.symm f.lr.symm f.hr),B.sb _ _ (dU f.xb.symm f.wb.symm f.nb f.hb),d.st,d.hin,d.yn,d.ln,l.le⟩ F (tZ g f.tw.hx f.hr f.hb f.tw.hw f.tw.hl)
 | false =>
  obtain⟨a6,kq⟩:=k1 rfl;have y:ah Hb (wo H [a.r,b,b]):=Ap d.tw.sb d.fr d.fb d.fb;refine .inl ⟨wo H [a.r,b,b],a.r,a.dr,a.o,b,a.mt,c,D,ts,ws,0,N,k,m,rfl,d.tn.mono y,fY,dh (by simp),dh (by simp),d.hin,d.ln,y.seq hc,a6,⟨d.hr,d.hb⟩,d.st,λq b' k' m' I s1 nq O aw a4 hq S C=>?_⟩;have R:=s1 _ _ (dU d.xr d.xb d.xb d.tw.hx);have U:=s1 _ _ (dU d.wr d.wb d.wb d.tw.hw);have l1:=s1 _ _ (dU d.lr d.nb.symm d.nb.symm d.tw.hl);have s:Tw t Hb I a G (al G 0 (am G (ts.take k))).2 k ps:=⟨d.tw.tg,y.trans s1,d.tw.fx,d.tw.fw,d.tw.fl,d.tw.hs,d.tw.hst,R,U,l1,d.tw.pg⟩;have a8:Lt I ps (bF G 0 (ts.take k)):=d.lt.keep λp u _ e=>s1 _ _ (dU (aZ e d.hr (by intro z;cases z)) (aZ e d.hb (by intro z;cases z)) (aZ e d.hb (by intro z;cases z)) e);have nl:((ts.take k').drop k).length=k'-k:=by rw[Xn,Wa];have:=C.1;omega
  have a5:q≠a.x:=au d.tw.hx nq |>.symm;have a2:q≠a.w:=au d.tw.hw nq |>.symm;have ag:q≠a.lk:=au d.tw.hl nq |>.symm;have ax:=C.1;refine⟨wo I [a.x,a.w,a.lk],a,G,_,(ts.take k').drop k,k,ps,_,q,rfl,s.side,a8,by omega,.of (dU a5 a2 ag hq),by omega,(λn hn=>d.yn n (X8 (List.mem_of_mem_drop hn))),λq2 j J g B l F=>?_⟩;have ab:bF G 0 (ts.take k)++bF G k ((ts.take k').drop k)=bF G 0 (ts.take k'):=by
   rw[tz ts S,pJ,Wa,WX kl,Nat.zero_add,<- tz ts S]
  have W:k+((ts.take k').drop k).length=k':=by omega
  have aj:(al G (al G 0 (am G (ts.take k))).2 (am G ((ts.take k').drop k))).2=(al G 0 (am G (ts.take k'))).2:=by rw[pv G ts S]
  rw[ab]at l;rw[W,aj]at B;obtain⟨i,v⟩:=a4;have ai:=iw R i (by show (5:Nat)≠7;decide);have af:=iw U i (by show (2:Nat)≠7;decide);have a9:a.lk≠a.r:=aZ l1 i (by intro z;cases z);have Y:a.x≠b':=aZ R v (by intro z;cases z);have V:a.w≠b':=aZ U v (by intro z;cases z);have L:b'≠a.lk:=λz=>by
   have:=dU (H:=H) d.lr d.nb.symm d.nb.symm d.tw.hl;rw[<- z,O]at this;cases this
  exact kq q2 b' k' m' j J (s.sb.free g) S ⟨B.back s Z s.to,l,d.tn,d.fr,y.free O,d.hm,L,B.sb _ _ (dU ai.symm af.symm a9.symm i),B.sb _ _ (dU Y.symm V.symm L v),C,d.hin,d.yn,d.ln,l.le⟩ F (tZ g R i v U l1)
def Hl(t:Adr):Sp:=λvs H Q _=>∃(c:Hp) (a:Ta) (b:Addr) (D G:Kt) (ts:g0) (N k:Nat) (e:Bool) (ps:List Addr),vs=[.ref a.x]/\Tu t c H a b D G ts N k 0 e ps /\
 ∀q ps' H',c q=none->Tu t c H' a b D G ts N k 0 true ps'->H' q=some (.lst [])->q∉aH a b->Q (.ref q) H'
def pS (T:Txt w K mg t):cy P w K mg base t.bO "end" 12 t.zN t.wn ["self"] (Hl t):=by
 refine⟨T.cQ,T.MF,T.Th,T.Ul.okQ Jn (λvs H Q E h=>by obtain⟨B,a,b,D,G,ts,N,k,e,ps,rfl,_⟩:=h;rfl) λ_ _ _ _ H vs Q E hr h=>?_⟩;obtain⟨B,a,b,D,G,ts,N,k,e,ps,rfl,d,J⟩:=h;have M:=hr.units;have O:=d.st.1;have ln:=d.ln;have pl:=d.pl;refine⟨_,(ak (aq (c6 (DE T) hr (aa 0) (ad (di (Pb T) hr (aU (K:=K) Z (aa 0))) ae)))),?_⟩;refine⟨a.x,a.dx,_,Z,d.tw.hx,Z,?_⟩;refine⟨a.x,_,a.dx,_,_,Z,d.tw.hx,T.cQ,T.pC,Z,a.r,a.dr,_,Z,d.hr,Z,?_⟩;refine⟨a.r,a.dr,a.o,b,a.mt,0,_,_,e,Z,d.hr,d.hb,λq C F kp l y=>?_⟩;have f:Tu t B C a b D G ts N k 0 true ps:=⟨⟨d.tw.tg,λc u e=>kp c u (au e d.fr) (d.tw.sb c u e),d.tw.fx,d.tw.fw,d.tw.fl,d.tw.hs,d.tw.hst,kp _ _ d.xr d.tw.hx,kp _ _ d.wr d.tw.hw,kp _ _ d.lr d.tw.hl,d.tw.pg⟩,d.lt.keep (λp u _ e=>kp p _ (aZ e d.hr (by intro z;cases z)) e),d.tn,d.fr,d.fb,d.hm,d.nb,l,kp _ _ d.rb.symm d.hb,d.st,d.hin,d.yn,d.ln,d.pl⟩;refine⟨wo C [a.x,a.w,a.lk],a,G,_,[],k,ps,_,q,rfl,f.tw.side,f.lt,by show ps.length+0<=1000;omega,.of (dU (aZ y f.tw.hx (by intro z;cases z)) (aZ y f.tw.hw (by intro z;cases z)) (au d.tw.hl F).symm y),by decide,(λn L=>nomatch L),λI g m j v i s=>?_⟩;have i:Lt m g (bF G 0 (ts.take k)):=by have i:Lt m g (bF G 0 (ts.take k)++[]):=i;rwa [Wv]at i
 exact J I g m (f.tw.sb.free j) ⟨v.back f.tw Z f.tw.to,i,d.tn,d.fr,d.fb,d.hm,d.nb,v.sb _ _ (dU f.xr.symm f.wr.symm f.lr.symm f.hr),v.sb _ _ (dU f.xb.symm f.wb.symm f.nb f.hb),d.st,d.hin,d.yn,d.ln,i.le⟩ s (tZ j f.tw.hx f.hr f.hb f.tw.hw f.tw.hl)
def A9(t:Adr)(f:Ta->List Addr->List V):Sp:=λvs H Q _=>∃(c:Hp) (a:Ta) (b:Addr) (D G:Kt) (ts:g0) (N k m:Nat) (e:Bool) (ps:List Addr),vs=[.ref a.x]/\Tu t c H a b D G ts N k m e ps/\∀q H',bi H q (.lst (f a ps)) H'->Q (.ref q) H'
def DF (T:Txt w K mg t):cy P w K mg base t.bO "faults" 2 t.zM t.wm ["self"] (A9 t λ_ _=>[]):=by
 refine⟨T.cQ,T.ME,T.Tf,T.Uk.okQ Jm (λvs H Q E h=>by obtain⟨d,a,b,D,G,ts,N,k,m,e,ps,rfl,_⟩:=h;rfl) λ_ _ _ _ H vs Q E hr h=>?_⟩;obtain⟨d,a,b,D,G,ts,N,k,m,e,ps,rfl,c,f⟩:=h;refine⟨_,(ak (aq (di (Pa T) hr (aU (K:=K) Z (aa 0))))),?_⟩;refine⟨a.x,_,a.dx,_,_,Z,c.tw.hx,T.cQ,T.pC,Z,a.r,a.dr,_,Z,c.hr,Z,?_⟩;exact⟨a.r,a.dr,a.o,b,a.mt,0,_,_,e,Z,c.hr,c.tw.sb _ _ c.hm,f⟩
def uL (T:Txt w K mg t):cy P w K mg base t.bO "lacks" 1 t.zJ t.wk ["self"] (A9 t λ_ ps=>ps.map V.ref):=by
 refine⟨T.cQ,T.MC,T.Td,T.Uh.okQ Jj (λvs H Q E h=>by obtain⟨d,a,b,D,G,ts,N,k,m,e,ps,rfl,_⟩:=h;rfl) λ_ _ _ _ H vs Q E hr h=>?_⟩;obtain⟨d,a,b,D,G,ts,N,k,m,e,ps,rfl,c,f⟩:=h;refine⟨_,(ak (aq (dM (VV K) T.n_list WJ (ad (aU (K:=K) Z (aa 0)) ae)))),?_⟩;refine⟨a.x,_,a.dx,_,_,Z,c.tw.hx,T.cQ,T.ud,Z,?_⟩;exact⟨_,.inl (.of c.tw.hl),f⟩
def Oj (T:Txt w K mg t):ij P w K mg base "GoingReader" t.d9 1 t.Ac t.qr ["self", "tongue", "way", "place"] [.int 0] md:=⟨T.PH,T.No,⟨_,T.Sh,.cons ⟨_,rfl⟩ .nil⟩,T.U0.okQ JM (λvs H Q E h=>h.elim) λa A outer s H vs Q E hr h=>h.elim⟩
def HV(t:Adr):Sp:=λvs H Q _=>∃(d:Hp) (x dx o og:Addr) (D G:Kt),vs=[.ref x,.ref o,.ref og,.non,.non]/\H x=some (.ins t.bO dx [])/\TN t d o D/\TN t d og G/\ah d H/\d x=none /\
 ∀(a:Ta) (b:Addr) (e:Hp),a.x=x->Kp x H e->(∀c∈aH a b,c=x\/H c=none)->(∀c∈[a.st,a.mt,a.ss],H c=none)->a.o=o->a.og=og->(∀ts:g0,(∀n∈ts,bo D n)->(∀n∈ts,Yn G n)->ts.length<=1000->Tu t (wo e (aH a b)) e a b D G ts 0 0 0 false [])->Q .non e
def Dn (T:Txt w K mg t):ij P w K mg base "Turner" t.bO 8 t.zK t.qi ["self", "source", "goal", "way", "instead"] [.non,.non] (HV t):=⟨T.Px,T.Nh,⟨_,T.Sd,.cons rfl (.cons rfl .nil)⟩,by
 refine T.Ui.okQ Jk (λvs H Q E h=>by obtain⟨Hb,x,dx,o,og,D,G,rfl,_⟩:=h;rfl) λ_ _ _ _ H vs Q E hr h=>?_;obtain⟨Hb,x,dx,o,og,D,G,rfl,hx,tn,tg,sb,fx,kq⟩:=h;have hu:=hr.units;refine⟨_,(ai (ce (K:=K) Z (aa 0) (gg (aJ fA (aa 4) bu (aM _)) (aT ae) (aT (ad (aa 4) ae))))
  (ai (bE (aE (mO T) hr (ad (aa 2) (ad (aU (K:=K) rfl (aa 0)) ae))))
  (ai (ce (K:=K) rfl (aa 0) (gg (aJ fA (aa 3) bu (aM _)) (fh (Oi T) hr (ad (aa 1) ae)) (fh (Oj T) hr (ad (aa 1) (ad (aa 3) ae)))))
  (ai (ce (K:=K) rfl (aa 0) (fh (Og T) hr (ad (aa 2) ae)))
  (ai (ce (K:=K) rfl (aa 0) aj)
  (ak (ce (K:=K) rfl (aa 0) (aT ae)))))))),?_⟩
 refine⟨sz Z,λst H1 g1=>?_⟩;have s1:=sb.trans g1.sm;have k:st≠x:=(au hx g1.nw).symm;refine⟨x,_,dx,_,rfl,g1.sm _ _ hx,T.cQ,T.ua,V6 Xf (by decide),?_⟩;refine⟨x,_,dx,_,_,Z,az,T.cQ,T.ua,Z,?_⟩;have s2:ah Hb (upd H1 x (.ins t.bO dx [("stead",.ref st)])):=s1.put fx;refine⟨og,st,G,[],rfl,tg.mono s2,.of (by rw[ap k];exact g1.at_),by decide,(λn hn=>nomatch hn),λq B nq s3 hq=>?_⟩;have bj:=s2.trans s3;have V:=s3 x _ az;have I:B st=some (.lst []):=s3 st _ (by rw[ap k];exact g1.at_);have aK:Kp x H B:=(Kp.of g1.sm).trans (Kp.upd.trans (Kp.of s3));refine λr dr hr b5 bc=>?_;have L:=dX (C:=t.bP) hr b5;refine⟨r,dr,o,0,rfl,az,λb mt H4 nb nm aR k4 aW ao aw=>⟨rfl,?_⟩⟩;have v:ah B H4:=λc u e=>k4 c u (au e hr) (L c u e);have af:r≠x:=(au V hr).symm;have ag:b≠x:=(au V (L.free nb)).symm;have a7:mt≠x:=(au V (L.free nm)).symm;refine⟨x,_,dx,_,rfl,v _ _ V,T.cQ,T.pC,V6 (Wn 1) (by decide),?_⟩;obtain⟨H5,e5⟩:∃H5,H5=upd H4 x (.ins t.bO dx [("stead",.ref st),("reader",.ref r)]):=⟨_,rfl⟩;have aB:upd H4 x (.ins t.bO dx (bX "reader" (.ref r) (bX "stead" (.ref st) [])))=H5:=by rw[e5];rfl
 rw[aB];have a9:∀c u,c≠x->H4 c=some u->H5 c=some u:=λc u n e=>by rw[e5,ap n];exact e
 have a5:H5 x=some (.ins t.bO dx [("stead",.ref st),("reader",.ref r)]):=by rw[e5,az]
 clear e5 aB;refine λN dw hw b2 b7=>?_;have aF:=dX (C:=t.d8) hw b2;refine⟨N,dw,og,rfl,az,λss H6 k6 aV aY Y=>⟨rfl,?_⟩⟩;have O:ah H5 H6:=λc u e=>k6 c u (au e hw) (aF c u e);have S:N≠x:=(au a5 hw).symm;refine⟨x,_,dx,_,rfl,O _ _ a5,T.cQ,T.t0,V6 (Wn 2) (by decide),?_⟩;refine⟨x,_,dx,_,rfl,az,T.cQ,T.uc,V6 (Wn 3) (by decide),?_⟩;refine⟨sz Z,λlk H9 g9=>?_⟩;have aQ:=g9.sm x _ az;have y:lk≠x:=(au az g9.nw).symm;refine⟨x,_,dx,_,rfl,aQ,T.cQ,T.ud,V6 (Wn 4) (by decide),?_⟩;obtain⟨a,ea⟩:∃a:Ta,a=⟨x,dx,st,r,dr,o,mt,N,dw,ss,og,lk⟩:=⟨_,rfl⟩;have b4:∀c u,c≠x->H6 c=some u->H9 c=some u:=λc u n e=>g9.sm c u (by rw[ap n,ap n];exact e);generalize hH:upd H9 x _=H10;have aA:∀c u,c≠x->H9 c=some u->H10 c=some u:=λc u n e=>by rw[<- hH,ap n];exact e
 have ay:H10 x=some (sF t a 0):=by rw[<- hH,az,ea];rfl
 clear hH;have ab:∀c u,c≠x->H6 c=some u->H10 c=some u:=λc u n e=>aA c u n (b4 c u n e);have F:∀c u,c≠x->H4 c=some u->H10 c=some u:=λc u n e=>ab c u n (O c u (a9 c u n e));have m:=F _ _ af aW;have a2:=F _ _ ag ao;have M:=F _ _ a7 aw;have g:=F _ _ k (v _ _ I);have s:=ab _ _ S aY;have a0:=aA _ _ y g9.at_;obtain⟨ds,Y⟩:=Y;have U:ss≠x:=iw Y (O _ _ a5) (by show (1:Nat)≠2;decide);have d:=ab _ _ U Y;have ar:B r=none:=hr;have a8:B b=none:=L.free nb;have aP:H5 N=none:=hw;have av:∀c,c≠x->H5 c=none->B c=none:=λc n e=>by
  cases z:B c with
  | none=>rfl
  | some u=>rw[a9 c u n (v c u z)]at e;cases e
 have aI:H6 lk=none:=by
  cases z:H6 lk with
  | none=>rfl
  | some u=>have q:=g9.nw;rw[ap y,ap y,z]at q;cases q
 have W:∀u,H4 lk≠some u:=λu z=>by rw[O _ _ (a9 _ _ y z)]at aI;cases aI
 have bl:b≠lk:=λz=>W _ (z ▸ ao);have ml:mt≠lk:=λz=>W _ (z ▸ aw);have aS:st≠lk:=λz=>W _ (z ▸ v _ _ I);have aX:st≠b:=au I a8;have f:∀c,c≠x->B c=none->H c=none:=λc n e=>by
  cases z:H c with
  | none=>rfl
  | some u=>rw[aK c u n z]at e;cases e
 have aC:B lk=none:=by
  cases z:B lk with
  | none=>rfl
  | some u=>exact YC (v _ _ z) (W u)
 have ax:B N=none:=av _ S aP;have R:∀c,c≠x->B c=none->Hb c=none:=λc n e=>sb.free (f c n e);have fv:aH a b=[x,r,b,N,lk]:=by rw[ea];rfl
 have aD:Kp x H H10:=λc u n e=>F c u n (v c u (aK c u n e));have sW:ah Hb (wo H10 (aH a b)):=λc u e=>by
  have an:c≠x:=au e fx;refine dq (λz=>?_) (aD c u an (sb c u e));rw[fv]at z;simp only [Wh,WK,or_false]at z;rcases z with z|z|z|z|z
  ·exact an z
  ·rw[z,R _ af ar]at e;cases e
  ·rw[z,R _ ag a8]at e;cases e
  ·rw[z,R _ S ax]at e;cases e
  ·rw[z,R _ y aC]at e;cases e
 have b0:H ss=none:=f _ U (av _ U (aF.free aV));have b1:H mt=none:=f _ a7 (L.free nm);refine kq a b H10 (by rw[ea]) aD (λc hc=>?_) (λc hc=>?_) (by rw[ea]) (by rw[ea]) λts hin yn ln=>?_
 ·rw[fv]at hc;simp only [Wh,WK,or_false]at hc;rcases hc with rfl|rfl|rfl|rfl|rfl
  ·exact .inl Z
  ·exact .inr (f _ af ar)
  ·exact .inr (f _ ag a8)
  ·exact .inr (f _ S ax)
  ·exact .inr (f _ y aC)
 ·rw[ea]at hc;simp only [Wh,WK,or_false]at hc;rcases hc with rfl|rfl|rfl
  ·exact g1.nw
  ·exact b1
  ·exact b0
 subst ea;have a3:∀c u,c≠x->c≠r->c≠b->c≠N->c≠lk->H10 c=some u->wo H10 (aH ⟨x,dx,st,r,dr,o,mt,N,dw,ss,og,lk⟩ b) c=some u:=λc u n1 n2 n3 n4 n5 e=>Aq n1 n2 n3 n4 n5 e;have J:∀c,c∈aH ⟨x,dx,st,r,dr,o,mt,N,dw,ss,og,lk⟩ b->wo H10 (aH ⟨x,dx,st,r,dr,o,mt,N,dw,ss,og,lk⟩ b) c=none:=λc h=>dh h;refine⟨⟨tg.mono sW,fY,J _ (by simp[aH]),J _ (by simp[aH]),J _ (by simp[aH]),⟨ds,a3 _ _ U (iw d m (by show (1:Nat)≠7;decide)) (aZ d a2 (by intro z;cases z)) (iw d s (by show (1:Nat)≠2;decide)) (aZ d a0 (by intro z;cases z)) d⟩,a3 _ _ k (aZ g m (by intro z;cases z)) aX (aZ g s (by intro z;cases z)) aS g,ay,s,a0,iW G⟩,⟨rfl,(λi p l hp=>by cases hp)⟩,tn.mono sW,J _ (by simp[aH]),J _ (by simp[aH]),a3 _ _ a7 (aZ M m (by intro z;cases z)) aR.symm (aZ M s (by intro z;cases z)) ml M,bl,m,a2,c9.zero λj hj=>BO tn.ok hin hj,hin,yn,ln,V5 _⟩⟩
def Ox (T:Txt w K mg t):bh P w K mg base "_law_plain" 1 t.yV t.vf ["_law_found"] (ju gq K):=by
 refine⟨T.PQ,T.Fi.kp,T.So,T.Fi.okQ IN mK λ_ _ _ _ H vs Q E hr h=>?_⟩;obtain⟨v,rfl,c,k⟩:=h;refine⟨_,(ai (aQ (cV (bp (VR K) T.n_isinstance WS (ad (aa 0) (ad (gR Z T.n_bool Yu) ae)))) (ak (aq fO)) aR)
  (ak (aq (bp (VR K) T.n_isinstance WS (ad (aa 0) (ad (gR rfl T.n_int Xe) ae)))))),?_⟩
 obtain⟨ty,a,b⟩:=c.isBl;refine⟨ty,_,a,b,?_⟩;refine aw (λe=>?_) (λe=>?_)
 ·exact bM k (by cases v<;>simp_all [gq,pN])
 ·obtain⟨ty,a,b⟩:=c.isInt;refine⟨ty,_,a,b,?_⟩;exact bM k (by cases v<;>simp_all [gq,pM,pN])
def HK(K:PySem.W.Frag):Sp:=λvs H Q _=>∃(a:Addr) (ns:g0) (k:Nat),vs=[.ref a,.int (k:Int)]/\aI K H a (ns.map V.int)/\ns.length<=1000/\∀H',ah H H'->Q (.int (ns.getD k 0)) H'
def mN (T:Txt w K mg t):bh P w K mg base "_law_pick" 1 t.yX t.vi ["_law_script", "_law_k"] (HK K):=by
 refine⟨T.PU,T.Fk.kp,T.Sr,T.Fk.okQ IO (λvs H Q E h=>by obtain⟨a,ns,i,rfl,_⟩:=h;rfl) λ_ _ _ _ H vs Q E hr h=>?_⟩;obtain⟨a,ns,i,rfl,m,hl,k⟩:=h;refine⟨_,(ak (aq (aK (VT K) (aO (VQ K) (de (VU K) (aa 0) (cn (aa 1)) (cn (aO (VQ K) (aa 1) aj))) (aT (ad aj ae))) aj (λ_ _=>rfl)))),?_⟩;refine⟨_,Z,_,Z,_,m,λs u b=>?_⟩;have e:cX (ns.map V.int) (some (i:Int)) (some ((i:Int)+1))=((ns.drop i).take 1).map V.int:=by rw[ja];exact congrArg _ (Ep ns i 1)
 rw[e]at b;refine⟨sz Z,λp n c=>?_⟩;refine⟨_,_,c.sm.seq b.lst,c.lst,?_,λo q d=>?_⟩
 ·rw[V4,Wa];exact Wq (Nat.add_le_add_right (Nat.min_le_left _ _) 1) (by decide)
 have f:((ns.drop i).take 1).map V.int++[V.int 0]=(((ns.drop i).take 1)++[0]).map V.int:=by simp
 rw[f]at d;have l:(((ns.drop i).take 1)++[0])[0]? = some (ns.getD i 0):=by
  have g:ns[i]? = (ns.drop i)[0]?:=by rw[List.getElem?_drop];rfl
  rw[WO,g];cases ns.drop i with
  | nil=>rfl
  | cons x r=>rfl
 refine⟨_,.int (ns.getD i 0),.inl d.lst,aX (j:=0) (by rw[We,l];rfl),?_⟩;exact k _ ((b.sm.trans c.sm).trans d.sm)
def pP(n:Int)(ns:g0):eE (.int n) (ns.map V.int)=decide (n∈ns):=by
 induction ns with
 | nil=>rfl
 | cons m ns ih =>
  unfold eE at *;rw[WA,W7,ih];simp only [gx,Wh];by_cases e:m=n
  ·simp[e]
  ·have:¬n=m:=λz=>e z.symm;simp[e,this]
def uW(ns:g0):(ns.map V.int).all fQ=true:=by
 rw[WW];intro x hx;obtain⟨n,_,rfl⟩:=Wr.mp hx
 rfl
def IJ:∀n∈([0,1,127,128,2047,2048,55295,57344,61183,61440,65279,65535,65536,1114111]:g0),Sg n:=by unfold Sg;decide
def rK:g0:=[0,1,127,128,2047,2048,55295,57344,61183,61440,65279,65535,65536,1114111]
def gp(s:Int):Int:=s+2048*(if decide (55296<=s)=true then 1 else 0)
def f6(c:Int):Int:=if c%3=1 then rK.getD (c/3%14).toNat 0 else gp (c/3%1111808)+256*(if decide (61184<=gp (c/3%1111808))=true then 1 else 0)
def Bn(c:Int):Sg (f6 c):=by
 unfold f6
 split
 ·have h:(c/3%14).toNat<rK.length:=by show _<14;omega
  rw[WO,WG h];exact IJ _ (List.getElem_mem h)
 ·unfold Sg gp;simp only [decide_eq_true_eq]
  (repeat' split)<;>omega
def Hy:Sp:=λvs H Q _=>∃c,vs=[.int c]/\∀H',ah H H'->Q (.int (f6 c)) H'
def uD (T:Txt w K mg t):bh P w K mg base "_law_sign" 1 t.yS t.va ["_law_number"] Hy:=by
 refine⟨T.PM,T.Ff.kp,T.Sl,T.Ff.okQ oM (λvs H Q E h=>by obtain⟨c,rfl,_⟩:=h;rfl) λ_ _ _ _ H vs Q E hr h=>?_⟩;obtain⟨c,rfl,k⟩:=h;have b:=hr.units;refine⟨_,(ai (aQ (aJ (ca (K:=K) Z b) (cJ (aa 0)) aj (aM _)) (ai (aF (i:=1) oM.nd Z (.inl Z) (aT (oX Z)))
  (ak (aq (aK (VT K) (aa 1) (cJ (dY (aa 0))) (λ_ _=>rfl))))) aR)
  (ai (aF (i:=2) oM.nd rfl (.inl rfl) (cJ (dY (aa 0))))
  (ai (aF (i:=2) oM.nd rfl (.inl rfl) (aO (VQ K) (aa 2) (aO eP aj (dM rG T.n_int Xe (ad (gQ pW (aa 2) aj (aM _)) ae)))))
  (ak (aq (aO (VQ K) (aa 2) (aO eP aj (dM rG T.n_int Xe (ad (gQ pW (aa 2) aj (aM _)) ae))))))))),?_⟩
 refine aw (λe=>?_) (λe=>?_)
 ·refine⟨sz Z,λf g a=>?_⟩;have h:(c/3%14).toNat<rK.length:=by show _<14;omega
  have d:cD (rK.map V.int) (c/3%14)=some (.int (f6 c)):=by
   have en:c/3%14=(((c/3%14).toNat:Nat):Int):=by omega
   rw[en];refine aX ?_;unfold f6;rw[YB (YD e),We,WO,WG h]
   rfl
  exact⟨_,_,.inl a.lst,d,k _ a.sm⟩
 ·refine⟨Or.inl ⟨by decide,by decide⟩,?_⟩;refine⟨Or.inl ⟨by decide,by decide⟩,?_⟩;have:=k _ (ah.refl _);unfold f6 at this;rw[YA (λz=>e (YE z))]at this;exact this
def Pg(ns:g0):Prop:=(∀n∈ns,Sg n)/\ns.Nodup/\ns.length<=8
def Pg.sub{ns zs:g0}(h:Pg ns)(s:zs.Sublist ns):Pg zs:=⟨λn a=>h.1 n (s.subset a),List.Pairwise.sublist s h.2.1,Wq s.length_le h.2.2⟩
def Pg.rev{ns:g0}(h:Pg ns):Pg ns.reverse:=⟨λn a=>h.1 n (List.mem_reverse.mp a),List.pairwise_reverse.mpr (h.2.1.imp λh=>Ne.symm h),by rw[XY];exact h.2.2⟩
def Pg.okp{ns:g0}(h:Pg ns):ej ns:=⟨h.1,h.2.1,Wq h.2.2 (by decide)⟩
def gw(x:g0)(a:List (g0)):Bool:=a.all λo=>!(bT o x || bT x o)
def Ih(K:PySem.W.Frag):Sp:=λvs H Q _=>∃(a b:Addr) (x:g0) (d:List Addr) (c:List (g0)),vs=[.ref a,.ref b]/\aI K H a (x.map V.int)/\aI K H b (d.map V.ref)/\bY (λq r=>aI K H q (r.map V.int)) d c/\∀H',ah H H'->Q (.bl (gw x c)) H'
def OE (T:Txt w K mg t):bh P w K mg base "_law_fits" 1 t.za t.vy ["_law_row", "_law_rows"] (Ih K):=by
 refine⟨T.P5,T.Fw.kp,T.SB,T.Fw.okQ Bt (λvs H Q E h=>by obtain⟨a,b,x,M,s,rfl,_⟩:=h;rfl) λ_ _ _ _ H vs Q E hr h=>?_⟩;obtain⟨a,b,x,M,s,rfl,v,hb,d,k⟩:=h;have L:=hr.units;refine⟨_,(ai (cm PassesOwn.never Z (cO (K:=K) Z (aa 1)) (bb (i:=2) Bt.nd Z (.inl Z)) (ak (aQ (cG (dy (aJ (ca (K:=K) Z L) (de (VU K) (aa 0) fe (cn (bp (VS K) T.n_len Wj (ad (aa 2) ae)))) (aa 2) (aM _)) (eB (aJ (ca (K:=K) Z L) (de (VU K) (aa 2) fe (cn (bp (VS K) T.n_len Wj (ad (aa 0) ae)))) (aa 0) (aM _))))) (ak (aq fO)) aR)))
  (ak (aq fO))),?_⟩
 refine⟨b,rfl,⟨_,hb⟩,fP (K:=K) (a:=b) (xs:=M.map V.ref) (λi σ N=>ah H N/\(∀j o,j<i->s[j]? = some o->(!(bT o x || bT x o))=true)/\∃F,σ=[some (.ref a),some (.ref b),F]) ⟨ah.refl _,(λj o h=>YC h (by omega)),_,rfl⟩ (λi σ N _ z=>z.1.seq hb) ?_ ?_⟩
 ·rintro i y σ U W ⟨p,D,F,rfl⟩;obtain⟨q,S,rfl⟩:=iU W;obtain⟨o,r,C⟩:=d.right S;have J:bT o x=true\/bT x o=true->gw x s=false:=λc=>by
   cases e:gw x s with
   | false=>rfl
   | true =>
    unfold gw at e;rw[WW]at e;have:=e o (Wo r);rcases c with c|c<;>(rw[c]at this;simp at this)
  refine⟨_,.inl (p.seq C),_,Z,_,p.seq v,λp1 H3 B=>?_⟩;rw[V4,nI]at B;have n:=p.trans B.sm;refine⟨_,_,ba.lst B.lst (bG.ints _),ba.lst (n.seq C) (bG.ints _),Ww _,Ww _,?_⟩;have g:PyData.eqv (.list ((x.take o.length).map PyData.int)) (.list (o.map PyData.int))=bT o x:=lO _ _;refine aw (λc=>?_) (λc=>?_)
  ·refine gn ?_;exact bM (k _ n) (J (.inl (by rw[<- g];exact c)))
  have c:¬bT o x=true:=by rw[<- g];exact c
  refine⟨_,.inl (n.seq v),_,Z,_,n.seq C,λp2 Y I=>?_⟩;rw[V4,nI]at I;have G:=n.trans I.sm;refine⟨_,_,ba.lst I.lst (bG.ints _),ba.lst (G.seq v) (bG.ints _),Ww _,Ww _,?_⟩;have l:PyData.eqv (.list ((o.take x.length).map PyData.int)) (.list (x.map PyData.int))=bT x o:=lO _ _;refine aw (λc=>?_) (λu=>?_)
  ·exact bM (k _ G) (J (.inr (by rw[<- l];exact c)))
  ·have u:¬bT x o=true:=by rw[<- l];exact u
   refine⟨G,λj O R f=>?_,_,Z⟩;by_cases z:j<i
   ·exact D j O z f
   ·obtain rfl:j=i:=by omega
    rw[r]at f;cases f;simp at c u;simp[c,u]
 ·rintro σ U ⟨p,D,F,rfl⟩;refine bM (k _ p) ?_;unfold gw;rw[WW];intro o r;obtain⟨j,m,rfl⟩:=XG.mp r;exact D j _ (by rw[V4,d.1];exact m) (WG m)
def HH:Sp:=λvs H Q _=>∃c:Int,vs=[.int c]/\∀p ns H',ns≠[]->bi H p (.lst (ns.map V.int)) H'->Q (.ref p) H'
def uE (T:Txt w K mg t):bh P w K mg base "_law_pot" 1 t.yT t.vd ["_law_cell"] HH:=by
 refine⟨T.PN,T.Fg.kp,T.Sm,T.Fg.okQ mf (λvs H Q E h=>by obtain⟨c,rfl,_⟩:=h;rfl) λ_ _ _ _ H vs Q E hr h=>?_⟩;obtain⟨c,rfl,k⟩:=h;have m:=hr.units;refine⟨_,(ai (aF (i:=1) mf.nd Z (.inl Z) (aO (VQ K) (cJ (dY (aa 0))) aj))
  (ai (aF (i:=2) mf.nd rfl (.inl rfl) (aT (ad aj ae)))
  (ai (cm PassesOwn.never rfl (gN rfl T.n_range (ad aj ae)) (bb (i:=3) mf.nd rfl (.inl rfl)) (ai (aF (i:=1) mf.nd rfl (.inl rfl) (cJ (aO (VQ K) (aO (VQ K) (aO eP (aa 1) (aa 1)) (aO eP aj (aa 1))) (aa 3))))
  (ak (oU (aO (VQ K) (Ks (aK (VT K) (aa 2) aj (λ_ _=>rfl))) (aa 1)) (BX (aa 2) aj Bp)))))
  (ai (aQ (cG (fL (aJ (ca (K:=K) rfl m) (cJ (aa 0)) aj (aM _)) (gf (aJ (fu (K:=K) rfl m) (dY (aa 0)) aj (aM _))))) (ak (bE (cq (K:=K) rfl Wp WB WC dO (aa 2) (ad (dY (aa 0)) ae)))) aR)
  (ak (aq (aa 2))))))),?_⟩
 refine⟨sz Z,λd u a=>?_⟩;refine⟨40,rfl,by decide,by decide,?_⟩;have l:(2:Int) ^ 64=18446744073709551616:=by decide
 refine iy (lo:=0) (n:=(40:Int).toNat) (λi σ o=>ah H o/\∃(z:Int) (n:Int) (g:Option V),o d=some (.lst [.int z])/\0<=n/\n<2147483648/\σ=[some (.int c),some (.int n),some (.ref d),g])
  ⟨a.sm,0,_,_,a.at_,?_,?_,rfl⟩ ?_ ?_
 ·show (0:Int)<=c/2%2147483629+7;omega
 ·show c/2%2147483629+7<2147483648;omega
 ·rintro i σ j s ⟨f,z,n,g,b,p,r,rfl⟩;refine⟨Or.inl ⟨by omega,by omega⟩,?_⟩;refine⟨Or.inl ⟨by decide,by decide⟩,?_⟩;refine⟨_,.int z,.inl (.of b),Z,?_⟩;refine⟨d,_,0,0,Z,Z,b,Z,?_⟩;exact⟨f.put a.nw,_,_,_,by rw[az];rfl,by omega,by omega,rfl⟩
 ·rintro σ j ⟨f,z,n,g,b,p,r,rfl⟩;have stop:Q (.ref d) j:=k d [z] j (by simp) ⟨a.nw,f,b⟩;refine aw (λe=>?_) (λe=>?_)
  ·refine aw (λq=>?_) (λq=>?_)
   ·refine⟨.inl ⟨rfl,_,.of b⟩,?_⟩;refine⟨_,b,cZ (Wf Z),?_⟩;exact k d [z,c/2] _ (by simp) ⟨a.nw,f.put a.nw,by rw[az];rfl⟩
   ·exact stop
  ·exact stop
def Iu:Sp:=λvs H Q _=>∃(a:Addr) (m:Nat) (ns:g0),vs=[.ref a,.int (m:Int)]/\0<m/\m<=1000000000/\H a=some (.lst (ns.map V.int))/\ns≠[]/\∀(d:Int) (ms:g0) H',0<=d->d<m->ms≠[]->H' a=some (.lst (ms.map V.int))->(∀b u,b≠a->H b=some u->H' b=some u)->Q (.int d) H'
def gu (T:Txt w K mg t):bh P w K mg base "_law_digit" 1 t.zd t.vB ["_law_pot_here", "_law_many"] Iu:=by
 refine⟨T.P8,T.Fz.kp,T.SE,T.Fz.okQ Bv (λvs H Q E h=>by obtain⟨a,m,ns,rfl,_⟩:=h;rfl) λ_ _ _ _ H vs Q E hr h=>?_⟩;obtain⟨a,m,ns,rfl,y,hm,f,l,k⟩:=h;have s:=hr.units;refine⟨_,(ai (aF (i:=2) Bv.nd Z (.inl Z) (aO uO (aK (VT K) (aa 0) (oW oq aj) (λ_ _=>rfl)) (aa 1)))
  (ai (oU (aO QD (aK (VT K) (aa 0) (oW oq aj) (λ_ _=>rfl)) (aa 1)) (BX (aa 0) (oW oq aj) Bp))
  (ai (aQ (cG (fL (aJ (ca (K:=K) rfl s) (aK (VT K) (aa 0) (oW oq aj) (λ_ _=>rfl)) aj (aM _)) (gf (aJ lL (bp (VS K) T.n_len Wj (ad (aa 0) ae)) aj (aM _))))) (ak (bE (BY (K:=K) rfl Wp PySem.F.slot_list_pop PySem.F.type_list_pop Mu (aa 0)))) aR)
  (ak (aq (aa 2)))))),?_⟩
 obtain⟨fr,c,p⟩:∃fr c,ns=fr++[c]:=⟨ns.dropLast,ns.getLast l,(List.dropLast_concat_getLast l).symm⟩;subst p;have B:(fr++[c]).map V.int=fr.map V.int++[V.int c]:=by simp
 rw[B]at f;refine⟨_,.int c,.inl (.of f),yM _ _,?_⟩;refine⟨by show (0:Int)<(m:Int);omega,?_⟩;refine⟨_,.int c,.inl (.of f),yM _ _,?_⟩;refine⟨⟨by omega,by omega⟩,?_⟩;refine⟨a,_,-1,fr.length,rfl,rfl,f,by unfold gl;simp;omega,?_⟩;have v:(fr.map V.int++[V.int c]).set fr.length (V.int (c/(m:Int)))=fr.map V.int++[V.int (c/(m:Int))]:=by simp
 have d0:0<=c%(m:Int):=Int.emod_nonneg _ (by omega);have d1:c%(m:Int)<(m:Int):=Int.emod_lt_of_pos _ (by omega);have n:∀o:HO,∀b u,b≠a->H b=some u->upd H a o b=some u:=λo b u hb e=>by rw[ap hb];exact e
 have j:∀g (ms:g0),ms≠[]->g a=some (.lst (ms.map V.int))->(∀b u,b≠a->H b=some u->g b=some u)->Q (.int (c%(m:Int))) g:=λg ms f x d=>k _ ms g d0 d1 f x d;have d:upd H a (.lst ((fr.map V.int++[V.int c]).set fr.length (V.int (c/(m:Int))))) a=some (.lst (fr.map V.int++[V.int (c/(m:Int))])):=by rw[az,v]
 refine⟨_,.int (c/(m:Int)),.inl (.of d),yM _ _,?_⟩;have stop:Q (.int (c%(m:Int))) (upd H a (.lst ((fr.map V.int++[V.int c]).set fr.length (V.int (c/(m:Int)))))):=j _ (fr++[c/(m:Int)]) (by simp) (by rw[d];simp) (n _);refine aw (λe=>?_) (λe=>?_)
 ·refine⟨_,.inl (.of d),?_⟩;refine aw (λr=>?_) (λr=>?_)
  ·have hl:fr≠[]:=λz=>by
    have q:(1:Int)<((fr.map V.int++[V.int (c/(m:Int))]).length:Int):=YD r;rw[z]at q;simp at q
   refine⟨.inl ⟨rfl,_,.of d⟩,_,_,.int (c/(m:Int)),rfl,rfl,d,by simp,?_⟩;refine j _ fr hl (by rw[az];simp) λb u hb e=>?_;rw[ap hb,ap hb];exact e
  ·exact stop
 ·exact stop
def Ir:Sp:=λvs H Q _=>∃(c:Int) (b m:Nat),vs=[.int c,.int (b:Int),.int (m:Int)]/\0<b/\b<=2000000/\m<=1000/\∀p (ds:g0) H',ds.length<=m->(∀d∈ds,0<=d/\d<b)->bi H p (.lst (ds.map V.int)) H'->Q (.ref p) H'
def Dw (T:Txt w K mg t):bh P w K mg base "_law_digits" 2 t.zc t.vA ["_law_cell", "_law_base", "_law_most"] Ir:=by
 refine⟨T.P7,T.Fy.kp,T.SD,T.Fy.okQ Bu (λvs H Q E h=>by obtain⟨c,b,m,rfl,_⟩:=h;rfl) λ_ _ _ _ H vs Q E hr h=>?_⟩;obtain⟨c,b,m,rfl,v,hb,hm,k⟩:=h;refine⟨_,(ai (aF (i:=3) Bu.nd Z (.inr Z) (aE (uE T) hr (ad (aa 0) ae)))
  (ak (aq (eO rfl (cz.of (fns:=(ag iO).names) (N:=["_law_cell", "_law_base", "_law_most", "_law_pot_here"]) (Nc:=["_law_k", "_law_pot_here", "_law_base"]) (nv:=1) (caps:=[3,1]) rfl rfl (by decide +kernel)) (gN rfl T.n_range (ad (aE (gu T) hr (ad (aa 3) (ad (aO (VQ K) (aa 2) aj) ae))) ae)) (λ_ _ _ _=>(bb (i:=0) (show List.Nodup (["_law_k", "_law_pot_here", "_law_base"]:List Str) by decide +kernel) rfl (Or.inl rfl) (Or.inr rfl))) (λ_ _ _ _=>eK) (λ_ _ _ _=>(aE (gu T) hr (ad (aa 1) (ad (aa 2) ae)))))))),?_⟩
 refine⟨c,Z,λf ns O o r=>?_⟩;refine⟨f,m+1,ns,rfl,by omega,by omega,r.at_,o,λd ms U d0 d1 a M J=>?_⟩;refine⟨d,rfl,by omega,by omega,?_⟩;refine xv (lo:=0) (n:=d.toNat) (cs:=[some (.ref f),some (.int (b:Int))]) (λi l y=>(∀b u,b≠f->O b=some u->y b=some u)/\∃(ms ds:g0),ms≠[]/\y f=some (.lst (ms.map V.int))/\l=ds.map V.int/\ds.length=i/\∀d∈ds,0<=d/\d<(b:Int))
  ⟨J,ms,[],a,M,rfl,rfl,λ_ z=>nomatch z⟩ (λi l y _ z=>?_) (bA (by omega)) (λi l I N W z hN=>?_) λl I p C z g=>?_
 ·obtain⟨_,ms,ds,_,_,rfl,hl,_⟩:=z;rw[V4];omega
 ·obtain⟨B,ms,ds,a,D,rfl,hl,hd⟩:=z;refine⟨f,b,ms,rfl,v,by omega,D,a,λe s C L S j G R=>?_⟩;refine hN _ _ ⟨λc u F q=>R c u F (B c u F q),s,ds++[e],j,G,by simp,by simp[hl],λx hx=>?_⟩;rcases Wi.mp hx with z|z
  ·exact hd x z
  ·rw[Wl.mp z];exact⟨L,S⟩
 ·obtain⟨B,ms,ds,a,D,rfl,hl,hd⟩:=z;refine k _ ds C (by omega) hd (g.after λc u q=>?_);refine B c u (λz=>?_) (r.sm c u q);rw[z,r.nw]at q;cases q
def IB:Sp:=λvs H Q _=>∃c,vs=[.int c]/\∀n,Sg n->Q (.int n) H
def uG (T:Txt w K mg t):bh P w K mg base "_law_any_sign" 1 t.ze t.vC ["_law_number"] IB:=by
 refine⟨T.P9,T.FA.kp,T.SG,T.FA.okQ tL (λvs H Q E h=>by obtain⟨c,rfl,_⟩:=h;rfl) λ_ _ _ _ H vs Q E hr h=>?_⟩;obtain⟨c,rfl,k⟩:=h;have a:=hr.units;refine⟨_,(ai (aF (i:=1) tL.nd Z (.inl Z) (cJ (aa 0)))
  (ai (aF (i:=1) tL.nd rfl (.inl rfl) (aO (VQ K) (aa 1) (aO eP aj (dM rG T.n_int Xe (ad (gQ pW (aa 1) aj (aM _)) ae)))))
  (ak (aq (aO (VQ K) (aa 1) (aO eP aj (dM rG T.n_int Xe (ad (gQ pW (aa 1) aj (aM _)) ae)))))))),?_⟩
 refine⟨Or.inl ⟨by decide,by decide⟩,?_⟩;refine⟨Or.inl ⟨by decide,by decide⟩,?_⟩;refine k _ ?_;unfold Sg;simp only [decide_eq_true_eq]
 (repeat' split)<;>omega
def eV(H:Hp)(ps:List Addr)(b:List (Addr × Int × g0)):Prop:=bY (λa e=>H a=some (.tup [.int e.2.1,.ref e.1])/\H e.1=some (.lst (e.2.2.map V.int))/\1<=e.2.2.length/\e.2.2.length<=6) ps b
def eV.mono{H c:Hp}{ps:List Addr}{b:List (Addr × Int × g0)}(h:eV H ps b)(s:ah H c):eV c ps b:=h.imp λa e z=>⟨s _ _ z.1,s _ _ z.2.1,z.2.2⟩
def eV.upd{H:Hp}{ps c:List Addr}{f:List (Addr × Int × g0)}{d:Addr}{o:HO}(h:eV H ps f)(g:H d=some (.lst (c.map V.ref))):eV (upd H d o) ps f:=h.imp λa e z=>by
 refine⟨?_,?_,z.2.2⟩
 ·rw[ap (aZ z.1 g (by intro y;cases y))];exact z.1
 ·rw[ap (aZ z.2.1 g ?_)]
  ·exact z.2.1
  ·intro y;have l:=z.2.2.1;cases er:e.2.2 with
   | nil=>rw[er]at l;simp at l
   | cons b r =>
    rw[er]at y;cases c with
    | nil=>simp at y
    | cons p c=>simp at y
def Es.nil:Es []:=⟨(λe h=>nomatch h),.nil,by decide⟩
def Es.snoc{c:List (Int × g0)}{s:Int}{r:g0}(h:Es c)(hs:Sg s)(l1:1<=r.length)(g:r.length<=6)(hb:∀b∈r,0<=b/\b<=255)(new:s∉c.map λe=>e.1)(d:gw r (c.map λe=>e.2)=true)(hl:c.length<64):Es (c++[(s,r)]):=by
 refine⟨λe a=>?_,List.pairwise_append.mpr ⟨h.pw,List.pairwise_singleton _ _,λe a f i=>?_⟩,by rw[Wb];simp;omega⟩
 ·rcases Wi.mp a with a|a
  ·exact h.sg e a
  ·rw[Wl.mp a];exact⟨hs,l1,g,hb⟩
 ·rw[Wl.mp i];unfold gw at d;have:=WW.mp d e.2 (Wr.mpr ⟨e,a,rfl⟩);have ne:¬e.1=s:=λz=>new (Wr.mpr ⟨e,a,z⟩);unfold eR;simp at this;simp[ne,this]
structure Tb (H:Hp) (p:Addr) (ps:List Addr) (es:List (Addr × Int × g0)):Prop where
 h:H p=some (.lst (ps.map V.ref))
 e:eV H ps es
 ok:Es (es.map λe=>e.2)
def Tb.mono{H b:Hp}{p:Addr}{ps:List Addr}{a:List (Addr × Int × g0)}(h:Tb H p ps a)(s:ah H b):Tb b p ps a:=⟨s _ _ h.h,h.e.mono s,h.ok⟩
def Tb.l{H:Hp}{p:Addr}{ps:List Addr}{a:List (Addr × Int × g0)}(h:Tb H p ps a):ps.length<=64:=by
 have:=h.ok.l;rw[V4]at this;have:=h.e.1;omega
def Tb.en{H:Hp}{p:Addr}{ps:List Addr}{c:List (Addr × Int × g0)}(h:Tb H p ps c):Al H ps (c.map λe=>e.2):=by
 refine⟨by rw[V4];exact h.e.1,λi a e f d=>?_⟩;rw[We]at d;obtain⟨e',b,rfl⟩:=WR.mp d;obtain⟨k1,k2,k3⟩:=h.e.2 i a e' f b
 exact⟨⟨e'.1,k1,k2⟩,k3⟩
def CI(a:List (Addr × Int × g0)):(a.map λe=>e.2).map (λe=>e.1)=a.map λe=>e.2.1:=by rw[WY];rfl
def CH(a:List (Addr × Int × g0)):(a.map λe=>e.2).map (λe=>e.2)=a.map λe=>e.2.2:=by rw[WY];rfl
def bI(S:List Addr)(H a:Hp):Prop:=∀c u,c∉S->H c=some u->a c=some u
def bI.trans{S:List Addr}{H b a:Hp}(h:bI S H b)(h':bI S b a):bI S H a:=λc u n e=>h' c u n (h c u n e)
def bI.of{S:List Addr}{H a:Hp}(h:ah H a):bI S H a:=λc u _ e=>h c u e
def bI.wide{S T:List Addr}{H a:Hp}(h:bI S H a)(k:∀c∈S,c∈T):bI T H a:=λc u n e=>h c u (λz=>n (k c z)) e
def bI.upd{S:List Addr}{H:Hp}{a:Addr}{o:HO}(h:a∈S):bI S H (upd H a o):=λc u n e=>by rw[ap (λz=>n (by rw[z];exact h))];exact e
def bI.seq{S:List Addr}{H b:Hp}{a:Addr}{xs:List V}(h:bI S H b)(n:a∉S)(e:H a=some (.lst xs)):aI K b a xs:=.of (h _ _ n e)
def fV(H:Hp)(a:Addr):Prop:=∃ms:g0,H a=some (.lst (ms.map V.int))/\ms≠[]
def jg(H:Hp)(a:Addr):Prop:=∃ns:g0,H a=some (.lst (ns.map V.int))/\Pg ns
def Id:Sp:=λvs H Q _=>∃(pt:Addr),vs=[.ref pt]/\fV H pt/\∀(p q r:Addr) (ns us:g0) H',bI [pt] H H'->H' p=some (.lst [.ref q,.ref r])->H' q=some (.lst (ns.map V.int))->H' r=some (.lst (us.map V.int))->Pg ns->Pg us->Q (.ref p) H'
def OD (T:Txt w K mg t):bh P w K mg base "_law_free_lists" 2 t.y9 t.vx ["_law_pot_here"] Id:=by
 refine⟨T.P4,T.Fv.kp,T.SA,T.Fv.okQ f9 (λvs H Q E h=>by obtain⟨pt,rfl,_⟩:=h;rfl) λ_ _ _ _ H vs Q E hr h=>?_⟩;obtain⟨pt,rfl,av,k⟩:=h;have hu:=hr.units;refine⟨_,(ai (aF (i:=1) f9.nd Z (.inl Z) (aT ae))
  (ai (aF (i:=2) f9.nd rfl (.inl rfl) (aT ae))
  (ai (cm PassesOwn.never rfl (cO (K:=K) rfl (aT (ad aj (ad aj ae)))) (bb (i:=3) f9.nd rfl (.inl rfl)) (ai (aF (i:=4) f9.nd rfl (.inl rfl) (aT ae))
  (ai (cm PassesOwn.never rfl (gN rfl T.n_range (ad (aE (gu T) hr (ad (aa 0) (ad aj ae))) ae)) (bb (i:=5) f9.nd rfl (.inl rfl)) (ai (aF (i:=6) f9.nd rfl (.inl rfl) (aE (gu T) hr (ad (aa 0) (ad (aO (VQ K) aj (bp (VS K) T.n_len Wj (ad (aa 2) ae))) ae))))
  (ai (aF (i:=7) f9.nd rfl (.inl rfl) (aE (uG T) hr (ad (aO c7 (aa 6) (bp (VS K) T.n_len Wj (ad (aa 2) ae))) ae)))
  (ai (aF (i:=8) f9.nd rfl (.inl rfl) (aK (VT K) (aO (VQ K) (aa 2) (aT (ad (aa 7) ae))) (bp (RN rfl) T.n_min PyProof.Rows.boot_min (ad (aa 6) (ad (bp (VS K) T.n_len Wj (ad (aa 2) ae)) ae))) (λ_ _=>rfl)))
  (ak (aQ (aJ (uN (K:=K) rfl) (aa 8) (aa 4) (by with_unfolding_all rfl)) (ak (bE (cq (K:=K) rfl Wp WB WC dO (aa 4) (ad (aa 8) ae)))) aR))))))
  (ai (bE (cq (K:=K) rfl Wp WB WC dO (aa 1) (ad (aa 4) ae)))
  (ak (aF (i:=2) f9.nd rfl (.inl rfl) (aa 4)))))))
  (ak (aq (aa 1)))))),?_⟩
 obtain⟨m0,p,_⟩:=id av;refine⟨sz Z,λpl H1 W=>?_⟩;refine⟨sz Z,λa4 H2 g2=>?_⟩;refine⟨sz Z,λz HZ gZ=>?_⟩;have aP:=W.sm.trans (g2.sm.trans gZ.sm);have plZ:HZ pl=some (.lst []):=gZ.sm _ _ (g2.sm _ _ W.at_);have potZ:fV HZ pt:=by obtain⟨ms,a,b⟩:=av;exact⟨ms,aP _ _ a,b⟩
 have al:pl≠pt:=(au p W.nw).symm;have b5:a4≠pt:=(au (W.sm _ _ p) g2.nw).symm;have b8:a4≠pl:=(au W.at_ g2.nw).symm;have aZ:z≠pt:=(au (g2.sm _ _ (W.sm _ _ p)) gZ.nw).symm;have b6:z≠pl:=(au (g2.sm _ _ W.at_) gZ.nw).symm;refine⟨z,Z,⟨_,gZ.lst⟩,fP (K:=K) (a:=z) (xs:=[V.int 0,V.int 1]) (λi σ l=>bI [pt,pl] HZ l/\fV l pt/\(∃L:List Addr,L.length=i/\l pl=some (.lst (L.map V.ref))/\∀q∈L,q≠pt/\q≠pl/\jg l q)/\∃(M:Addr) (v3 v4 J N I G:Option V),M≠pt/\M≠pl/\jg l M/\σ=[some (.ref pt),some (.ref pl),some (.ref M),v3,v4,J,N,I,G])
  ⟨bI.of (ah.refl _),potZ,⟨[],rfl,plZ,(λq h=>nomatch h)⟩,a4,_,_,_,_,_,_,b5,b8,⟨[],gZ.sm _ _ g2.at_,(λ_ h=>nomatch h),.nil,by decide⟩,rfl⟩ (λi σ l _ z'=>z'.1.seq (by simp[aZ,b6]) gZ.at_) ?_ ?_⟩
 ·rintro i xg σ H3 b7 ⟨a6,Y,⟨L,lq,f,o⟩,M,v3,v4,J,N,I,G,aB,br,b3,rfl⟩;refine⟨sz Z,λps H4 D=>?_⟩;obtain⟨m3,a0,aH⟩:=Y;have s:ps≠pt:=(au a0 D.nw).symm;have x:ps≠pl:=(au f D.nw).symm;obtain⟨es,am,B⟩:=b3;have aX:ps≠M:=(au am D.nw).symm;dsimp only [cK];refine jv (λσ' l=>bI [pt,ps] H4 l/\fV l pt/\jg l ps/\∃J N I G,σ'=[some (.ref pt),some (.ref pl),some (.ref M),some xg,some (.ref ps),J,N,I,G]) (λnx hn=>?_) ?_
  ·refine⟨pt,9,m3,rfl,by omega,by omega,D.sm _ _ a0,aH,λd ba H5 d0 d1 ay aG aL=>?_⟩;have aM:bI [pt,ps] H4 H5:=λc u n e=>aL c u (λz=>n (by simp[z])) e;refine⟨d,rfl,by omega,by omega,?_⟩;refine iy (lo:=0) (n:=d.toNat) (λj σ l=>bI [pt,ps] H4 l/\fV l pt/\(∃ns:g0,l ps=some (.lst (ns.map V.int))/\(∀n∈ns,Sg n)/\ns.Nodup/\ns.length<=j)/\∃J N I G,σ=[some (.ref pt),some (.ref pl),some (.ref M),some xg,some (.ref ps),J,N,I,G])
    ⟨aM,⟨ba,aG,ay⟩,⟨[],aL _ _ s D.at_,(λ_ h=>nomatch h),.nil,V5 _⟩,_,_,_,_,rfl⟩ ?_ ?_
   ·rintro j σ H6 hj ⟨k6,⟨m6,an,aC⟩,⟨ns,F,O,R,bg⟩,J,N,I,G,rfl⟩;have S:H6 M=some (.lst (es.map V.int)):=k6 _ _ (by simp[aB,aX.symm]) (D.sm _ _ am);refine⟨_,.inl (.of S),?_⟩;refine⟨pt,1111808+es.length,m6,by rw[V4,Xx];rfl,by omega,by have:=B.2.2;omega,an,aC,λd' m7 H7 bD bt ar aI a8=>?_⟩;have C:=a8 _ _ aB S;have aD:=a8 _ _ s F;refine⟨_,.inl (.of C),?_⟩;refine⟨_,Z,λn sn=>?_⟩;refine⟨sz Z,λp8 H8 g8=>?_⟩;refine⟨_,_,.of (g8.sm _ _ C),g8.lst,bA (by rw[V4];have:=B.2.2;show _+1<=_;omega),λp9 H9 g9=>?_⟩;have ao:=g9.sm _ _ (g8.sm _ _ C);refine⟨_,.inl (.of ao),?_⟩;have e9:es.map V.int++[V.int n]=(es++[n]).map V.int:=by simp
    rw[e9]at g9;obtain⟨v,hv,ev,_⟩:=yN (xs:=(es++[n]).map V.int) (i:=if ((es.map V.int).length:Int)<d' then ((es.map V.int).length:Int) else d') (by split<;>omega) (by simp;split<;>omega);obtain⟨n',bd,rfl⟩:=Wr.mp hv;have bc:Sg n':=by
     rcases Wi.mp bd with z|z
     ·exact B.1 n' z
     ·rw[Wl.mp z];exact sn
    refine⟨_,.int n',.inl g9.lst,ev,?_⟩;have g:=g9.sm _ _ (g8.sm _ _ aD);have k9:bI [pt,ps] H4 H9:=λc u m e=>g9.sm _ _ (g8.sm _ _ (a8 c u (λz=>m (by simp[z])) (k6 c u m e)));have a3:fV H9 pt:=⟨m7,g9.sm _ _ (g8.sm _ _ aI),ar⟩;refine⟨_,.inl (.of g),Z,uW _,?_⟩;refine aw (λy=>?_) (λy=>?_)
    ·have y:(!eE (.int n') (ns.map V.int))=true:=y;rw[pP]at y;have y:n'∉ns:=by simpa using y
     refine⟨.inl ⟨rfl,_,.of g⟩,?_⟩;refine⟨_,g,cZ (by rw[V4];omega),?_⟩;refine⟨k9.trans (bI.upd (by simp)),?_,⟨ns++[n'],by rw[az,Wm];rfl,λm hm=>?_,?_,by rw[Wb];simp;omega⟩,_,_,_,_,rfl⟩
     ·obtain⟨a,b,c⟩:=a3;exact⟨a,by rw[ap s.symm];exact b,c⟩
     ·rcases Wi.mp hm with z|z
      ·exact O m z
      ·rw[Wl.mp z];exact bc
     ·refine Yb.mpr ⟨R,by simp,λa ha b hb e=>?_⟩;rw[Wl.mp hb]at e;rw[e]at ha;exact y ha
    ·exact⟨k9,a3,⟨ns,g,O,R,by omega⟩,_,_,_,_,rfl⟩
   ·rintro σ H6 ⟨k6,aS,⟨ns,F,O,R,bg⟩,J,N,I,G,rfl⟩;exact hn _ _ ⟨k6,aS,⟨ns,F,O,R,by omega⟩,_,_,_,_,rfl⟩
  ·rintro σ' H5 ⟨k5,ax,aA,J,N,I,G,rfl⟩;have U:H5 pl=some (.lst (L.map V.ref)):=k5 _ _ (by simp[al,x.symm]) (D.sm _ _ f);have bH:L.length<=2:=by
    have:=(V8.mp b7).1;simp at this;omega
   refine⟨.inl ⟨rfl,_,.of U⟩,?_⟩;refine⟨_,U,cZ (by rw[V4];omega),?_⟩;have up:∀q,q≠pl->jg H5 q->jg (upd H5 pl (.lst (L.map V.ref++[.ref ps]))) q:=λq n h=>by
    obtain⟨a,b,c⟩:=h;exact⟨a,by rw[ap n];exact b,c⟩
   have be:∀q,q≠pt->q≠ps->jg H3 q->jg H5 q:=λq n1 n2 h=>by
    obtain⟨a,b,c⟩:=h;exact⟨a,k5 _ _ (by simp[n1,n2]) (D.sm _ _ b),c⟩
   refine⟨λc u m e=>?_,?_,⟨L++[ps],by rw[Wb,lq];rfl,by rw[az,Wm];rfl,λq hq=>?_⟩,ps,_,_,_,_,_,_,s,x,up ps x aA,rfl⟩
   ·have m':c≠pt/\c≠pl:=by simpa using m
    have e3:=a6 c u m e;rw[ap m'.2];exact k5 _ _ (by simp[m'.1,au e3 D.nw]) (D.sm _ _ e3)
   ·obtain⟨a,b,c⟩:=ax;exact⟨a,by rw[ap al.symm];exact b,c⟩
   ·rcases Wi.mp hq with hq|hq
    ·obtain⟨n1,n2,pq⟩:=o q hq;have nq:q≠ps:=by
      obtain⟨a,b,_⟩:=pq;exact au b D.nw
     exact⟨n1,n2,up q n2 (be q n1 nq pq)⟩
    ·rw[Wl.mp hq];exact⟨s,x,up ps x aA⟩
 ·rintro σ H3 ⟨a6,Y,⟨L,lq,f,o⟩,M,v3,v4,J,N,I,G,_,_,_,rfl⟩
  match L,lq,f,o with
  | [q,r],_,f,o =>
   obtain⟨_,_,ns,a1,b1⟩:=o q (by simp);obtain⟨_,_,us,a2,b2⟩:=o r (by simp);refine k pl q r ns us H3 (λc u m e=>a6 c u ?_ (aP _ _ e)) f a1 a2 b1 b2;have m':c≠pt:=by simpa using m
   simp[m',au e W.nw]
def eV.kps{H c:Hp}{ps:List Addr}{b:List (Addr × Int × g0)}{pt:Addr}{xs:List V}(h:eV H ps b)(g:H pt=some (.lst xs))(n:∀e∈b,e.1≠pt)(k:bI [pt] H c):eV c ps b:=by
 refine⟨h.1,λi a e f d=>?_⟩;obtain⟨k1,k2,k3⟩:=h.2 i a e f d;exact⟨k _ _ (by simpa using aZ k1 g (by intro z;cases z)) k1,k _ _ (by simpa using n e (Wo d)) k2,k3⟩
def Ib:Sp:=λvs H Q _=>∃(pt:Addr),vs=[.ref pt]/\fV H pt/\∀p ps es H',bI [pt] H H'->Tb H' p ps es->Q (.ref p) H'
def OB (T:Txt w K mg t):bh P w K mg base "_law_free_table" 2 t.y7 t.vt ["_law_pot_here"] Ib:=by
 refine⟨T.P2,T.Fr.kp,T.Sy,T.Fr.okQ jx (λvs H Q E h=>by obtain⟨pt,rfl,_⟩:=h;rfl) λ_ _ _ _ H vs Q E hr h=>?_⟩;obtain⟨pt,rfl,⟨m0,F,am⟩,k⟩:=h;have hu:=hr.units;refine⟨_,(ai (aF (i:=1) jx.nd Z (.inl Z) (aT ae))
  (ai (cm PassesOwn.never rfl (gN rfl T.n_range (ad (aE (gu T) hr (ad (aa 0) (ad aj ae))) ae)) (bb (i:=2) jx.nd rfl (.inl rfl)) (ai (aF (i:=3) jx.nd rfl (.inl rfl) (aE (uG T) hr (ad (aE (gu T) hr (ad (aa 0) (ad aj ae))) ae)))
  (ai (mx (i:=4) jx.nd rfl (.inl rfl) rfl (cz.of (fns:=(ag gL).names) (N:=["_law_pot_here", "_law_found", "_law_k", "_law_sign_here", "_law_row", "_law_twice"]) (Nc:=["_law_j", "_law_pot_here"]) (nv:=1) (caps:=[0]) rfl rfl (by decide +kernel)) (gN rfl T.n_range (ad (aO (VQ K) aj (aE (gu T) hr (ad (aa 0) (ad aj ae)))) ae)) (λ_ _ _ _=>(bb (i:=0) (show List.Nodup (["_law_j", "_law_pot_here"]:List Str) by decide +kernel) rfl (Or.inl rfl) (Or.inr rfl))) (λ_ _ _ _=>eK) (λ_ _ _ _=>(aE (gu T) hr (ad (aa 1) (ad aj ae)))))
  (ai (aF (i:=5) jx.nd rfl (.inl rfl) (gQ (Qz (K:=K) rfl) (aa 3) (eO rfl (cz.of (fns:=(ag gL).names) (N:=["_law_pot_here", "_law_found", "_law_k", "_law_sign_here", "_law_row", "_law_twice"]) (Nc:=["_law_one"]) (nv:=1) (caps:=[]) rfl rfl (by decide +kernel)) (cO (K:=K) rfl (aa 1)) (λ_ _ _ _=>(bb (i:=0) (show List.Nodup (["_law_one"]:List Str) by decide +kernel) rfl (Or.inl rfl) (Or.inr rfl))) (λ_ _ _ _=>eK) (λ_ _ _ _=>(aK (VT K) (aa 0) aj (λ_ _=>rfl)))) (by with_unfolding_all rfl)))
  (ak (aQ (cG (fL (dz (fg (K:=K) rfl (aa 5))) (gf (cV (aE (OE T) hr (ad (aa 4) (ad (eO rfl (cz.of (fns:=(ag gL).names) (N:=["_law_pot_here", "_law_found", "_law_k", "_law_sign_here", "_law_row", "_law_twice"]) (Nc:=["_law_one"]) (nv:=1) (caps:=[]) rfl rfl (by decide +kernel)) (cO (K:=K) rfl (aa 1)) (λ_ _ _ _=>(bb (i:=0) (show List.Nodup (["_law_one"]:List Str) by decide +kernel) rfl (Or.inl rfl) (Or.inr rfl))) (λ_ _ _ _=>eK) (λ_ _ _ _=>(aK (VT K) (aa 0) aj (λ_ _=>rfl)))) ae))))))) (ak (bE (cq (K:=K) rfl Wp WB WC dO (aa 1) (ad (bJ (ad (aa 3) (ad (aa 4) ae))) ae)))) aR))))))
  (ak (aq (aa 1))))),?_⟩
 refine⟨sz Z,λs H1 g1=>?_⟩;have U:s≠pt:=(au F g1.nw).symm;refine⟨pt,9,m0,rfl,by omega,by omega,g1.sm _ _ F,am,λd m2 H2 d0 d1 an ab Y=>?_⟩;refine⟨d,rfl,by omega,by omega,?_⟩;refine iy (lo:=0) (n:=d.toNat) (λi σ v=>bI [pt,s] H1 v/\fV v pt/\(∃ps f,Tb v s ps f/\f.length<=i/\∀e∈f,e.1≠pt)/\∃v2 v3 v4 v5,σ=[some (.ref pt),some (.ref s),v2,v3,v4,v5])
  ⟨λc u n e=>Y c u (λz=>n (by simp[z])) e,⟨m2,ab,an⟩,⟨[],[],⟨Y _ _ U g1.at_,bY.nil,Es.nil⟩,V5 _,(λe h=>nomatch h)⟩,_,_,_,_,rfl⟩ ?_ ?_
 ·rintro i σ H3 hi ⟨k3,⟨m3,L,a8⟩,⟨ps,f,S,bj,C⟩,v2,v3,v4,v5,rfl⟩;have O:∀ {I R:Hp} {xs:List V},Tb I s ps f->I pt=some (.lst xs)->bI [pt] I R->Tb R s ps f:=λ{I R xs} tb hp D=>⟨D _ _ (by simpa using U) tb.h,tb.e.kps hp C D,tb.ok⟩;have D:∀ {I R:Hp},(∀b u,b≠pt->I b=some u->R b=some u)->bI [pt] I R:=λ{I R} h c u n e=>h c u (by simpa using n) e;refine⟨pt,1111808,m3,rfl,by omega,by omega,L,a8,λd4 m4 H4 _ _ a6 G a4=>?_⟩;have aW:=O S L (D a4);refine⟨_,Z,λsg aA=>?_⟩;refine⟨pt,6,m4,rfl,by omega,by omega,G,a6,λd5 m5 H5 bm bl a3 J af=>?_⟩;have aS:=O aW G (D af);have aJ:bI [pt,s] H1 H5:=k3.trans (((D a4).trans (D af)).wide (by simp));refine⟨1+d5,rfl,by omega,by omega,?_⟩;refine xv (lo:=0) (n:=(1+d5).toNat) (cs:=[some (.ref pt)]) (λi ys v=>bI [pt] H5 v/\fV v pt/\∃ds:g0,ys=ds.map V.int/\ds.length=i/\∀b∈ds,0<=b/\b<=255)
   ⟨bI.of (ah.refl _),⟨m5,J,a3⟩,[],rfl,rfl,λ_ z=>nomatch z⟩ (λi ys v _ z=>?_) (bA (by omega)) (λi ys H6 N hi z hN=>?_) λys H6 pr H7 z W=>?_
  ·obtain⟨_,_,ds,rfl,hl,_⟩:=z;rw[V4];omega
  ·obtain⟨k6,⟨m6,m,B⟩,ds,rfl,hl,hd⟩:=z;refine⟨pt,256,m6,rfl,by omega,by omega,m,B,λe m7 H7 e0 e1 a1 a9 aU=>?_⟩;refine hN _ _ ⟨k6.trans (D aU),⟨m7,a9,a1⟩,ds++[e],by simp,by simp[hl],λx hx=>?_⟩;rcases Wi.mp hx with z|z
   ·exact hd x z
   ·rw[Wl.mp z];exact⟨e0,by omega⟩
  obtain⟨k6,⟨m6,m,B⟩,row,rfl,b2,rb⟩:=z;have g:=(O aS J k6).mono W.sm;have aL:bI [pt,s] H1 H7:=(aJ.trans (k6.wide (by simp))).trans (bI.of W.sm);have a2:fV H7 pt:=⟨m6,W.sm _ _ m,B⟩;have aP:pr≠pt:=(au m W.nw).symm;have be:=g.l;refine⟨s,rfl,⟨_,.of g.h⟩,jb ((f.map λe=>e.2.1).map V.int) (by rw[V4,V4,V4];exact g.e.1.symm) (.of g.h) (bA (by rw[V4];omega)) (λj x y H8 N hx hy s8 hN=>?_) λpq H8 g8=>?_⟩
  ·obtain⟨a,ha,rfl⟩:=iU hx;obtain⟨e,p,k1,k2,k3⟩:=g.e.right ha;rw[We,We,p]at hy;cases hy;exact⟨_,_,.inr (.of (s8 _ _ k1)),aX (j:=0) Z,hN _ (ah.refl _)⟩
  have o:=g.mono g8.sm;refine⟨_,.inl g8.lst,Z,uW _,?_⟩;have go:∀v,ah H7 v->bI [pt,s] H1 v/\fV v pt:=λv s'=>⟨aL.trans (bI.of s'),by obtain⟨a,b,c⟩:=a2;exact⟨a,s' _ _ b,c⟩⟩;refine aw (λz1=>?_) (λz1=>?_)
  ·refine⟨s,rfl,⟨_,.of o.h⟩,jb (f.map λe=>V.ref e.1) (by rw[V4,V4];exact o.e.1.symm) (.of o.h) (bA (by rw[V4];omega)) (λj x y H9 N hx hy s9 hN=>?_) λaH H9 g9=>?_⟩
   ·obtain⟨a,ha,rfl⟩:=iU hx;obtain⟨e,p,k1,k2,k3⟩:=o.e.right ha;rw[We,p]at hy;cases hy;exact⟨_,_,.inr (.of (s9 _ _ k1)),aX (j:=1) Z,hN _ (ah.refl _)⟩
   have al:=o.mono g9.sm;have a0:=g8.sm.trans g9.sm;refine⟨pr,aH,row,f.map (λe=>e.1),f.map (λe=>e.2.2),Z,a0.seq W.lst,?_,?_,λHA sA=>?_⟩
   ·rw[WY];exact g9.lst
   ·refine⟨by rw[V4,V4],λj q r hq hr=>?_⟩;rw[We]at hq hr;obtain⟨e,p,rfl⟩:=WR.mp hq;rw[p]at hr;cases hr;obtain⟨a,ha,k1,k2,k3⟩:=al.e.left p;exact .of k2
   have tbA:=al.mono sA;have M:=a0.trans sA;refine aw (λz2=>?_) (λz2=>?_)
   ·refine⟨.inl ⟨rfl,_,.of tbA.h⟩,?_⟩;refine⟨sz Z,λpb HB gB=>?_⟩;have tbB:=tbA.mono gB.sm;refine⟨_,tbB.h,cZ (by rw[V4];omega),?_⟩;have rB:HB pr=some (.lst (row.map V.int)):=gB.sm _ _ (M _ _ W.at_);have one:eV HB [pb] [(pr,sg,row)]:=bY.cons ⟨gB.at_,rB,by show 1<=row.length;omega,by show row.length<=6;omega⟩ bY.nil;have aM:gw row ((f.map λe=>e.2).map λe=>e.2)=true:=by rw[CH];exact z2
    have new:sg∉(f.map λe=>e.2).map λe=>e.1:=by
     rw[CI];have z1:(!eE (.int sg) ((f.map λe=>e.2.1).map V.int))=true:=z1;rw[pP]at z1;simpa using z1
    have aN:Es ((f++[(pr,sg,row)]).map λe=>e.2):=by rw[Wm];exact Es.snoc g.ok aA (by omega) (by omega) rb new aM (by rw[V4];omega)
    obtain⟨kB,potB⟩:=go HB (M.trans gB.sm);refine⟨kB.trans (bI.upd (by simp)),?_,⟨ps++[pb],f++[(pr,sg,row)],⟨?_,?_,aN⟩,?_,λe p=>?_⟩,_,_,_,_,rfl⟩
    ·obtain⟨a,b,c⟩:=potB;exact⟨a,by rw[ap U.symm];exact b,c⟩
    ·rw[az,Wm];rfl
    ·exact eV.upd (bY.app tbB.e one) tbB.h
    ·rw[Wb];simp;omega
    ·rcases Wi.mp p with p|p
     ·exact C e p
     ·rw[Wl.mp p];exact aP
   ·obtain⟨a,b⟩:=go HA M;exact⟨a,b,⟨ps,f,tbA,by omega,C⟩,_,_,_,_,rfl⟩
  ·obtain⟨a,b⟩:=go H8 g8.sm;exact⟨a,b,⟨ps,f,o,by omega,C⟩,_,_,_,_,rfl⟩
 ·rintro σ H3 ⟨k3,_,⟨ps,f,S,_⟩,v2,v3,v4,v5,rfl⟩;refine k s ps f H3 (λc u n e=>k3 c u ?_ (g1.sm _ _ e)) S;have:c≠pt:=by simpa using n
  simp[this,au e g1.nw]
def HI:Sp:=λvs H Q _=>∃(c:Int),vs=[.int c]/\∀(q:Addr) (ns:g0) H',ah H H'->H' q=some (.lst (ns.map V.int))->Pg ns->ns≠[]->Q (.ref q) H'
def Ow (T:Txt w K mg t):bh P w K mg base "_law_pool" 2 t.yU t.ve ["_law_cell"] HI:=by
 refine⟨T.PP,T.Fh.kp,T.Sn,T.Fh.okQ mh (λvs H Q E h=>by obtain⟨c,rfl,_⟩:=h;rfl) λ_ _ _ _ H vs Q E hr h=>?_⟩;obtain⟨c,rfl,k⟩:=h;have O:=hr.units;have m:(2:Int) ^ 64=18446744073709551616:=by decide
 refine⟨_,(ai (aF (i:=1) mh.nd Z (.inl Z) (cJ (aa 0)))
  (ai (aF (i:=2) mh.nd rfl (.inl rfl) (aT ae))
  (ai (cm PassesOwn.never rfl (gN rfl T.n_range (ad aj ae)) (bb (i:=3) mh.nd rfl (.inl rfl)) (ai (aF (i:=1) mh.nd rfl (.inl rfl) (cJ (aO (VQ K) (aO (VQ K) (aO (VQ K) (aO eP (aa 1) (aa 1)) (aO eP aj (aa 1))) (aO eP aj (aa 3))) aj)))
  (ak (aQ (cG (fL (aJ (uN (K:=K) rfl) (aE (uD T) hr (ad (dY (aa 1)) ae)) (aa 2) (by with_unfolding_all rfl)) (gf (aJ dl (bp (VS K) T.n_len Wj (ad (aa 2) ae)) aj (aM _))))) (ak (bE (cq (K:=K) rfl Wp WB WC dO (aa 2) (ad (aE (uD T) hr (ad (dY (aa 1)) ae)) ae)))) aR))))
  (ak (aq (aa 2)))))),?_⟩
 refine⟨sz Z,λp N r=>?_⟩;refine⟨24,rfl,by decide,by decide,?_⟩;refine iy (lo:=0) (n:=24) (λi σ C=>ah H C/\∃(a:Int) (ns:g0) (o:Option V),0<=a/\a<2147483629/\C p=some (.lst (ns.map V.int))/\Pg ns/\(0<i->ns≠[])/\σ=[some (.int c),some (.int a),some (.ref p),o])
  ⟨r.sm,c%2147483629,[],_,by omega,by omega,r.at_,⟨(λ_ h=>nomatch h),by simp,by simp⟩,(λh=>YC h (by decide)),rfl⟩ ?_ ?_
 ·rintro i σ u R ⟨f,a,ns,o,G,D,l,⟨hs,nd,ln⟩,ne,rfl⟩;refine⟨Or.inl ⟨by omega,by omega⟩,?_⟩;refine⟨Or.inl ⟨by decide,by decide⟩,?_⟩;refine⟨Or.inl ⟨by decide,by decide⟩,?_⟩;have j:0<=(a*a+48271*a+31*(0+(i:Int))+7)%2147483629:=by omega
  have s:(a*a+48271*a+31*(0+(i:Int))+7)%2147483629<2147483629:=by omega
  obtain⟨v,M⟩:∃v,v=(a*a+48271*a+31*(0+(i:Int))+7)%2147483629:=⟨_,rfl⟩;refine⟨_,Z,λJ g=>?_⟩;have d:=g _ _ l;refine⟨_,.inl (.of d),Z,uW ns,?_⟩;refine aw (λe=>?_) (λe=>?_)
  ·have e:(!eE (.int (f6 ((a*a+48271*a+31*(0+(i:Int))+7)%2147483629/8))) (ns.map V.int))=true:=e;rw[pP]at e;have I:f6 ((a*a+48271*a+31*(0+(i:Int))+7)%2147483629/8)∉ns:=by simpa using e
   refine⟨_,.inl (.of d),?_⟩;refine aw (λb=>?_) (λb=>?_)
   ·have b:((ns.map V.int).length:Int)<8:=YD b;rw[V4]at b;refine⟨.inl ⟨rfl,_,.of d⟩,?_⟩;refine⟨_,Z,λL B=>?_⟩;refine⟨_,B _ _ d,cZ (by simp;omega),?_⟩;refine⟨((f.trans g).trans B).put r.nw,_,ns++[f6 ((a*a+48271*a+31*(0+(i:Int))+7)%2147483629/8)],_,j,s,?_,⟨?_,?_,by simp;omega⟩,(λ_=>by simp),rfl⟩
    ·rw[az,Wm];rfl
    ·intro x hx;rcases Wi.mp hx with q|q
     ·exact hs x q
     ·rw[Wl.mp q];exact Bn _
    ·refine Yb.mpr ⟨nd,by simp,λx hx y F e=>?_⟩;rw[Wl.mp F]at e;rw[e]at hx;exact I hx
   ·refine⟨f.trans g,_,ns,_,j,s,d,⟨hs,nd,ln⟩,λ_ z=>?_,Z⟩;have b:¬((ns.map V.int).length:Int)<8:=λy=>b (YE y);rw[z]at b;exact b (by decide)
  ·refine⟨f.trans g,_,ns,_,j,s,d,⟨hs,nd,ln⟩,λ_ z=>?_,Z⟩;have e:¬(!eE (.int (f6 ((a*a+48271*a+31*(0+(i:Int))+7)%2147483629/8))) (ns.map V.int))=true:=e;rw[pP,z]at e;exact e (by simp)
 ·rintro σ u ⟨f,a,ns,o,G,D,l,pg,ne,rfl⟩;exact k p ns u f l pg (ne (by decide))
def ir:List (g0):=[[1],[2,1],[2,2],[3,1,1],[3,1,2],[3,2],[4,4,4,4,4,4],[0,255]]
def BM:∀i<8,1<=(ir.getD i []).length/\(ir.getD i []).length<=6/\(∀b∈ir.getD i [],0<=b/\b<=255)/\∀j<8,j≠i->gw (ir.getD i []) [ir.getD j []]=true:=by decide
def Hu(K:PySem.W.Frag):Sp:=λvs H Q _=>∃(p:Addr) (ns:g0) (c:Int),vs=[.ref p,.int c]/\H p=some (.lst (ns.map V.int))/\Pg ns/\∀q ps es H',ah H H'->Tb H' q ps es->Q (.ref q) H'
def Ov (T:Txt w K mg t):bh P w K mg base "_law_table" 1 t.yR t.uZ ["_law_pool_here", "_law_cell"] (Hu K):=by
 refine⟨T.PL,T.Fe.kp,T.Sk,T.Fe.okQ Bs (λvs H Q E h=>by obtain⟨p,ns,c,rfl,_⟩:=h;rfl) λ_ _ _ _ H vs Q E hr h=>?_⟩;obtain⟨p,ns,c,rfl,hp,pg,k⟩:=h;have hu:=hr.units;refine⟨_,(ai (aF (i:=2) Bs.nd Z (.inr Z) (aT (ad (aT (ad aj ae)) (ad (aT (ad aj (ad aj ae))) (ad (aT (ad aj (ad aj ae))) (ad (aT (oX Z)) (ad (aT (oX Z)) (ad (aT (ad aj (ad aj ae))) (ad (aT (oX Z)) (ad (aT (ad aj (ad aj ae))) ae))))))))))
  (ak (aq (eO rfl (cz.of (fns:=(ag iL).names) (N:=["_law_pool_here", "_law_cell", "_law_rows"]) (Nc:=["_law_k", "_law_sign_here", "_law_rows", "_law_cell"]) (nv:=2) (caps:=[2,1]) rfl rfl (by decide +kernel)) (gO (K:=K) rfl rfl T.n_enumerate (ad (aa 0) ae)) (λ_ _ _ _=>(fN (K:=K) rfl (n:=2) rfl (cF (bb (i:=0) (show List.Nodup (["_law_k", "_law_sign_here", "_law_rows", "_law_cell"]:List Str) by decide +kernel) rfl (Or.inl rfl) (Or.inr rfl)) (cF (bb (i:=1) (show List.Nodup (["_law_k", "_law_sign_here", "_law_rows", "_law_cell"]:List Str) by decide +kernel) rfl (Or.inl rfl) (Or.inr rfl)) fM)))) (λ_ _ _ _=>(mw (aJ lL (cJ (aO (VQ K) (aa 3) (aO eP (aa 0) (aa 0)))) aj (aM _)))) (λ_ _ _ _=>(bJ (ad (aa 1) (ad (aK (VT K) (aa 2) (cJ (aO (VQ K) (aa 0) (dY (aa 3)))) (λ_ _=>rfl)) ae)))))))),?_⟩
 refine⟨sz Z,λr0 H1 g1=>?_⟩;refine⟨sz Z,λr1 H2 g2=>?_⟩;refine⟨sz Z,λr2 H3 g3=>?_⟩;refine⟨sz Z,λr3 H4 g4=>?_⟩;refine⟨sz Z,λr4 H5 g5=>?_⟩;refine⟨sz Z,λr5 H6 g6=>?_⟩;refine⟨sz Z,λr6 H7 g7=>?_⟩;refine⟨sz Z,λr7 H8 g8=>?_⟩;refine⟨sz Z,λrr H9 g9=>?_⟩;have s:=g9.sm;have J:=g8.sm.trans s;have C:=g7.sm.trans J;have u:=g6.sm.trans C;have F:=g5.sm.trans u;have m:=g4.sm.trans F;have M:=g3.sm.trans m;have D:=g2.sm.trans M;have r:=g1.sm.trans D;have v:∀i:Int,0<=i->i<8->∃q,cD [V.ref r0,.ref r1,.ref r2,.ref r3,.ref r4,.ref r5,.ref r6,.ref r7] i=some (.ref q)/\H9 q=some (.lst ((ir.getD i.toNat []).map V.int)):=by
  intro i i0 i8;rcases (show i=0\/i=1\/i=2\/i=3\/i=4\/i=5\/i=6\/i=7 by omega) with e|e|e|e|e|e|e|e<;>rw[e]
  ·exact⟨_,Z,D _ _ g1.at_⟩
  ·exact⟨_,Z,M _ _ g2.at_⟩
  ·exact⟨_,Z,m _ _ g3.at_⟩
  ·exact⟨_,Z,F _ _ g4.at_⟩
  ·exact⟨_,Z,u _ _ g5.at_⟩
  ·exact⟨_,Z,C _ _ g6.at_⟩
  ·exact⟨_,Z,J _ _ g7.at_⟩
  ·exact⟨_,Z,s _ _ g8.at_⟩
 have L:=r _ _ hp;refine⟨p,_,Z,.of L,?_⟩;refine xw (K:=K) (a:=p) (xs:=ns.map V.int) (λi O G=>ah H9 G/\∃(ps:List Addr) (d:List (Addr × Int × g0)),O=ps.map V.ref/\eV G ps d/\Es (d.map λe=>e.2)/\(∀e∈d,∃j<i,ns[j]? = some e.2.1/\e.2.2=ir.getD (((j:Int)+c/8)%8).toNat [])/\ps.length<=i) ⟨ah.refl _,[],[],rfl,bY.nil,Es.nil,(λ_ h=>nomatch h),V5 _⟩ (λi O G hi z=>⟨.of (z.1 _ _ L),?_⟩) (bA (by rw[V4];have:=pg.2.2;omega)) (λi x O G HB N hx z sB hN=>?_) λO G pr HB z gB=>?_
 ·obtain⟨_,ps,d,rfl,_,_,_,l⟩:=z;rw[V4];exact l
 ·obtain⟨s',ps,d,rfl,en,ok,B,l⟩:=z;obtain⟨n,R,rfl⟩:=dD hx;have f:=s'.trans sB;have li:=(V8.mp R).1;have l8:=pg.2.2;refine⟨Or.inl ⟨by omega,by omega⟩,?_⟩;refine aw (λz=>?_) (λz=>?_)
  ·obtain⟨q,Y,hq⟩:=v (((i:Int)+c/8)%8) (by omega) (by omega);refine⟨_,_,.inl (.of (f _ _ g9.at_)),Y,?_⟩;refine⟨sz rfl,λp5 HD gD=>hN _ _ ⟨f.trans gD.sm,ps++[p5],d++[(q,n,ir.getD (((i:Int)+c/8)%8).toNat [])],by rw[Wm];rfl,?_,?_,?_,by rw[Wb];show _+1<=_;omega⟩⟩
   ·obtain⟨a1,W,a3,a4⟩:=BM (((i:Int)+c/8)%8).toNat (by omega);exact bY.app (en.mono (sB.trans gD.sm)) (bY.cons ⟨gD.at_,gD.sm _ _ (f _ _ hq),a1,W⟩ bY.nil)
   ·obtain⟨a1,W,a3,a4⟩:=BM (((i:Int)+c/8)%8).toNat (by omega);rw[Wm];refine Es.snoc ok (pg.1 n (Wo R)) a1 W a3 (λy=>?_) (WW.mpr λo ho=>?_) (by rw[V4];have:=en.1;omega)
    ·rw[CI]at y;obtain⟨e,g,S⟩:=Wr.mp y;obtain⟨j,jl,I,_⟩:=B e g;rw[S]at I;have:=(List.getElem?_inj (by omega) pg.2.1).mp (I.trans R.symm);omega
    ·rw[CH]at ho;obtain⟨e,g,S⟩:=Wr.mp ho;obtain⟨j,jl,_,U⟩:=B e g;rw[U]at S;have:=a4 (((j:Int)+c/8)%8).toNat (by omega) (by omega);rw[S]at this;unfold gw at this;simpa using this
   ·intro e g;rcases Wi.mp g with y|y
    ·obtain⟨j,jl,a,b⟩:=B e y;exact⟨j,by omega,a,b⟩
    ·rw[Wl.mp y];exact⟨i,by omega,R,rfl⟩
  ·refine hN _ _ ⟨f,ps,d,rfl,en.mono sB,ok,λe g=>?_,by omega⟩;obtain⟨j,jl,a,b⟩:=B e g;exact⟨j,by omega,a,b⟩
 ·obtain⟨s',ps,d,rfl,en,ok,B,l⟩:=z;exact k pr ps d HB (r.trans (s'.trans gB.sm)) ⟨gB.at_,en.mono gB.sm,ok⟩
def dC(f:Fp):List Addr:=[f.pp,f.pl,f.ps,f.d0,f.d1,f.l0,f.l1,f.s0,f.s1]
def Nw(H:Hp):Kt->Prop
 | .sh f _ _=>∀c∈dC f,H c=none
 | _=>True
def TN.less{H d:Hp}{o:Addr}{D:Kt}{X:List Addr}(h:TN t d o D)(n:Nw H D)(s:ah H d)(hX:∀a∈X,∃us,H a=some (.lst us)):TN t (wo d X) o D:=by
 have keep:∀c u,d c=some u->(∀us,u ≠ .lst us)->wo d X c=some u:=λc u e k=>dq (λz=>by
  obtain⟨us,g⟩:=hX c z;rw[s _ _ g]at e;exact k us (Wt e).symm) e
 cases D with
 | ld=>obtain⟨dx,h⟩:=h;exact⟨dx,keep _ _ h (λ_ z=>by cases z)⟩
 | br=>obtain⟨dx,h⟩:=h;exact⟨dx,keep _ _ h (λ_ z=>by cases z)⟩
 | pr b=>obtain⟨dx,h⟩:=h;exact⟨dx,keep _ _ h (λ_ z=>by cases z)⟩
 | tb f es =>
  obtain⟨⟨o,⟨k1,k2,k3,j,v,r,l1,p,i,l⟩,ne⟩,ok⟩:=h
  exact⟨⟨keep _ _ o (λ_ z=>by cases z),⟨k1,k2,k3,keep _ _ j (λ_ z=>by cases z),keep _ _ v (λ_ z=>by cases z),keep _ _ r (λ_ z=>by cases z),l1,p,i,l.mono λq xs e=>keep _ _ e (λ_ z=>by cases z)⟩,ne⟩,ok⟩
 | sh f ns ms =>
  have h:Tg t d o f ns ms:=h;refine Tg.keep h λc u m e=>?_;rcases Wh.mp m with z|z
  ·rw[z]at e ⊢;rw[h.o]at e;cases e;exact keep _ _ h.o (λ_ z=>by cases z)
  ·refine dq (λy=>?_) e;obtain⟨us,g⟩:=hX c y;rw[n c z]at g;cases g
def lY(D:Kt){n:Int}(h:Sg n):Yn D n:=by
 refine⟨h,?_⟩;cases D with
 | ld=>exact .inl h
 | pr b=>exact .inl h
 | br=>exact .inr trivial
 | sh f ns ms =>
  by_cases a:n∈ns
  ·exact .inl (.inl a)
  ·by_cases b:n∈ms
   ·exact .inl (.inr b)
   ·exact .inr ⟨a,b⟩
 | tb f es =>
  by_cases a:∃e∈es,e.1=n
  ·exact .inl a
  ·exact .inr λe c z=>a ⟨e,c,z⟩
def Et{p:Addr}{ns:g0}{cs:St}{h:TT}{H:Hp}{Q:VK}(j:H p=some (.lst (ns.map V.int)))(pg:Pg ns)(ht:∀(i:Nat) (n:Int) (c:Hp) (R:Bool->Hp->Prop),i<8->(∀b,R b c)->h (some (.int (i:Int))::some (.int n)::cs) c R)
 (k:∀(zs:g0) q c,Pg zs->ah H c->c q=some (.lst (zs.map V.int))->Q (.ref q) c):ik (iG K p) H (List.replicate 2 none++cs) (mR K 2 (lN (cK 0) (lN (cK 1) pX))) h (mV 1) Q:=by
 refine xw (K:=K) (a:=p) (xs:=ns.map V.int) (λi e c=>ah H c/\∃zs:g0,e=zs.map V.int/\zs.Sublist (ns.take i)) ⟨ah.refl _,[],rfl,List.Sublist.slnil⟩ (λi e c l z=>⟨.of (z.1 _ _ j),?_⟩) (bA (by rw[V4];have:=pg.2.2;omega)) (λi x e c HB N hx z sB hN=>?_) λe c pr HB z gB=>?_
 ·obtain⟨_,zs,rfl,d⟩:=z;have:=d.length_le;rw[Wa]at this;rw[V4];omega
 ·obtain⟨f,zs,rfl,d⟩:=z;obtain⟨n,g,rfl⟩:=dD hx;have m:=(V8.mp g).1;refine ht i n HB _ (by have:=pg.2.2;omega) λb=>?_;cases b with
  | true =>
   refine hN _ _ ⟨f.trans sB,zs++[n],by rw[Wm];rfl,?_⟩;rw[db g];exact List.Sublist.append d (List.Sublist.refl _)
  | false =>
   refine hN _ _ ⟨f.trans sB,zs,Z,?_⟩;rw[db g];exact d.trans (List.sublist_append_left _ _)
 ·obtain⟨f,zs,rfl,d⟩:=z;rw[V4,Wg]at d;exact k zs pr HB (pg.sub d) (f.trans gB.sm) gB.at_
def Hr(K:PySem.W.Frag)(t:Adr):Sp:=λvs H Q _=>∃(p:Addr) (ns:g0) (c:Int),vs=[.ref p,.int c]/\H p=some (.lst (ns.map V.int))/\Pg ns/\∀o D H',ah H H'->TN t H' o D->Nw H D->Q (.ref o) H'
def Dt (T:Txt w K mg t):bh P w K mg base "_law_tongue" 8 t.yP t.uX ["_law_pool_here", "_law_cell"] (Hr K t):=by
 refine⟨T.PJ,T.Fc.kp,T.Si,T.Fc.okQ oK (λvs H Q E h=>by obtain⟨p,ns,c,rfl,_⟩:=h;rfl) λ_ _ _ _ H vs Q E hr h=>?_⟩;obtain⟨p,ns,c,rfl,m,pg,k⟩:=h;have v:=hr.units;refine⟨_,(ai (aF (i:=2) oK.nd Z (.inr Z) (dY (aa 1)))
  (ai (aQ (aJ (ca (K:=K) rfl v) (cJ (aa 1)) aj (aM _)) (ak (aq (oY T.CA T.DO))) aR)
  (ai (aQ (aJ (ca (K:=K) rfl v) (cJ (aa 1)) aj (aM _)) (ak (aq (oY T.CB T.DP))) aR)
  (ai (aQ (aJ dl (cJ (aa 1)) aj (aM _)) (ak (aq (fh (Dq T) hr (ad (aK (VT K) (aT (ad eM (ad eM ae))) (aO c7 (cJ (aa 1)) aj) (λ_ _=>rfl)) ae)))) aR)
  (ai (aQ (aJ dl (cJ (aa 1)) aj (aM _)) (ai (mx (i:=3) oK.nd rfl (.inl rfl) rfl (cz.of (fns:=(ag io).names) (N:=["_law_pool_here", "_law_cell", "_law_left", "_law_first", "_law_second"]) (Nc:=["_law_k", "_law_sign_here", "_law_left"]) (nv:=2) (caps:=[2]) rfl rfl (by decide +kernel)) (gO (K:=K) rfl rfl T.n_enumerate (ad (aa 0) ae)) (λ_ _ _ _=>(fN (K:=K) rfl (n:=2) rfl (cF (bb (i:=0) (show List.Nodup (["_law_k", "_law_sign_here", "_law_left"]:List Str) by decide +kernel) rfl (Or.inl rfl) (Or.inr rfl)) (cF (bb (i:=1) (show List.Nodup (["_law_k", "_law_sign_here", "_law_left"]:List Str) by decide +kernel) rfl (Or.inl rfl) (Or.inr rfl)) fM)))) (λ_ _ _ _=>(mw (aJ (ca (K:=K) rfl v) (cJ (cJ (aO (VQ K) (aa 2) (aO eP (aa 0) (aa 0))))) aj (aM _)))) (λ_ _ _ _=>(aa 1)))
  (ai (mx (i:=4) oK.nd rfl (.inl rfl) rfl (cz.of (fns:=(ag io).names) (N:=["_law_pool_here", "_law_cell", "_law_left", "_law_first", "_law_second"]) (Nc:=["_law_k", "_law_sign_here", "_law_left"]) (nv:=2) (caps:=[2]) rfl rfl (by decide +kernel)) (gO (K:=K) rfl rfl T.n_enumerate (ad (aa 0) ae)) (λ_ _ _ _=>(fN (K:=K) rfl (n:=2) rfl (cF (bb (i:=0) (show List.Nodup (["_law_k", "_law_sign_here", "_law_left"]:List Str) by decide +kernel) rfl (Or.inl rfl) (Or.inr rfl)) (cF (bb (i:=1) (show List.Nodup (["_law_k", "_law_sign_here", "_law_left"]:List Str) by decide +kernel) rfl (Or.inl rfl) (Or.inr rfl)) fM)))) (λ_ _ _ _=>(mw (aJ dl aj (cJ (aO (VQ K) (aa 2) (aO eP (aa 0) (aa 0)))) (aM _)))) (λ_ _ _ _=>(aa 1)))
  (ak (aq (fh (Dp T) hr (ad (aa 3) (ad (B0 (K:=K) rfl rfl T.n_list T.n_reversed (ad (aa 4) ae)) ae))))))) aR)
  (ak (aq (fh (Do T) hr (ad (aE (Ov T) hr (ad (aa 0) (ad (aa 2) ae))) ae))))))))),?_⟩
 refine aw (λz0=>?_) (λz0=>?_)
 ·refine λx dx hx a d=>?_;exact k x .br _ (dX hx a) ⟨dx,az⟩ trivial
 have z0:¬c%8=0:=λy=>z0 (YE y);refine aw (λz1=>?_) (λz1=>?_)
 ·refine λx dx hx a d=>?_;exact k x .ld _ (dX hx a) ⟨dx,az⟩ trivial
 have z1:¬c%8=1:=λy=>z1 (YE y);refine aw (λz2=>?_) (λz2=>?_)
 ·have z2:c%8<4:=YD z2;refine⟨sz Z,λp1 D B=>?_⟩;obtain⟨b,M⟩:∃b,cD [V.str "high",.str "low"] (c%8-2)=some (.str (gS b)):=by
   rcases (show c%8-2=0\/c%8-2=1 by omega) with e|e<;>rw[e]
   ·exact⟨true,Z⟩
   ·exact⟨false,Z⟩
  refine⟨_,_,.inl B.lst,M,?_⟩;refine λx dx hx a d=>?_;refine⟨x,dx,b,Z,az,Z,?_⟩;refine k x (.pr b) _ (λc u e=>?_) ⟨dx,az⟩ trivial;rw[ap (au (B.sm _ _ e) hx)];exact dX hx a c u (B.sm _ _ e)
 refine aw (λz3=>?_) (λz3=>?_)
 ·refine⟨p,_,Z,.of m,?_⟩;refine Et (K:=K) m pg (λi n H' R l8 h=>⟨Or.inl ⟨by omega,by omega⟩,h _⟩) λG q1 D b1 s1 W=>?_;refine⟨p,_,Z,.of (s1 _ _ m),?_⟩;refine Et (K:=K) (s1 _ _ m) pg (λi n H' R l8 h=>⟨Or.inl ⟨by omega,by omega⟩,h _⟩) λI O H2 L J U=>?_;refine⟨O,_,Z,.of U,λS H3 j=>?_⟩;rw[<- List.map_reverse]at j;refine λx dx hx a d=>?_;have s:=dX (C:=t.bC) hx a;have l:=j.sm _ _ (J _ _ W);have g:=s1.trans (J.trans j.sm);refine⟨x,dx,q1,S,G,I.reverse,rfl,az,.of (s _ _ l),.of (s _ _ j.at_),b1.okp,L.rev.okp,au l hx,au j.at_ hx,λfp z k8 r fr=>⟨rfl,?_⟩⟩;exact k x (.sh fp G I.reverse) z (λc u e=>k8 _ _ (au (g _ _ e) hx) (s _ _ (g _ _ e))) r λc Y=>(g.trans s).free (fr c Y).2
 refine⟨p,ns,_,Z,m,pg,λq ps F D s1 tb=>?_⟩;refine λx dx hx a d=>?_;have s:=dX (C:=t.bK) hx a;refine⟨x,dx,q,ps,F.map (λe=>e.2),rfl,az,s _ _ tb.h,(tb.mono s).en,tb.ok,λf z k8 o=>⟨rfl,?_⟩⟩;exact k x (.tb f (F.map λe=>e.2)) z (λc u e=>k8 _ _ (au (s1 _ _ e) hx) (s _ _ (s1 _ _ e))) ⟨o,tb.ok⟩ trivial
def HY(t:Adr):Sp:=λvs H Q _=>∃(o:Addr) (D:Kt) (n:Int),vs=[.ref o,.int n,.int 0]/\TN t H o D/\Yn D n/\(bo D n->∀p H',ah H H'->Q (.ref p) H')/\(dL D n->∀H',ah H H'->Q .non H')
def uF (T:Txt w K mg t):bh P w K mg base "_law_has" 6 t.y0 t.vm ["_law_tongue_here", "_law_sign_here", "_law_page"] (HY t):=by
 refine⟨T.PY,T.Fn.kp,T.Sv,T.Fn.okQ oN (λvs H Q E h=>by obtain⟨o,D,n,rfl,_⟩:=h;rfl) λ_ _ _ _ H vs Q E hr h=>?_⟩;obtain⟨o,D,n,rfl,tn,yn,k1,k2⟩:=h;have u:=hr.units;refine⟨_,(ai (aF (i:=3) oN.nd Z (.inl Z) bu)
  (ai (tU (K:=K) (Es:=λ_=>E0) rfl ⟨rfl,rfl⟩ T.hZ (λe=>PassesOwnAt.never) uo (λpn W B L=>(ak (aF (i:=3) oN.nd rfl (.inl rfl) (bW (dA (uy T) hr L (aa 0) (ad (aa 1) (ad (aa 2) ae))) (bW (dA (uC T) hr L (aa 0) (ad (aa 1) (ad (aa 2) ae))) (bW (dA (uB T) hr L (aa 0) (ad (aa 1) (ad (aa 2) ae))) (bW (dA (uA T) hr L (aa 0) (ad (aa 1) (ad (aa 2) ae))) (dA (uz T) hr L (aa 0) (ad (aa 1) (ad (aa 2) ae)))))))))) (λeh F=>(ak (aF (i:=3) oN.nd rfl (.inl rfl) bu))))
  (ak (aq (aa 3))))),?_⟩
 refine⟨λb c y a=>b=[some (.ref o),some (.int n),some (.int 0),some .non]/\c=.ref t.bc/\ah H a/\dL D n,?_,?_⟩
 ·refine tH (K:=K) (D:=D) (g:=0) (n:=n) (o:=o) tn (iW D) yn.2 (λR h=>h) (λR h=>h) (λhI l q d f s x=>?_) (λhN e d0 a m z=>⟨rfl,rfl,m,hN⟩);exact k1 hI l d f
 ·rintro b C e r v k ⟨rfl,hC,p,j⟩ _;cases hC;exact⟨T.xm_NoSign_NoSign,k2 j k p⟩
def mL{q:Addr}{b:Bool}{H:Hp}{Q:VK}(h:Q (.bl b) H):pY b (.ref q) .non H Q:=by
 have e:(if b=true then !decide (V.ref q=V.non) else decide (V.ref q=V.non))=b:=by cases b<;>simp
 show Q (.bl _) H;rw[e];exact h
def pL{b:Bool}{H:Hp}{Q:VK}(h:Q (.bl (!b)) H):pY b .non .non H Q:=by
 have e:(if b=true then !decide (V.non=V.non) else decide (V.non=V.non)) = !b:=by cases b<;>simp
 show Q (.bl _) H;rw[e];exact h
def Hm(K:PySem.W.Frag)(t:Adr):Sp:=λvs H Q _=>∃(p o c:Addr) (D:Kt) (ns cs:g0),vs=[.ref p,.ref o,.ref c]/\H p=some (.lst (ns.map V.int))/\Pg ns/\ns≠[]/\TN t H o D/\aI K H c (cs.map V.int)/\cs.length<=300/\∀q (ts:g0) H',ah H H'->H' q=some (.lst (ts.map V.int))->ts.length<=300->(∀n∈ts,Sg n/\bo D n)->Q (.ref q) H'
def Ou (T:Txt w K mg t):bh P w K mg base "_law_text" 7 t.yQ t.uY ["_law_pool_here", "_law_tongue_here", "_law_cells"] (Hm K t):=by
 refine⟨T.PK,T.Fd.kp,T.Sj,T.Fd.okQ me (λvs H Q E h=>by obtain⟨p,o,c,D,ns,cs,rfl,_⟩:=h;rfl) λ_ _ _ _ H vs Q E hr h=>?_⟩;obtain⟨p,o,c,D,ns,cs,rfl,M,pg,ne,tn,J,lc,k⟩:=h;have S:=hr.units;have pos:0<ns.length:=by cases ns with|nil=>exact YC rfl ne|cons _ _=>exact Nat.succ_pos _
 refine⟨_,(ai (aF (i:=3) me.nd Z (.inl Z) (aT ae))
  (ai (cm PassesOwn.never rfl (cO (K:=K) rfl (aa 2)) (bb (i:=4) me.nd rfl (.inl rfl)) (ai (aF (i:=5) me.nd rfl (.inl rfl) (aK (VT K) (aa 0) (aO uO (dY (aa 4)) (bp (VS K) T.n_len Wj (ad (aa 0) ae))) (λ_ _=>rfl)))
  (ai (aQ (aJ (ca (K:=K) rfl S) (cJ (aa 4)) aj (aM _)) (ak (aF (i:=5) me.nd rfl (.inl rfl) (aE (uD T) hr (ad (dY (aa 4)) ae)))) aR)
  (ak (aQ (aJ mQ (aE (uF T) hr (ad (aa 1) (ad (aa 5) (ad aj ae)))) bu (aM _)) (ak (bE (cq (K:=K) rfl Wp WB WC dO (aa 3) (ad (aa 5) ae)))) aR)))))
  (ak (aq (aa 3))))),?_⟩
 refine⟨sz Z,λs H1 B=>?_⟩;refine⟨c,Z,⟨_,B.sm.seq J⟩,fP (K:=K) (a:=c) (xs:=cs.map V.int) (λi σ j=>ah H j/\∃(ts:g0) (I F:Option V),j s=some (.lst (ts.map V.int))/\ts.length<=i/\(∀n∈ts,Sg n/\bo D n)/\σ=[some (.ref p),some (.ref o),some (.ref c),some (.ref s),I,F])
  ⟨B.sm,[],_,_,B.at_,V5 _,(λ_ h=>nomatch h),rfl⟩ (λi σ j _ z=>z.1.seq J) ?_ ?_⟩
 ·rintro i x σ G hx ⟨r,ts,I,F,u,l,hs,rfl⟩;obtain⟨m,hm,rfl⟩:=dD hx;have li:=(V8.mp hm).1;refine⟨_,.inl (.of (r _ _ M)),?_⟩;rw[V4];refine⟨by omega,?_⟩;obtain⟨v,hv,W,_⟩:=yN (xs:=ns.map V.int) (i:=m/4%(ns.length:Int)) (Int.emod_nonneg _ (by omega)) (by rw[V4];exact Int.emod_lt_of_pos _ (by omega));obtain⟨n,Y,rfl⟩:=Wr.mp hv;refine⟨_,_,.inl (.of (r _ _ M)),W,?_⟩;dsimp only [cK];refine jv (λL j=>ah G j/\∃n,Sg n/\L=[some (.ref p),some (.ref o),some (.ref c),some (.ref s),some (.int m),some (.int n)]) (λnx e=>?_) ?_
  ·refine aw (λ_=>?_) (λ_=>?_)
   ·exact⟨_,Z,λR g=>e _ _ ⟨g,_,Bn _,Z⟩⟩
   ·exact e _ _ ⟨ah.refl _,n,pg.1 n Y,Z⟩
  ·rintro L R ⟨g,n,N,rfl⟩;have b:=r.trans g;refine⟨o,D,n,Z,tn.mono b,lY D N,λhI q O f=>?_,λhN O f=>?_⟩
   ·dsimp only [tC];refine mL ?_;refine gn ?_;have d:=f _ _ (g _ _ u);refine⟨.inl ⟨rfl,_,.of d⟩,?_⟩;refine⟨_,d,cZ (by rw[V4];omega),?_⟩;refine⟨(b.trans f).put B.nw,ts++[n],_,_,by rw[az,Wm];rfl,by rw[Wb];show _+1<=_;omega,λU C=>?_,rfl⟩;rcases Wi.mp C with y|y
    ·exact hs U y
    ·rw[Wl.mp y];exact⟨N,hI⟩
   ·dsimp only [tC];refine pL ?_;refine aw (λz=>YC (show false=true from z) (by decide)) (λ_=>?_);exact⟨b.trans f,ts,_,_,f _ _ (g _ _ u),by omega,hs,rfl⟩
 ·rintro σ G ⟨r,ts,I,F,u,l,hs,rfl⟩;rw[V4]at l;exact k s ts G r u (by omega) hs
def eJ(H:Hp)(p:Addr)(L:List (Addr × g0)):Prop:=H p=some (.lst (L.map λx=>V.ref x.1))/\∀x∈L,x.1≠p/\H x.1=some (.lst (x.2.map V.int))
def flt(L:List (Addr × g0)):g0:=(L.map λx=>x.2).flatten
def mW(L:List (Addr × g0))(q:Addr)(xs:g0):flt (L++[(q,xs)])=flt L++xs:=by
 unfold flt;rw[Wm,List.flatten_append];simp
def eJ.mono{H a:Hp}{p:Addr}{L:List (Addr × g0)}(h:eJ H p L)(s:ah H a):eJ a p L:=⟨s _ _ h.1,λx hx=>⟨(h.2 x hx).1,s _ _ (h.2 x hx).2⟩⟩
def eJ.more{H c:Hp}{p q:Addr}{xs:g0}{L:List (Addr × g0)}(h:eJ H p L)(g:bi H q (.lst (xs.map V.int)) c):eJ (upd c p (.lst ((L.map λx=>V.ref x.1)++[.ref q]))) p (L++[(q,xs)]):=by
 have b:q≠p:=(au h.1 g.nw).symm;refine⟨by rw[az,Wm];rfl,λx a=>?_⟩;rcases Wi.mp a with z|z
 ·obtain⟨n,e⟩:=h.2 x z;exact⟨n,by rw[ap n];exact g.sm _ _ e⟩
 ·rw[Wl.mp z];exact⟨b,by rw[ap b];exact g.at_⟩
def uV{H:Hp}{L:List (Addr × g0)}{q:Addr}{xs:g0}(h:∀x∈L,H x.1=none)(n:H q=none):∀x∈L++[(q,xs)],H x.1=none:=λx hx=>by
 rcases Wi.mp hx with z|z
 ·exact h x z
 ·rw[Wl.mp z];exact n
def lE{H:Hp}{L:List (Addr × g0)}{p q:Addr}{xs:g0}(h:eJ H p L)(nd:(L.map λx=>x.1).Nodup)(n:H q=none):((L++[(q,xs)]).map λx=>x.1).Nodup:=by
 rw[Wm];refine Yb.mpr ⟨nd,by simp,λa c b hb e=>?_⟩;rw[Wl.mp hb]at e;obtain⟨x,hx,ex⟩:=Wr.mp c;have:=(h.2 x hx).2;rw[ex,e,n]at this;cases this
def E2(H:Hp)(ts:g0)(Q:VK):Prop:=∀p (L:List (Addr × g0)) H',ah H H'->H p=none->eJ H' p L->(∀x∈L,H x.1=none)->(L.map λx=>x.1).Nodup->flt L=ts->L.length<=301->Q (.ref p) H'
def HL(K:PySem.W.Frag):Sp:=λvs H Q _=>∃(a c:Addr) (ts cs:g0),vs=[.ref a,.ref c]/\aI K H a (ts.map V.int)/\aI K H c (cs.map V.int)/\cs.length<=300/\E2 H ts Q
def nJ(ts:g0)(k m:Nat):cX (ts.map V.int) (some (k:Int)) (some ((k:Int)+(m:Int)))=((ts.drop k).take m).map V.int:=by rw[ja];exact congrArg _ (Ep ts k m)
def Em(ts:g0)(k:Nat):cX (ts.map V.int) (some (k:Int)) none=(ts.drop k).map V.int:=by rw[ja];exact congrArg _ (wU ts k)
def Oy (T:Txt w K mg t):bh P w K mg base "_law_pieces" 1 t.yW t.vg ["_law_row", "_law_cells"] (HL K):=by
 refine⟨T.PR,T.Fj.kp,T.Sq,T.Fj.okQ mi (λvs H Q E h=>by obtain⟨a,c,ts,cs,rfl,_⟩:=h;rfl) λ_ _ _ _ H vs Q E hr h=>?_⟩;obtain⟨a,c,ts,cs,rfl,j,o,u,k⟩:=h;have v:=hr.units;refine⟨_,(ai (aF (i:=2) mi.nd Z (.inl Z) (aT ae))
  (ai (aF (i:=3) mi.nd rfl (.inl rfl) aj)
  (ai (cm PassesOwn.never rfl (cO (K:=K) rfl (aa 1)) (bb (i:=4) mi.nd rfl (.inl rfl)) (ai (bE (cq (K:=K) rfl Wp WB WC dO (aa 2) (ad (de (VU K) (aa 0) (cn (aa 3)) (cn (aO (VQ K) (aa 3) (cJ (dY (aa 4)))))) ae)))
  (ak (aF (i:=3) mi.nd rfl (.inl rfl) (aO (VQ K) (aa 3) (cJ (dY (aa 4))))))))
  (ai (bE (cq (K:=K) rfl Wp WB WC dO (aa 2) (ad (de (VU K) (aa 0) (cn (aa 3)) fe) ae)))
  (ak (aq (aa 2))))))),?_⟩
 refine⟨sz Z,λp B e=>?_⟩;refine⟨c,Z,⟨_,e.sm.seq o⟩,fP (K:=K) (a:=c) (xs:=cs.map V.int) (λi σ f=>ah H f/\∃(at_:Nat) (L:List (Addr × g0)) (g:Option V),eJ f p L/\(∀x∈L,H x.1=none)/\(L.map λx=>x.1).Nodup/\flt L=ts.take at_/\L.length=i/\σ=[some (.ref a),some (.ref c),some (.ref p),some (.int (at_:Int)),g])
  ⟨e.sm,0,[],_,⟨e.at_,(λ_ h=>nomatch h)⟩,(λ_ h=>nomatch h),.nil,rfl,rfl,rfl⟩ (λi σ f _ z=>z.1.seq o) ?_ ?_⟩
 ·rintro i x σ r hx ⟨d,at_,L,g,hP,fr,nd,fl,l,rfl⟩;obtain⟨m,hm,rfl⟩:=dD hx;have y:=(V8.mp hm).1;obtain⟨k',n⟩:∃k':Nat,m/32%6=(k':Int):=⟨(m/32%6).toNat,by omega⟩;refine⟨.inl ⟨rfl,_,.of hP.1⟩,?_⟩;refine⟨_,Z,_,Z,_,d.seq j,λq s b=>?_⟩;rw[n,nJ]at b;refine⟨_,b.sm _ _ hP.1,cZ (by rw[V4];omega),?_⟩;refine⟨(d.trans b.sm).put e.nw,at_+k',L++[(q,(ts.drop at_).take k')],some (.int m),hP.more b,uV fr (d.free b.nw),lE hP nd b.nw,by rw[mW,fl,List.take_add],by rw[Wb];show _+1=_;omega,?_⟩;rw[Xx,<- n]
  rfl
 ·rintro σ r ⟨d,at_,L,g,hP,fr,nd,fl,l,rfl⟩;rw[V4]at l;refine⟨.inl ⟨rfl,_,.of hP.1⟩,?_⟩;refine⟨_,Z,_,d.seq j,λq s b=>?_⟩;rw[Em]at b;refine⟨_,b.sm _ _ hP.1,cZ (by rw[V4];omega),?_⟩;exact k p _ _ ((d.trans b.sm).put e.nw) e.nw (hP.more b) (uV fr (d.free b.nw)) (lE hP nd b.nw) (by rw[mW,fl,Xw]) (by rw[Wb];show _+1<=_;omega)
def Ie(K:PySem.W.Frag):Sp:=λvs H Q _=>∃(a:Addr) (c:Int) (ts:g0),vs=[.ref a,.int c]/\aI K H a (ts.map V.int)/\E2 H ts Q
def OC (T:Txt w K mg t):bh P w K mg base "_law_free_pieces" 2 t.y8 t.vw ["_law_row", "_law_cell"] (Ie K):=by
 refine⟨T.P3,T.Fu.kp,T.Sz,T.Fu.okQ iK (λvs H Q E h=>by obtain⟨a,c,ts,rfl,_⟩:=h;rfl) λ_ _ _ _ H vs Q E hr h=>?_⟩;obtain⟨a,c,ts,rfl,M,k⟩:=h;have W:=hr.units;refine⟨_,(ai (aF (i:=2) iK.nd Z (.inl Z) (aT ae))
  (ai (aF (i:=3) iK.nd rfl (.inl rfl) aj)
  (ai (aF (i:=4) iK.nd rfl (.inl rfl) (aE (uE T) hr (ad (aa 1) ae)))
  (ai (cm PassesOwn.never rfl (gN rfl T.n_range (ad aj ae)) (bb (i:=5) iK.nd rfl (.inl rfl)) (ai (aF (i:=6) iK.nd rfl (.inl rfl) (aE (gu T) hr (ad (aa 4) (ad aj ae))))
  (ai (bE (cq (K:=K) rfl Wp WB WC dO (aa 2) (ad (de (VU K) (aa 0) (cn (aa 3)) (cn (aO (VQ K) (aa 3) (aa 6)))) ae)))
  (ak (aF (i:=3) iK.nd rfl (.inl rfl) (aO (VQ K) (aa 3) (aa 6)))))))
  (ai (bE (cq (K:=K) rfl Wp WB WC dO (aa 2) (ad (de (VU K) (aa 0) (cn (aa 3)) fe) ae)))
  (ak (aq (aa 2)))))))),?_⟩
 refine⟨sz Z,λp U j=>?_⟩;refine⟨_,Z,λpt ms Y ne z=>?_⟩;refine⟨60,rfl,by decide,by decide,?_⟩;have v:pt≠p:=(au j.at_ z.nw).symm;have C:H pt=none:=j.sm.free z.nw;refine iy (lo:=0) (n:=60) (λi σ I=>ah H I/\∃(at_:Nat) (L:List (Addr × g0)) (ms:g0) (F J:Option V),eJ I p L/\(∀x∈L,H x.1=none/\x.1≠pt)/\(L.map λx=>x.1).Nodup/\flt L=ts.take at_/\L.length=i/\I pt=some (.lst (ms.map V.int))/\ms≠[]/\σ=[some (.ref a),some (.int c),some (.ref p),some (.int (at_:Int)),some (.ref pt),F,J])
  ⟨j.sm.trans z.sm,0,[],ms,_,_,⟨z.sm _ _ j.at_,(λ_ h=>nomatch h)⟩,(λ_ h=>nomatch h),.nil,rfl,rfl,z.at_,ne,rfl⟩ ?_ ?_
 ·rintro i σ R hi ⟨s,at_,L,m,F,J,hP,fr,nd,fl,l,B,r,rfl⟩;refine⟨pt,64,m,rfl,by omega,by omega,B,r,λd G N d0 d1 o f g=>?_⟩;have D:ah H N:=λc u e=>g c u (au e C) (s c u e);have hP5:eJ N p L:=⟨g _ _ v.symm hP.1,λx hx=>⟨(hP.2 x hx).1,g _ _ (fr x hx).2 (hP.2 x hx).2⟩⟩;obtain⟨k',O⟩:∃k':Nat,d=(k':Int):=⟨d.toNat,by omega⟩;refine⟨.inl ⟨rfl,_,.of hP5.1⟩,?_⟩;refine⟨_,Z,_,Z,_,D.seq M,λq S b=>?_⟩;rw[O,nJ]at b;refine⟨_,b.sm _ _ hP5.1,cZ (by rw[V4];omega),?_⟩;refine⟨(D.trans b.sm).put j.nw,at_+k',L++[(q,(ts.drop at_).take k')],G,some (.int (0+(i:Int))),some (.int d),hP5.more b,λx hx=>?_,lE hP5 nd b.nw,by rw[mW,fl,List.take_add],by rw[Wb];show _+1=_;omega,?_,o,?_⟩
  ·rcases Wi.mp hx with y|y
   ·exact fr x y
   ·rw[Wl.mp y];exact⟨D.free b.nw,(au f b.nw).symm⟩
  ·rw[ap v];exact b.sm _ _ f
  ·rw[Xx,<- O]
   rfl
 ·rintro σ R ⟨s,at_,L,m,F,J,hP,fr,nd,fl,l,B,r,rfl⟩;refine⟨.inl ⟨rfl,_,.of hP.1⟩,?_⟩;refine⟨_,Z,_,s.seq M,λq S b=>?_⟩;rw[Em]at b;refine⟨_,b.sm _ _ hP.1,cZ (by rw[V4];omega),?_⟩;exact k p _ _ ((s.trans b.sm).put j.nw) j.nw (hP.more b) (uV (λx hx=>(fr x hx).1) (s.free b.nw)) (lE hP nd b.nw) (by rw[mW,fl,Xw]) (by rw[Wb];show _+1<=_;omega)
def Fs(H:Hp)(v:V)(D:Kt):Prop:=(v=.non/\∀n,Sg n->bo D n)\/∃(q:Addr) (ss:g0),v=.ref q/\H q=some (.lst (ss.map V.int))/\ss.length<=64/\∀n∈ss,Sg n/\bo D n
def Ig(t:Adr):Sp:=λvs H Q _=>∃(c:Int),vs=[.int c]/\∀p o v D H',ah H H'->H' p=some (.tup [.ref o,v])->TN t H' o D->Nw H D->Fs H' v D->Q (.ref p) H'
def Dv (T:Txt w K mg t):bh P w K mg base "_law_free_tongue" 8 t.y4 t.vo ["_law_cell"] (Ig t):=by
 refine⟨T.PZ,T.Fo.kp,T.Sw,T.Fo.okQ mj (λvs H Q E h=>by obtain⟨c,rfl,_⟩:=h;rfl) λ_ _ _ _ H vs Q E hr h=>?_⟩;obtain⟨c,rfl,k⟩:=h;have hu:=hr.units;refine⟨_,(ai (aF (i:=1) mj.nd Z (.inl Z) (aE (uE T) hr (ad (aa 0) ae)))
  (ai (aF (i:=2) mj.nd rfl (.inl rfl) (aE (gu T) hr (ad (aa 1) (ad aj ae))))
  (ai (aQ (aJ (ca (K:=K) rfl hu) (aa 2) aj (aM _)) (ak (aq (bJ (ad (oY T.CA T.DO) (ad (aT ae) ae))))) aR)
  (ai (aQ (aJ (ca (K:=K) rfl hu) (aa 2) aj (aM _)) (ak (aq (bJ (ad (oY T.CB T.DP) (ad bu ae))))) aR)
  (ai (aQ (aJ dl (aa 2) aj (aM _)) (ak (aq (bJ (ad (fh (Dq T) hr (ad (aK (VT K) (aT (ad eM (ad eM ae))) (aO c7 (aa 2) aj) (λ_ _=>rfl)) ae)) (ad bu ae))))) aR)
  (ai (aQ (aJ dl (aa 2) aj (aM _)) (ai (aF (i:=3) mj.nd rfl (.inl rfl) (aE (OD T) hr (ad (aa 1) ae)))
  (ak (aq (bJ (ad (fh (Dp T) hr (ad (aK (VT K) (aa 3) aj (λ_ _=>rfl)) (ad (aK (VT K) (aa 3) aj (λ_ _=>rfl)) ae))) (ad (aO (VQ K) (aK (VT K) (aa 3) aj (λ_ _=>rfl)) (aK (VT K) (aa 3) aj (λ_ _=>rfl))) ae)))))) aR)
  (ai (aF (i:=4) mj.nd rfl (.inl rfl) (aE (OB T) hr (ad (aa 1) ae)))
  (ak (aq (bJ (ad (fh (Do T) hr (ad (aa 4) ae)) (ad (eO rfl (cz.of (fns:=(ag iN).names) (N:=["_law_cell", "_law_pot_here", "_law_kind", "_law_lists", "_law_table_here"]) (Nc:=["_law_entry"]) (nv:=1) (caps:=[]) rfl rfl (by decide +kernel)) (cO (K:=K) rfl (aa 4)) (λ_ _ _ _=>(bb (i:=0) (show List.Nodup (["_law_entry"]:List Str) by decide +kernel) rfl (Or.inl rfl) (Or.inr rfl))) (λ_ _ _ _=>eK) (λ_ _ _ _=>(aK (VT K) (aa 0) aj (λ_ _=>rfl)))) ae)))))))))))),?_⟩
 refine⟨_,Z,λpt ms H1 af Y=>?_⟩;refine⟨pt,8,ms,rfl,by omega,by omega,Y.at_,af,λd a0 H2 d0 d1 S a1 a6=>?_⟩;have M:ah H H2:=λc u e=>a6 c u (au e Y.nw) (Y.sm c u e);refine aw (λz0=>?_) (λz0=>?_)
 ·refine λx dx hx a z=>?_;refine⟨sz Z,λq H4 g4=>?_⟩;refine⟨sz Z,λpr O m=>?_⟩;have s:=M.trans ((dX (C:=t.df) hx a).trans (g4.sm.trans m.sm));exact k pr x (.ref q) .br O s m.at_ ⟨dx,m.sm _ _ (g4.sm _ _ az)⟩ trivial (.inr ⟨q,[],rfl,m.sm _ _ g4.at_,by decide,(λ_ h=>nomatch h)⟩)
 have z0:¬d=0:=λy=>z0 (YE y);refine aw (λz1=>?_) (λz1=>?_)
 ·refine λx dx hx a z=>?_;refine⟨sz Z,λpr O m=>?_⟩;have s:=M.trans ((dX (C:=t.dg) hx a).trans m.sm);exact k pr x .non .ld O s m.at_ ⟨dx,m.sm _ _ az⟩ trivial (.inl ⟨rfl,λn h=>h⟩)
 have z1:¬d=1:=λy=>z1 (YE y);refine aw (λz2=>?_) (λz2=>?_)
 ·have z2:d<4:=YD z2;refine⟨sz Z,λp1 I g3=>?_⟩;obtain⟨b,eb⟩:∃b,cD [V.str "high",.str "low"] (d-2)=some (.str (gS b)):=by
   rcases (show d-2=0\/d-2=1 by omega) with e|e<;>rw[e]
   ·exact⟨true,Z⟩
   ·exact⟨false,Z⟩
  refine⟨_,_,.inl g3.lst,eb,?_⟩;refine λx dx hx a z=>?_;refine⟨x,dx,b,Z,az,Z,?_⟩;refine⟨sz Z,λpr O m=>?_⟩;refine k pr x .non (.pr b) O (λc u e=>m.sm _ _ ?_) m.at_ ⟨dx,m.sm _ _ az⟩ trivial (.inl ⟨rfl,λn h=>h⟩);rw[ap (au (g3.sm _ _ (M _ _ e)) hx)];exact dX hx a c u (g3.sm _ _ (M _ _ e))
 refine aw (λz3=>?_) (λz3=>?_)
 ·refine⟨pt,Z,⟨a0,a1,S⟩,λp q r ns us I k3 v U F pn pu=>?_⟩;have s3:ah H I:=λc u e=>k3 c u (by rw[Wl];exact au e Y.nw) (M c u e);refine⟨_,_,.inl (.of v),Z,?_⟩;refine⟨_,_,.inl (.of v),Z,?_⟩;refine λx dx hx a z=>?_;have s:=dX (C:=t.bC) hx a;refine⟨x,dx,q,r,ns,us,rfl,az,.of (s _ _ U),.of (s _ _ F),pn.okp,pu.okp,au U hx,au F hx,λfp H8 k8 a7 fr=>⟨rfl,?_⟩⟩;have j:ah I H8:=λc u e=>k8 _ _ (au e hx) (s _ _ e);refine⟨_,_,.inl (.of (j _ _ v)),Z,?_⟩;refine⟨_,_,.inl (.of (j _ _ v)),Z,?_⟩;refine⟨_,_,.of (j _ _ U),.of (j _ _ F),bA (by rw[V4,V4];have:=pn.2.2;have:=pu.2.2;omega),λR H9 B=>?_⟩;rw[<- Wm]at B;refine⟨sz Z,λpr G g=>?_⟩;refine k pr x (.ref R) (.sh fp ns us) G (s3.trans (j.trans (B.sm.trans g.sm))) g.at_ (TN.mono (D:=.sh fp ns us) a7 (B.sm.trans g.sm)) (λc hc=>(s3.trans s).free (fr c hc).2) (.inr ⟨R,ns++us,rfl,g.sm _ _ B.at_,by rw[Wb];have:=pn.2.2;have:=pu.2.2;omega,λn hn=>?_⟩);rcases Wi.mp hn with y|y
  ·exact⟨pn.1 n y,.inl y⟩
  ·exact⟨pu.1 n y,.inr y⟩
 refine⟨pt,Z,⟨a0,a1,S⟩,λp ps J I k3 tb=>?_⟩;have s3:ah H I:=λc u e=>k3 c u (by rw[Wl];exact au e Y.nw) (M c u e);refine λx dx hx a z=>?_;have s:=dX (C:=t.bK) hx a;refine⟨x,dx,p,ps,J.map (λe=>e.2),rfl,az,s _ _ tb.h,(tb.mono s).en,tb.ok,λf H8 k8 a4=>⟨rfl,?_⟩⟩;have j:ah I H8:=λc u e=>k8 _ _ (au e hx) (s _ _ e);have o:=tb.mono j;have l8:=o.e.1;have av:=o.l;refine⟨p,rfl,⟨_,.of o.h⟩,jb ((J.map λe=>e.2.1).map V.int) (by rw[V4,V4,V4];omega) (.of o.h) (bA (by rw[V4];omega)) (λi x y H4 N hx W s4 hN=>?_) λR H9 B=>?_⟩
 ·obtain⟨q,U,rfl⟩:=iU hx;rw[We,We]at W;cases L:J[i]? with
  | none=>rw[L]at W;cases W
  | some e =>
   rw[L]at W;cases W;have:=o.e.2 i q e U L;exact⟨_,_,.inr (.of (s4 _ _ this.1)),Z,hN _ (ah.refl _)⟩
 refine⟨sz Z,λpr G g=>?_⟩;refine k pr x (.ref R) (.tb f (J.map λe=>e.2)) G (s3.trans (j.trans (B.sm.trans g.sm))) g.at_ (TN.mono (D:=.tb f (J.map λe=>e.2)) ⟨a4,tb.ok⟩ (B.sm.trans g.sm)) trivial (.inr ⟨R,J.map λe=>e.2.1,rfl,g.sm _ _ B.at_,by rw[V4];omega,λn hn=>?_⟩);obtain⟨e,L,rfl⟩:=Wr.mp hn;exact⟨(tb.ok.sg e.2 (Wr.mpr ⟨e,L,Z⟩)).1,e.2,Wr.mpr ⟨e,L,Z⟩,Z⟩
def Ia(K:PySem.W.Frag):Sp:=λvs H Q _=>∃(v:V) (c:Addr) (D:Kt) (cs:g0),vs=[v,.ref c,.int 5]/\Fs H v D/\aI K H c (cs.map V.int)/\cs.length<=300/\∀q (ts:g0) H',ah H H'->H' q=some (.lst (ts.map V.int))->ts.length<=300->(∀n∈ts,Sg n/\bo D n)->Q (.ref q) H'
def OA (T:Txt w K mg t):bh P w K mg base "_law_free_text" 3 t.y6 t.vp ["_law_signs", "_law_cells", "_law_most"] (Ia K):=by
 refine⟨T.P0,T.Fq.kp,T.Sx,T.Fq.okQ mm (λvs H Q E h=>by obtain⟨v,c,D,cs,rfl,_⟩:=h;rfl) λ_ _ _ _ H vs Q E hr h=>?_⟩;obtain⟨v,c,D,cs,rfl,fs,hc,lc,k⟩:=h;have hu:=hr.units;refine⟨_,(ai (aF (i:=3) mm.nd Z (.inl Z) (aT ae))
  (ai (cm PassesOwn.never rfl (cO (K:=K) rfl (de (VU K) (aa 1) fe (cn aj))) (bb (i:=4) mm.nd rfl (.inl rfl)) (ak (aQ (aJ fA (aa 0) bu (aM _)) (ak (aF (i:=3) mm.nd rfl (.inl rfl) (aO (VQ K) (aa 3) (eO rfl (cz.of (fns:=(ag ip).names) (N:=["_law_signs", "_law_cells", "_law_most", "_law_text_here", "_law_cell"]) (Nc:=["_law_digit_here"]) (nv:=1) (caps:=[]) rfl rfl (by decide +kernel)) (cO (K:=K) rfl (aE (Dw T) hr (ad (aa 4) (ad aj (ad (aa 2) ae))))) (λ_ _ _ _=>(bb (i:=0) (show List.Nodup (["_law_digit_here"]:List Str) by decide +kernel) rfl (Or.inl rfl) (Or.inr rfl))) (λ_ _ _ _=>eK) (λ_ _ _ _=>(aE (uG T) hr (ad (aa 0) ae))))))) (ak (aQ (aJ (fu (K:=K) rfl hu) (aa 0) (aT ae) (aM _)) (ak (aF (i:=3) mm.nd rfl (.inl rfl) (aO (VQ K) (aa 3) (eO rfl (cz.of (fns:=(ag ip).names) (N:=["_law_signs", "_law_cells", "_law_most", "_law_text_here", "_law_cell"]) (Nc:=["_law_digit_here", "_law_signs"]) (nv:=1) (caps:=[0]) rfl rfl (by decide +kernel)) (cO (K:=K) rfl (aE (Dw T) hr (ad (aa 4) (ad (bp (VS K) T.n_len Wj (ad (aa 0) ae)) (ad (aa 2) ae))))) (λ_ _ _ _=>(bb (i:=0) (show List.Nodup (["_law_digit_here", "_law_signs"]:List Str) by decide +kernel) rfl (Or.inl rfl) (Or.inr rfl))) (λ_ _ _ _=>eK) (λ_ _ _ _=>(aK (VT K) (aa 1) (aa 0) (λ_ _=>rfl))))))) aR)))))
  (ak (aq (aa 3))))),?_⟩
 have S:∀f,ah H f->Fs f v D:=λf r=>by
  rcases fs with z|⟨q,ss,a,b,c⟩
  ·exact .inl z
  ·exact .inr ⟨q,ss,a,r _ _ b,c⟩
 refine⟨sz Z,λB H1 g1=>?_⟩;refine⟨_,Z,_,g1.sm.seq hc,λcc H2 M=>?_⟩;have R:cX (cs.map V.int) none (some 60)=(cs.take 60).map V.int:=nI cs 60;rw[R]at M;have af:(cs.take 60).length<=60:=by rw[Wa];omega
 have s2:=g1.sm.trans M.sm;refine⟨cc,Z,⟨_,M.lst⟩,fP (K:=K) (a:=cc) (xs:=(cs.take 60).map V.int) (λi σ f=>ah H2 f/\∃(B:Addr) (ts:g0) (v4:Option V),f B=some (.lst (ts.map V.int))/\ts.length<=5*i/\(∀n∈ts,Sg n/\bo D n)/\σ=[some v,some (.ref c),some (.int 5),some (.ref B),v4])
  ⟨ah.refl _,B,[],_,M.sm _ _ g1.at_,V5 _,(λ_ h=>nomatch h),rfl⟩ (λi σ f _ z=>z.1.seq M.lst) ?_ ?_⟩
 ·rintro i x σ U hx ⟨G,B,ts,v4,J,l,hs,rfl⟩;obtain⟨m,hm,rfl⟩:=dD hx;have li:=(V8.mp hm).1;have a0:=s2.trans G;rcases S U a0 with ⟨rfl,all⟩|⟨q,ss,rfl,hq,lq,hss⟩
  ·dsimp only [cK,ma,mB,fH,mV,tC];refine pL ?_;refine gn ?_;refine⟨m,1111808,5,rfl,by omega,by omega,by omega,λI ds H4 ld hd p=>?_⟩;refine⟨I,rfl,⟨_,p.lst⟩,qU (K:=K) (a:=I) (xs:=ds.map V.int) (λj s f=>ah H4 f/\∃us:g0,s=us.map V.int/\us.length=j/\∀n∈us,Sg n) ⟨ah.refl _,[],rfl,rfl,(λn h=>nomatch h)⟩ (λj s f _ z=>⟨z.1.seq p.lst,by obtain⟨_,us,rfl,l,_⟩:=z;rw[V4];omega⟩) (bA (by rw[V4];omega)) (λj x s f N hx y hN=>?_) λs f p5 a1 y g=>?_⟩
   ·obtain⟨r,us,rfl,l,hs⟩:=y;obtain⟨m,hm,rfl⟩:=dD hx;simp only [fZ,if_true];refine⟨_,rfl,λn sn=>hN _ _ ⟨r,us++[n],by rw[Wm];rfl,by rw[Wb,l];rfl,λW C=>?_⟩⟩;rcases Wi.mp C with y|y
    ·exact hs W y
    ·rw[Wl.mp y];exact sn
   ·obtain⟨r,us,rfl,l5,u⟩:=y;rw[V4]at l5;have o:=p.sm.trans (r.trans g.sm);refine⟨_,_,.of (o _ _ J),g.lst,bA (by rw[V4,V4];omega),λY H6 F=>?_⟩;rw[<- Wm]at F;refine⟨G.trans (o.trans F.sm),Y,ts++us,_,F.at_,by rw[Wb];omega,λn L=>?_,rfl⟩;rcases Wi.mp L with y|y
    ·exact hs n y
    ·exact⟨u n y,all n (u n y)⟩
  ·dsimp only [cK,ma,mB,fH,mV,tC];refine mL ?_;refine aw (λz=>YC (show false=true from z) (by decide)) (λ_=>?_);refine⟨sz Z,λp4 H4 p=>?_⟩;refine D8 (ns:=ss) (ms:=[]) (.of (p.sm _ _ hq)) p.lst ?_;refine aw (λy=>?_) (λy=>?_)
   ·have y:(!decide (ss=[]))=true:=y;have y:¬ss=[]:=λe=>by rw[e]at y;cases y
    have pos:0<ss.length:=by cases ss with|nil=>exact YC rfl y|cons _ _=>exact Nat.succ_pos _
    refine⟨_,.inl (.of (p.sm _ _ hq)),?_⟩;rw[V4];refine⟨m,ss.length,5,rfl,pos,by omega,by omega,λI ds H5 ld hd O=>?_⟩;have a4:=O.sm _ _ (p.sm _ _ hq);refine⟨I,rfl,⟨_,O.lst⟩,qU (K:=K) (a:=I) (xs:=ds.map V.int) (λj s f=>ah H5 f/\∃us:g0,s=us.map V.int/\us.length=j/\∀n∈us,n∈ss) ⟨ah.refl _,[],rfl,rfl,(λn h=>nomatch h)⟩ (λj s f _ z=>⟨z.1.seq O.lst,by obtain⟨_,us,rfl,l,_⟩:=z;rw[V4];omega⟩) (bA (by rw[V4];omega)) (λj x s f N hx y hN=>?_) λs f p5 a1 y g=>?_⟩
    ·obtain⟨r,us,rfl,l,hs⟩:=y;obtain⟨d,a3,rfl⟩:=dD hx;simp only [fZ,if_true];have:=hd d (Wo a3);obtain⟨v,hv,e1,_⟩:=yN (xs:=ss.map V.int) (i:=d) this.1 (by rw[V4];exact this.2);obtain⟨n,L,rfl⟩:=Wr.mp hv;refine⟨_,_,.inl (.of (r _ _ a4)),e1,?_⟩;refine hN _ _ ⟨r,us++[n],by rw[Wm];rfl,by rw[Wb,l];rfl,λW C=>?_⟩;rcases Wi.mp C with y|y
     ·exact hs W y
     ·rw[Wl.mp y];exact L
    ·obtain⟨r,us,rfl,l5,u⟩:=y;rw[V4]at l5;have o:=p.sm.trans (O.sm.trans (r.trans g.sm));refine⟨_,_,.of (o _ _ J),g.lst,bA (by rw[V4,V4];omega),λY H6 F=>?_⟩;rw[<- Wm]at F;refine⟨G.trans (o.trans F.sm),Y,ts++us,_,F.at_,by rw[Wb];omega,λn L=>?_,rfl⟩;rcases Wi.mp L with y|y
     ·exact hs n y
     ·exact hss n (u n y)
   ·exact⟨G.trans p.sm,B,ts,_,p.sm _ _ J,by omega,hs,rfl⟩
 ·rintro σ U ⟨G,B,ts,v4,J,l,hs,rfl⟩;rw[V4]at l;exact k B ts U (s2.trans G) J (by omega) hs
def HS(K:PySem.W.Frag):Sp:=λvs H Q _=>∃(a:Addr) (ts:g0),vs=[.ref a]/\H a=some (.lst (ts.map V.int))/\ts.length<=100000/\∀H',ah H H'->Q (.bl true) H'
def Du (T:Txt w K mg t):bh P w K mg base "_law_is_row" 2 t.yZ t.vk ["_law_found"] (HS K):=by
 refine⟨T.PX,T.Fm.kp,T.Su,T.Fm.okQ IP (λvs H Q E h=>by obtain⟨a,ts,rfl,_⟩:=h;rfl) λ_ _ _ _ H vs Q E hr h=>?_⟩;obtain⟨a,ts,rfl,b,n,k⟩:=h;have j:=hr.units;refine⟨_,(ak (aq (iu (bp (VR K) T.n_isinstance WS (ad (aa 0) (ad (gR rfl T.n_list WJ) ae))) (gP (bp (EA (K:=K) rfl rfl) T.n_all Yw (ad (eO rfl (cz.of (fns:=(ag iM).names) (N:=["_law_found"]) (Nc:=["_law_byte"]) (nv:=1) (caps:=[]) rfl rfl (by decide +kernel)) (cO (K:=K) rfl (aa 0)) (λ_ _ _ _=>(bb (i:=0) (show List.Nodup (["_law_byte"]:List Str) by decide +kernel) rfl (Or.inl rfl) (Or.inr rfl))) (λ_ _ _ _=>eK) (λ_ _ _ _=>(aE (Ox T) hr (ad (aa 0) ae)))) ae)))))),?_⟩;refine⟨_,_,.lst b,by with_unfolding_all rfl,?_⟩;refine gn ?_;refine⟨a,rfl,⟨_,.of b⟩,jb ((ts.map λ_=>true).map V.bl) (by simp) (.of b) (bA (by rw[V4];omega)) (λi x y g N hx c l hN=>?_) λm f d=>?_⟩
 ·obtain⟨o,e,rfl⟩:=dD hx;rw[We,We,e]at c;cases c;exact⟨_,Z,.int _,bM (hN _ (ah.refl _)) Z⟩
 refine⟨_,d.lst,?_⟩;exact bM (k f d.sm) (by simp)
def fB(L:List (Addr × g0)):List Addr:=L.map λx=>x.1
structure Dr (t:Adr) (H:Hp) (o og tx pc:Addr) (D G:Kt) (ts:g0) (L:List (Addr × g0)):Prop where
 so:TN t (wo H (fB L)) o D
 sg:TN t (wo H (fB L)) og G
 ht:H tx=some (.lst (ts.map V.int))
 pc:eJ H pc L
 nd:(L.map λx=>x.1).Nodup
 fl:flt L=(al D 0 ts).1
 ln:ts.length<=300
 hin:∀n∈ts,Sg n/\bo D n
 ll:L.length<=301
def Ec{f h i j:Hp}{o og k pc:Addr}{D G:Kt}{ts:g0}{L:List (Addr × g0)}(tn:TN t f o D)(ht:f k=some (.lst (ts.map V.int)))(d:ah f h)(hP:eJ h pc L)(fr:∀x∈L,f x.1=none)(nd:(L.map λx=>x.1).Nodup)(fl:flt L=(al D 0 ts).1)(ll:L.length<=301)(ln:ts.length<=300)(hin:∀n∈ts,Sg n/\bo D n)(c:ah h i)(e:ah i j)(tg:TN t j og G)(nw:Nw i G):Dr t j o og k pc D G ts L:=by
 have b:=c.trans e;refine⟨tn.mono (ah.wo (d.trans b) λa g=>?_),tg.less nw e (λa g=>?_),b _ _ (d _ _ ht),hP.mono b,nd,fl,ln,hin,ll⟩
 ·obtain⟨x,hx,rfl⟩:=Wr.mp g;exact fr x hx
 ·obtain⟨x,hx,rfl⟩:=Wr.mp g;exact⟨_,c _ _ (hP.2 x hx).2⟩
def Fs.mono{H d:Hp}{v:V}{D:Kt}(h:Fs H v D)(s:ah H d):Fs d v D:=by
 rcases h with z|⟨q,ss,a,b,c⟩
 ·exact .inl z
 ·exact .inr ⟨q,ss,a,s _ _ b,c⟩
def Iq(K:PySem.W.Frag)(t:Adr):Sp:=λvs H Q _=>∃(a:Addr) (cs:g0),vs=[.ref a]/\aI K H a (cs.map V.int)/\cs.length<=1000/\∀p o og tx pc D G ts L H',ah H H'->H' p=some (.tup [.ref o,.ref og,.ref tx,.ref pc])->Dr t H' o og tx pc D G ts L->Q (.ref p) H'
def OF (T:Txt w K mg t):bh P w K mg base "_law_drawn" 9 t.zb t.vz ["_law_script"] (Iq K t):=by
 refine⟨T.P6,T.Fx.kp,T.SC,T.Fx.okQ gb (λvs H Q E h=>by obtain⟨a,cs,rfl,_⟩:=h;rfl) λ_ _ _ _ H vs Q E hr h=>?_⟩;obtain⟨a,cs,rfl,e,N,k⟩:=h;have hu:=hr.units;refine⟨_,(ai (aF (i:=1) gb.nd Z (.inl Z) (aE (mN T) hr (ad (aa 0) (ad aj ae))))
  (ai (aQ (aJ (ca (K:=K) rfl hu) (cJ (aa 1)) aj (aM _)) (ai (oU (aE (Dv T) hr (ad (aE (mN T) hr (ad (aa 0) (ad aj ae))) ae)) (fN (K:=K) rfl rfl (cF (bb (i:=2) gb.nd rfl (.inl rfl)) (cF (bb (i:=3) gb.nd rfl (.inl rfl)) fM))))
  (ai (aF (i:=4) gb.nd rfl (.inl rfl) (aE (OA T) hr (ad (aa 3) (ad (de (VU K) (aa 0) (cn aj) (cn aj)) (ad aj ae)))))
  (ai (aF (i:=5) gb.nd rfl (.inl rfl) (aE (OC T) hr (ad (aE (mO T) hr (ad (aa 2) (ad (aa 4) ae))) (ad (dY (aa 1)) ae))))
  (ak (aq (bJ (ad (aa 2) (ad (aK (VT K) (aE (Dv T) hr (ad (aE (mN T) hr (ad (aa 0) (ad aj ae))) ae)) aj (λ_ _=>rfl)) (ad (aa 4) (ad (aa 5) ae)))))))))) aR)
  (ai (aF (i:=6) gb.nd rfl (.inl rfl) (aE (Ow T) hr (ad (dY (aa 1)) ae)))
  (ai (aF (i:=2) gb.nd rfl (.inl rfl) (aE (Dt T) hr (ad (aa 6) (ad (aE (mN T) hr (ad (aa 0) (ad aj ae))) ae))))
  (ai (aF (i:=4) gb.nd rfl (.inl rfl) (aE (Ou T) hr (ad (aa 6) (ad (aa 2) (ad (de (VU K) (aa 0) (cn aj) (cn aj)) ae)))))
  (ai (aF (i:=5) gb.nd rfl (.inl rfl) (aE (Oy T) hr (ad (aE (mO T) hr (ad (aa 2) (ad (aa 4) ae))) (ad (de (VU K) (aa 0) (cn aj) (cn aj)) ae))))
  (ak (aq (bJ (ad (aa 2) (ad (aE (Dt T) hr (ad (aa 6) (ad (aE (mN T) hr (ad (aa 0) (ad aj ae))) ae))) (ad (aa 4) (ad (aa 5) ae))))))))))))),?_⟩
 refine⟨a,cs,0,Z,e,N,λH1 s1=>?_⟩;refine aw (λ_=>?_) (λ_=>?_)
 ·refine⟨a,cs,1,Z,s1.seq e,N,λH2 S=>?_⟩;refine⟨_,Z,λp3 o v D H3 I U tn nw fs=>?_⟩;have C:=s1.trans (S.trans I);refine⟨p3,_,Z,.of U,Z,_,_,Z,_,_,Z,Z,?_⟩;refine⟨_,Z,_,Z,_,C.seq e,λa2 H4 R=>?_⟩;rw[show cX (cs.map V.int) (some 3) (some 63)=((cs.drop 3).take 60).map V.int from nJ cs 3 60]at R;refine⟨v,a2,D,_,rfl,fs.mono R.sm,R.lst,by rw[Wa];omega,λJ ts H5 s5 ht lt hin=>?_⟩;have z:=R.sm.trans s5;have x:=tn.mono z;refine⟨o,J,D,ts,rfl,x,.of ht,by omega,hin,λq H6 nq M hq=>?_⟩;refine⟨q,_,_,Z,.of hq,λpc L H7 m a5 hP fr nd fl ll=>?_⟩;have b:=C.trans (z.trans (M.trans m));refine⟨a,cs,2,Z,b.seq e,N,λH8 s8=>?_⟩;refine⟨_,Z,λp9 og v9 G H9 p a4 tg n _=>?_⟩;refine⟨_,_,.inr (.of a4),Z,?_⟩;refine⟨sz Z,λpr s c=>?_⟩;exact k pr o og J pc D G ts L s (b.trans (s8.trans (p.trans c.sm))) c.at_ (Ec (x.mono M) (M _ _ ht) m hP fr nd fl ll lt hin s8 (p.trans c.sm) (tg.mono c.sm) n)
 ·refine⟨_,Z,λpl ns H2 S F pg Y=>?_⟩;refine⟨a,cs,1,Z,(s1.trans S).seq e,N,λH3 I=>?_⟩;refine⟨pl,ns,_,Z,I _ _ F,pg,λo D H4 s4 tn nw=>?_⟩;have r:=s1.trans (S.trans (I.trans s4));have f:=s4 _ _ (I _ _ F);refine⟨_,Z,_,Z,_,r.seq e,λa3 H5 O=>?_⟩;rw[show cX (cs.map V.int) (some 3) (some 303)=((cs.drop 3).take 300).map V.int from nJ cs 3 300]at O;refine⟨pl,o,a3,D,ns,_,rfl,O.sm _ _ f,pg,Y,tn.mono O.sm,O.lst,by rw[Wa];omega,λJ ts H6 M ht lt hin=>?_⟩;have l:=O.sm.trans M;have u:=tn.mono l;refine⟨o,J,D,ts,rfl,u,.of ht,by omega,hin,λq H7 nq m hq=>?_⟩;have b:=r.trans (l.trans m);refine⟨_,Z,_,Z,_,b.seq e,λW H8 g=>?_⟩;rw[show cX (cs.map V.int) (some 3) (some 303)=((cs.drop 3).take 300).map V.int from nJ cs 3 300]at g;refine⟨q,W,_,_,rfl,.of (g.sm _ _ hq),g.lst,by rw[Wa];omega,λpc L H9 p a5 hP fr nd fl ll=>?_⟩;have y:=b.trans (g.sm.trans p);refine⟨a,cs,2,Z,y.seq e,N,λs j=>?_⟩;refine⟨pl,ns,_,Z,j _ _ (p _ _ (g.sm _ _ (m _ _ (l _ _ f)))),pg,λog G au B tg n=>?_⟩;refine⟨sz Z,λpr a0 d=>?_⟩;exact k pr o og J pc D G ts L a0 (y.trans (j.trans (B.trans d.sm))) d.at_ (Ec (u.mono (m.trans g.sm)) (g.sm _ _ (m _ _ ht)) p hP fr nd fl ll lt hin j (B.trans d.sm) (tg.mono d.sm) n)
structure Ts where
 a:Ta
 b:Addr
 D:Kt
 G:Kt
 ts:g0
 N:Nat
 k:Nat
 m:Nat
 e:Bool
def eI(t:Adr)(c H:Hp)(x:Ts):Prop:=∃ps,Tu t c H x.a x.b x.D x.G x.ts x.N x.k x.m x.e ps
structure Pr (t:Adr) (Hc H:Hp) (x y:Ts):Prop where
 u:eI t Hc H x
 v:eI t Hc H y
 dis:∀c∈aH x.a x.b,c∉aH y.a y.b
def cE(H:Hp)(x y:Ts)(c:Addr)(xs:List V):Prop:=H c=some (.lst xs)/\c∉aH x.a x.b/\c∉aH y.a y.b
section
variable {Hc H H':Hp}{x y:Ts}{b' c d q:Addr}{N' k' m':Nat}{e':Bool}{xs ys zs:List V}{o:HO}
def Tu.some5{a:Ta}{b:Addr}{D G:Kt}{ts:g0}{N k m:Nat}{e:Bool}{ps:List Addr}(h:Tu t Hc H a b D G ts N k m e ps):∀c∈aH a b,∃v,H c=some v:=by
 intro c d;simp only [aH,Wh,WK,or_false]at d;rcases d with rfl|rfl|rfl|rfl|rfl
 ·exact⟨_,h.tw.hx⟩
 ·exact⟨_,h.hr⟩
 ·exact⟨_,h.hb⟩
 ·exact⟨_,h.tw.hw⟩
 ·exact⟨_,h.tw.hl⟩
def eI.kept{x':Ts}{v:HO}(d:eI t (wo H (aH x.a x.b)) H' x')(n:c∉aH x.a x.b)(h:H c=some v):H' c=some v/\c∉aH x'.a x'.b:=by
 obtain⟨ps,d⟩:=d;have w:=dq n h;refine⟨d.tw.sb _ _ w,λz=>?_⟩;rw[d.none5 c z]at w;cases w
def Tu.put{a:Ta}{b:Addr}{D G:Kt}{ts:g0}{N k m:Nat}{e:Bool}{ps:List Addr}(u:Tu t Hc H a b D G ts N k m e ps)(n:c∉aH a b)(f:Hc c=none)(h:H c=some (.lst xs)):Tu t Hc (upd H c o) a b D G ts N k m e ps:=by
 refine u.other (L:=[c]) (λd v q=>?_) (λd hd z=>n (by rw[<- Wl.mp z];exact hd)) (λd hd=>by rw[Wl.mp hd];exact f) (λd hd v q=>by rw[Wl.mp hd,h]at q;cases q);have nd:d≠c:=λz=>by rw[z,dh (by simp)]at q;cases q
 rw[ap nd];exact fY d v q
def Pr.swap(h:Pr t Hc H x y):Pr t Hc H y x:=⟨h.v,h.u,λc a z=>h.dis c z a⟩
def cE.swap(h:cE H x y c xs):cE H y x c xs:=⟨h.1,h.2.2,h.2.1⟩
def Pr.call(h:Pr t Hc H x y)(d:eI t (wo H (aH x.a x.b)) H' { x with b:=b',N:=N',k:=k',m:=m',e:=e' }):Pr t Hc H' { x with b:=b',N:=N',k:=k',m:=m',e:=e' } y:=by
 obtain⟨ps,u⟩:=h.u;obtain⟨g,v⟩:=h.v;refine⟨?_,?_,λc i z=>?_⟩
 ·obtain⟨f,d⟩:=d;exact⟨f,Tu.back (D0:=x.D) (G0:=x.G) d u u.to⟩
 ·obtain⟨f,d⟩:=d;exact⟨g,v.other d.tw.sb (λc i z=>h.dis c z i) u.none5 u.not_tup⟩
 ·obtain⟨w,hw⟩:=v.some5 c z;exact (d.kept (λq=>h.dis c q z) hw).2 i
def cE.call{x':Ts}(h:cE H x y c xs)(d:eI t (wo H (aH x.a x.b)) H' x'):cE H' x' y c xs:=⟨(d.kept h.2.1 h.1).1,(d.kept h.2.1 h.1).2,h.2.2⟩
def Pr.new{x':Ts}(h:Pr t Hc H x y)(c:wo H (aH x.a x.b) q=none)(f:H' q=some (.lst xs))(d:q∉aH x'.a x'.b):cE H' x' y q xs/\Hc q=none:=by
 obtain⟨ps,u⟩:=h.u;obtain⟨g,v⟩:=h.v;refine⟨⟨f,d,λz=>?_⟩,u.to.free c⟩;obtain⟨w,hw⟩:=v.some5 q z;rw[dq (λe=>h.dis q e z) hw]at c;cases c
def cE.ne(h:cE H x y c xs)(d:wo H (aH x.a x.b) q=none):c≠q:=λz=>by
 rw[<- z,dq h.2.1 h.1]at d;cases d
def Pr.put(h:Pr t Hc H x y)(k:cE H x y c xs)(f:Hc c=none):Pr t Hc (upd H c o) x y:=by
 obtain⟨ps,u⟩:=h.u;obtain⟨a,v⟩:=h.v
 exact⟨⟨ps,u.put k.2.1 f k.1⟩,⟨a,v.put k.2.2 f k.1⟩,h.dis⟩
def Pr.grow(h:Pr t Hc H x y)(s:ah H H'):Pr t Hc H' x y:=by
 obtain⟨ps,u⟩:=h.u;obtain⟨a,v⟩:=h.v
 exact⟨⟨ps,u.grow s⟩,⟨a,v.grow s⟩,h.dis⟩
def cE.grow(h:cE H x y c xs)(s:ah H H'):cE H' x y c xs:=⟨s _ _ h.1,h.2⟩
def cE.put(h:cE H x y c xs)(n:c≠d):cE (upd H d o) x y c xs:=⟨by rw[ap n];exact h.1,h.2⟩
def cE.set(h:cE H x y c xs):cE (upd H c (.lst zs)) x y c zs:=⟨az,h.2⟩
def Pr.fresh(h:Pr t Hc H x y)(g:bi H q (.lst xs) H'):cE H' x y q xs/\Hc q=none:=by
 obtain⟨ps,u⟩:=h.u;obtain⟨a,v⟩:=h.v;refine⟨⟨g.at_,λz=>?_,λz=>?_⟩,u.tw.sb.free g.nw⟩
 ·obtain⟨w,hw⟩:=u.some5 q z;rw[g.nw]at hw;cases hw
 ·obtain⟨w,hw⟩:=v.some5 q z;rw[g.nw]at hw;cases hw
end
def c9.full{D:Kt}{ts:g0}{N k m:Nat}(h:c9 D ts N k m)(e:N=(al D 0 ts).1.length):k=ts.length/\m=0:=by
 refine h.uniq ⟨V5 _,?_,by omega,(λ_=>rfl),(λz=>YC z (Wz _))⟩;rw[e,Wg,Wg];simp
def CF(A B C:g0){i:Nat}(h:i<B.length):(A++(B++C))[A.length+i]? = B[i]?:=by
 rw[W5 (by omega),XD,W6 h]
def Q0{L:List (Addr × g0)}{i:Nat}{z:Addr × g0}(h:L[i]? = some z):flt L=flt (L.take i)++(z.2++flt (L.drop (i+1))):=by
 have a:=(V8.mp h).1;have e:L=L.take i++([z]++L.drop (i+1)):=by
  have:=(Xw i L).symm;rw[List.drop_eq_getElem_cons a]at this;have b:L[i]=z:=(V8.mp h).2;rw[b]at this;exact this
 conv=>lhs;rw[e]
 unfold flt;simp
def om{G:Kt}(ok:ie G)(ts:g0):(al G 0 (am G ts)).1.length<=6*ts.length:=by
 have:=(iI ok (iW G) (am G ts).length (am G ts) λi n _ e=>(gY (Wo e)).2).2;rw[Wg]at this;have:=lH G ts;omega
def HP(K:PySem.W.Frag)(t:Adr):Sp:=λvs H Q _=>∃(a:Hp) (b d:Ta) (f e pc:Addr) (D G:Kt) (ts:g0) (L:List (Addr × g0)),vs=[.ref b.x,.ref d.x,.ref pc]/\Tu t a H b f D G ts 0 0 0 false []/\Tu t a H d e G D (am G ts) 0 0 0 false []/\eJ H pc L/\(L.map λx=>x.1).Nodup/\flt L=(al D 0 ts).1/\ts.length<=300/\L.length<=301/\(∀c∈aH b f,c∉aH d e)/\(∀c∈pc::fB L,c∉aH b f/\c∉aH d e)/\(∀c∈fB L,a c=none) /\
 ∀p pt pb b1' b2' N1 N2 ps1 ps2 H',H' p=some (.tup [.ref pt,.ref pb])->H' pt=some (.lst ((al G 0 (am G ts)).1.map V.int))->H' pb=some (.lst ((al D 0 (am G ts)).1.map V.int))->Tu t a H' b b1' D G ts N1 ts.length 0 true ps1->Tu t a H' d b2' G D (am G ts) N2 (am G ts).length 0 true ps2->Q (.ref p) H'
def lD(ns:g0):¬(if true=true then !PyData.eqv (.list (ns.map PyData.int)) (.list (ns.map PyData.int)) else PyData.eqv (.list (ns.map PyData.int)) (.list (ns.map PyData.int)))=true:=by rw[lO];simp
open Classical in
def Oz (T:Txt w K mg t):bh P w K mg base "_law_led" 13 t.yY t.vj ["_law_first", "_law_second", "_law_pieces_here"] (HP K t):=by
 refine⟨T.PV,T.Fl.kp,T.Ss,T.Fl.okQ il (λvs H Q E h=>by obtain⟨Hc,f,d,g,r,pc,D,G,ts,L,rfl,_⟩:=h;rfl) λ_ _ _ _ H vs Q E hr h=>?_⟩;obtain⟨Hc,f,d,g,r,pc,D,G,ts,L,rfl,u1,u2,hP,nd,fl,lt,ll,dis,bB,cf,k⟩:=h;have hu:=hr.units;refine⟨_,(ai (aF (i:=3) il.nd Z (.inl Z) (aT ae))
  (ai (aF (i:=4) il.nd rfl (.inl rfl) (aT ae))
  (ai (cm PassesOwn.never rfl (cO (K:=K) rfl (aa 2)) (bb (i:=5) il.nd rfl (.inl rfl)) (ai (aF (i:=6) il.nd rfl (.inl rfl) (dM (VV K) T.n_list WJ (ad (aa 5) ae)))
  (ai (aF (i:=7) il.nd rfl (.inl rfl) (c6 (pR T) hr (aa 0) (ad (aa 5) ae)))
  (ai (aQ (cG (dy (aJ (fu (K:=K) rfl hu) (aa 5) (aa 6) (aM _)) (eB (dz (cV (aE (Du T) hr (ad (aa 7) ae))))))) (ak (aq bu)) aR)
  (ai (bE (cq (K:=K) rfl Wp WM WN (VW K) (aa 3) (ad (aa 7) ae)))
  (ai (aF (i:=8) il.nd rfl (.inl rfl) (c6 (pR T) hr (aa 1) (ad (aa 7) ae)))
  (ai (aQ (dz (cV (aE (Du T) hr (ad (aa 8) ae)))) (ak (aq bu)) aR)
  (ai (bE (cq (K:=K) rfl Wp WM WN (VW K) (aa 4) (ad (aa 8) ae)))
  (ai (bE (cq (K:=K) rfl Wp WB WC dO (aa 7) (ad aj ae)))
  (ak (bE (cq (K:=K) rfl Wp WB WC dO (aa 5) (ad aj ae)))))))))))))
  (ai (aF (i:=9) il.nd rfl (.inl rfl) (di (pS T) hr (aa 0)))
  (ai (bE (cq (K:=K) rfl Wp WM WN (VW K) (aa 3) (ad (aa 9) ae)))
  (ai (bE (cq (K:=K) rfl Wp WM WN (VW K) (aa 4) (ad (c6 (pR T) hr (aa 1) (ad (aa 9) ae)) ae)))
  (ai (bE (cq (K:=K) rfl Wp WM WN (VW K) (aa 4) (ad (di (pS T) hr (aa 1)) ae)))
  (ai (aQ (cG (dy (aJ (fu (K:=K) rfl hu) (di (pS T) hr (aa 0)) (aT ae) (aM _)) (dy (aJ (fu (K:=K) rfl hu) (c6 (pR T) hr (aa 0) (ad (aT (ad aj ae)) ae)) (aT ae) (aM _)) (eB (aJ (fu (K:=K) rfl hu) (di (pS T) hr (aa 1)) (aT ae) (aM _)))))) (ak (aq bu)) aR)
  (ak (aq (bJ (ad (aa 3) (ad (aa 4) ae))))))))))))),?_⟩
 have okG:ie G:=u1.tw.tg.ok;have okD:ie D:=u1.tn.ok;have lwD:(al D 0 ts).1.length<=1800:=by
  have:=(iI okD (iW D) ts.length ts λi n _ e=>u1.hin n (Wo e)).2;rw[Wg]at this;omega
 have cw:∀n∈ts,bo D n:=u1.hin;have ld:am D (am G ts)=am G ts:=List.filter_eq_self.mpr λn hn=>YE (cw n (gY hn).1);have bx:Pr t Hc H ⟨f,g,D,G,ts,0,0,0,false⟩ ⟨d,r,G,D,am G ts,0,0,0,false⟩:=⟨⟨_,u1⟩,⟨_,u2⟩,dis⟩;refine⟨sz Z,λpt H1 g1=>?_⟩;have cc:=bx.grow g1.sm;obtain⟨dm,bR⟩:=bx.fresh (xs:=[]) g1;refine⟨sz Z,λpb H2 g2=>?_⟩;have cB:=cc.grow g2.sm;obtain⟨dB,bc⟩:=cc.fresh (xs:=[]) g2;have d9:=dm.grow g2.sm;have s2:=g1.sm.trans g2.sm;have ao:pb≠pt:=(au g1.at_ g2.nw).symm;have bg:∀(j:Nat) (z:Addr × g0),L[j]? = some z->z.1≠pt/\z.1≠pb/\Hc z.1=none:=λj z hz=>by
  have m:=Wo hz;have e:=(hP.2 z m).2;exact⟨au e g1.nw,au (g1.sm _ _ e) g2.nw,cf _ (Wr.mpr ⟨z,m,Z⟩)⟩
 have bV:pc≠pt/\pc≠pb:=⟨au hP.1 g1.nw,au (g1.sm _ _ hP.1) g2.nw⟩;have dD:∀(j:Nat) (z:Addr × g0),L[j]? = some z->pc≠z.1:=λj z hz=>((hP.2 z (Wo hz)).1).symm;refine⟨pc,Z,⟨_,.of (s2 _ _ hP.1)⟩,fP (K:=K) (a:=pc) (xs:=L.map λx=>V.ref x.1) (λi σ H'=>∃(g r:Addr) (k1 m1 k2 m2:Nat) (v5 v6 v7 v8:Option V),Pr t Hc H' ⟨f,g,D,G,ts,(flt (L.take i)).length,k1,m1,false⟩ ⟨d,r,G,D,am G ts,(al G 0 (am G (ts.take k1))).1.length,k2,m2,false⟩ /\
  cE H' ⟨f,g,D,G,ts,(flt (L.take i)).length,k1,m1,false⟩ ⟨d,r,G,D,am G ts,(al G 0 (am G (ts.take k1))).1.length,k2,m2,false⟩ pt ((al G 0 (am G (ts.take k1))).1.map V.int) /\
  cE H' ⟨f,g,D,G,ts,(flt (L.take i)).length,k1,m1,false⟩ ⟨d,r,G,D,am G ts,(al G 0 (am G (ts.take k1))).1.length,k2,m2,false⟩ pb ((al D 0 (am D ((am G ts).take k2))).1.map V.int) /\
  cE H' ⟨f,g,D,G,ts,(flt (L.take i)).length,k1,m1,false⟩ ⟨d,r,G,D,am G ts,(al G 0 (am G (ts.take k1))).1.length,k2,m2,false⟩ pc (L.map λx=>V.ref x.1) /\
  (∀(j:Nat) (z:Addr × g0),i<=j->L[j]? = some z->cE H' ⟨f,g,D,G,ts,(flt (L.take i)).length,k1,m1,false⟩ ⟨d,r,G,D,am G ts,(al G 0 (am G (ts.take k1))).1.length,k2,m2,false⟩ z.1 (z.2.map V.int))/\k1<=ts.length/\k2<=ts.length /\
  σ=[some (.ref f.x),some (.ref d.x),some (.ref pc),some (.ref pt),some (.ref pb),v5,v6,v7,v8,none])
  ⟨g,r,0,0,0,0,_,_,_,_,cB,d9,dB,⟨s2 _ _ hP.1,bB pc (by simp)⟩,λj z _ hz=>⟨s2 _ _ (hP.2 z (Wo hz)).2,bB z.1 (WD _ (Wr.mpr ⟨z,Wo hz,rfl⟩))⟩,Wu _,Wu _,rfl⟩ (λi σ H' _ z=>by obtain⟨_,_,_,_,_,_,_,_,_,_,_,_,_,o,_⟩:=z;exact .of o.1) ?_ ?_⟩
 ·rintro i v σ H3 hv ⟨g,r,k1,m1,k2,m2,v5,v6,v7,v8,p,N,s,c8,b5,dC,d7,rfl⟩;rw[We]at hv;obtain⟨z,hz,rfl⟩:=WR.mp hv;have o3:=b5 i z (V5 _) hz;obtain⟨cb,bK,fz⟩:=bg i z hz;obtain⟨Rs,eRs⟩:∃Rs:Addr->List V->Prop,Rs=λc xs=>(c=pc/\xs=L.map λx=>V.ref x.1)\/∃(j:Nat) (U:Addr × g0),i<j/\L[j]? = some U/\c=U.1/\xs=U.2.map V.int:=⟨_,rfl⟩;have R3:∀c xs,Rs c xs->cE H3 ⟨f,g,D,G,ts,(flt (L.take i)).length,k1,m1,false⟩ ⟨d,r,G,D,am G ts,(al G 0 (am G (ts.take k1))).1.length,k2,m2,false⟩ c xs:=λc xs h=>by
   rw[eRs]at h;rcases h with ⟨rfl,rfl⟩|⟨j,U,hj,F,rfl,rfl⟩
   ·exact c8
   ·exact b5 j U (by omega) F
  have Rn:∀c xs,Rs c xs->c≠pt/\c≠pb/\c≠z.1:=λc xs h=>by
   rw[eRs]at h;rcases h with ⟨rfl,rfl⟩|⟨j,U,hj,F,rfl,rfl⟩
   ·exact⟨bV.1,bV.2,dD i z hz⟩
   ·refine⟨(bg j U F).1,(bg j U F).2.1,λe=>?_⟩;have e1:(L.map λx=>x.1)[j]? = some U.1:=by rw[We,F];rfl
    have e2:(L.map λx=>x.1)[i]? = some z.1:=by rw[We,hz];rfl
    have lj:=(V8.mp F).1;have:=(List.getElem?_inj (by rw[V4];exact lj) nd).mp (e1.trans ((congrArg some e).trans e2.symm));omega
  refine⟨_,.inl (.of o3.1),λp4 H4 g4=>?_⟩;have ay:=p.grow g4.sm;obtain⟨dl,fk⟩:=p.fresh (xs:=z.2.map V.int) g4;have o4:=o3.grow g4.sm;obtain⟨dn,c4⟩:=ay.u;refine⟨f.x,f.dx,_,Z,c4.tw.hx,Z,?_⟩;have b8:=Q0 hz;rw[fl]at b8;refine⟨wo H4 (aH f g),f,g,z.1,D,G,ts,z.2,_,k1,m1,false,dn,rfl,c4.side,.of (dq o4.2.1 o4.1),λ_=>⟨λj hj=>?_,λq aD b aU ci H5 nq kk u' hq qn=>?_⟩,(λh=>nomatch h)⟩
  ·rw[b8];exact (CF _ _ _ hj).symm
  have US:eI t (wo H4 (aH f g)) H5 ⟨f,aD,D,G,ts,(flt (L.take i)).length+z.2.length,b,aU,false⟩:=⟨ci,u'⟩;have aW:b<=ts.length:=u'.st.1;have a6:=Pr.call (b':=aD) (N':=(flt (L.take i)).length+z.2.length) (k':=b) (m':=aU) (e':=false) ay US;obtain⟨af,fq⟩:=Pr.new (x':=⟨f,aD,D,G,ts,(flt (L.take i)).length+z.2.length,b,aU,false⟩) ay nq hq qn;have o5:=o4.call US;have dA:=dl.call US;have aN:=(N.grow g4.sm).call US;have aI:=(s.grow g4.sm).call US;have R5:=λc xs h=>((R3 c xs h).grow g4.sm).call US;have dp:z.1≠q:=o4.ne nq;have aP:pt≠q:=(N.grow g4.sm).ne nq;have b7:pb≠q:=(s.grow g4.sm).ne nq;have Rq:∀c xs,Rs c xs->c≠q:=λc xs h=>((R3 c xs h).grow g4.sm).ne nq;refine⟨_,_,ba.lst (.of o5.1) (bG.ints z.2),ba.lst (.of dA.1) (bG.ints z.2),Ww z.2,Ww z.2,?_⟩;refine aw (λy=>YC y (lD z.2)) (λ_=>?_);have ow:=pv G ts kk;have e1:(al G 0 (am G (ts.take b))).1=(al G 0 (am G (ts.take k1))).1++cP G ts k1 b:=congrArg Prod.fst ow;have lw:=om okG (ts.take b);rw[Wa]at lw;have cF:=congrArg List.length e1;rw[Wb]at cF;refine⟨q,_,rfl,af.1,by omega,λH6 s6=>?_⟩;refine aw (λy=>YC (show false=true from y) (by decide)) (λ_=>?_);have bn:=a6.grow s6;have R:=aN.grow s6;have a7:=aI.grow s6;have bO:=af.grow s6;have o6:=o5.grow s6;have R6:=λc xs h=>(R5 c xs h).grow s6;refine⟨.inl ⟨rfl,_,.of R.1⟩,?_⟩;refine⟨_,_,R.1,bO.1,bA (by rw[V4,V4];omega),?_⟩;generalize hH7:upd H6 pt _=H7;have J:=bn.put (o:=.lst ((al G 0 (am G (ts.take k1))).1.map V.int++(cP G ts k1 b).map V.int)) R bR;have an:=R.set (zs:=(al G 0 (am G (ts.take k1))).1.map V.int++(cP G ts k1 b).map V.int);have I:=a7.put (o:=.lst ((al G 0 (am G (ts.take k1))).1.map V.int++(cP G ts k1 b).map V.int)) ao;have aV:=bO.put (o:=.lst ((al G 0 (am G (ts.take k1))).1.map V.int++(cP G ts k1 b).map V.int)) aP.symm;have o7:=o6.put (o:=.lst ((al G 0 (am G (ts.take k1))).1.map V.int++(cP G ts k1 b).map V.int)) cb;have R7:=λc xs h=>(R6 c xs h).put (o:=.lst ((al G 0 (am G (ts.take k1))).1.map V.int++(cP G ts k1 b).map V.int)) (Rn c xs h).1;rw[hH7]at J an I aV o7;simp only [hH7]at R7;rw[<- Wm,<- e1]at an;clear hH7;obtain⟨cy,bH⟩:=J.v;refine⟨d.x,d.dx,_,Z,bH.tw.hx,Z,?_⟩;have cM:(al G 0 (am G ts)).1=(al G 0 (am G (ts.take k1))).1++(cP G ts k1 b++cP G ts b ts.length):=by
   have:=congrArg Prod.fst (pv G ts aW);rw[Wg]at this;rw[this];show _++_=_;rw[e1,WV]
  refine⟨wo H7 (aH d r),d,r,q,G,D,am G ts,cP G ts k1 b,_,k2,m2,false,cy,rfl,bH.side,.of (dq aV.2.2 aV.1),λ_=>⟨λj hj=>?_,λq2 aC l aK cj H8 cx cI bZ dF cL=>?_⟩,(λh=>nomatch h)⟩
  ·rw[cM];exact (CF _ _ _ hj).symm
  have S:eI t (wo H7 (aH d r)) H8 ⟨d,aC,G,D,am G ts,(al G 0 (am G (ts.take k1))).1.length+(cP G ts k1 b).length,l,aK,false⟩:=⟨cj,bZ⟩;have dP:l<=(am G ts).length:=bZ.st.1;have bj:=(Pr.call (b':=aC) (N':=(al G 0 (am G (ts.take k1))).1.length+(cP G ts k1 b).length) (k':=l) (m':=aK) (e':=false) J.swap S).swap;obtain⟨bl,eu⟩:=Pr.new (x':=⟨d,aC,G,D,am G ts,(al G 0 (am G (ts.take k1))).1.length+(cP G ts k1 b).length,l,aK,false⟩) J.swap cx dF cL;have b3:=bl.swap;have o8:=(o7.swap.call S).swap;have b9:=(an.swap.call S).swap;have a4:=(I.swap.call S).swap;have d5:=(aV.swap.call S).swap;have R8:=λc xs h=>((R7 c xs h).swap.call S).swap;have e2:(al D 0 (am D ((am G ts).take l))).1=(al D 0 (am D ((am G ts).take k2))).1++cP D (am G ts) k2 l:=congrArg Prod.fst (pv D (am G ts) cI);have lx:=om okD ((am G ts).take l);have lf:=lH G ts;rw[Wa]at lx;have dd:=congrArg List.length e2;rw[Wb]at dd;refine⟨q2,_,rfl,b3.1,by omega,λH9 s9=>?_⟩;refine aw (λy=>YC (show false=true from y) (by decide)) (λ_=>?_);have aS:=bj.grow s9;have M:=a4.grow s9;refine⟨.inl ⟨rfl,_,.of M.1⟩,?_⟩;refine⟨_,_,M.1,(b3.grow s9).1,bA (by rw[V4,V4];omega),?_⟩;generalize hW:(HO.lst ((al D 0 (am D ((am G ts).take k2))).1.map V.int++(cP D (am G ts) k2 l).map V.int))=W;have a8:=aS.put (o:=W) M bc;have C:=M.set (zs:=(al D 0 (am D ((am G ts).take k2))).1.map V.int++(cP D (am G ts) k2 l).map V.int);rw[hW]at C;have ag:=(b9.grow s9).put (o:=W) ao.symm;have a5:=(d5.grow s9).put (o:=W) b7.symm;have dh:=(o8.grow s9).put (o:=W) bK;have df:=λc xs h=>((R8 c xs h).grow s9).put (o:=W) (Rn c xs h).2.1;rw[<- Wm,<- e2]at C;generalize upd H9 pb W=bi at *;refine⟨.inl ⟨rfl,_,.of a5.1⟩,?_⟩;refine⟨_,a5.1,cZ (by rw[V4];omega),?_⟩;generalize hW2:(HO.lst ((cP G ts k1 b).map V.int++[V.int 7]))=W2;have B:=a8.put (o:=W2) a5 fq;have bw:=ag.put (o:=W2) aP;have c2:=C.put (o:=W2) b7;have bm:=dh.put (o:=W2) dp;have cC:=λc xs h=>(df c xs h).put (o:=W2) (Rq c xs h);generalize upd bi q W2=dH at *;refine⟨.inl ⟨rfl,_,.of bm.1⟩,?_⟩;have cH:=congrArg List.length b8;rw[Wb,Wb]at cH;refine⟨_,bm.1,cZ (by rw[V4];omega),?_⟩;generalize hW3:(HO.lst (z.2.map V.int++[V.int 9]))=W3;have ab:=B.put (o:=W3) bm fz;have Y:=bw.put (o:=W3) cb.symm;have av:=c2.put (o:=W3) bK.symm;have c3:=λc xs h=>(cC c xs h).put (o:=W3) (Rn c xs h).2.2;have eN:(flt (L.take (i+1))).length=(flt (L.take i)).length+z.2.length:=by
   rw[db hz];exact (congrArg List.length (mW (L.take i) z.1 z.2)).trans Wb
  have eN2:(al G 0 (am G (ts.take b))).1.length=(al G 0 (am G (ts.take k1))).1.length+(cP G ts k1 b).length:=by rw[e1,Wb]
  refine⟨aD,aC,b,aU,l,aK,_,_,_,_,by rw[eN,eN2];exact ab,by rw[eN,eN2];exact Y,by rw[eN,eN2];exact av,?_,λj U hj F=>?_,aW,by omega,rfl⟩
  ·rw[eN,eN2];exact c3 pc _ (by rw[eRs];exact .inl ⟨rfl,rfl⟩)
  ·rw[eN,eN2];exact c3 U.1 _ (by rw[eRs];exact .inr ⟨j,U,by omega,F,rfl,rfl⟩)
 ·rintro σ H3 ⟨g,r,k1,m1,k2,m2,v5,v6,v7,v8,p,N,s,c8,b5,dC,d7,rfl⟩;rw[V4,Wg,fl]at p N s;obtain⟨ek,em⟩:k1=ts.length/\m1=0:=by
   obtain⟨ps,u⟩:=p.u;exact u.st.full Z
  subst ek em;rw[Wg]at p N s;obtain⟨d0,cz⟩:k2=(am G ts).length/\m2=0:=by
   obtain⟨ps,u⟩:=p.v;exact u.st.full Z
  subst d0 cz;rw[Wg,ld]at s;have lw:=om okG ts;have lx:=om okD (am G ts);rw[ld]at lx;have lf:=lH G ts;have cQ:cP D (am G ts) (am G ts).length (am G ts).length=[]:=by
   unfold cP;rw[Wg,XU]
   rfl
  obtain⟨de,u3⟩:=p.u;refine⟨f.x,f.dx,_,Z,u3.tw.hx,Z,?_⟩;refine⟨wo H3 (aH f g),f,g,D,G,ts,_,_,false,de,Z,u3.side,λq4 cT H4 be u4 dj dv=>?_⟩;have bd:eI t (wo H3 (aH f g)) H4 ⟨f,g,D,G,ts,(al D 0 ts).1.length,ts.length,0,true⟩:=⟨cT,u4⟩;have ay:=Pr.call (b':=g) (N':=(al D 0 ts).1.length) (k':=ts.length) (m':=0) (e':=true) p bd;obtain⟨cd,ee⟩:=Pr.new (x':=⟨f,g,D,G,ts,(al D 0 ts).1.length,ts.length,0,true⟩) p be dj dv;have aL:=N.call bd;have cW:=s.call bd;have aP:=N.ne be;have b7:=s.ne be;refine⟨.inl ⟨rfl,_,.of aL.1⟩,?_⟩;refine⟨_,_,aL.1,cd.1,bA (by rw[V4];show _+0<=_;omega),?_⟩;have aN:=aL.set (zs:=(al G 0 (am G ts)).1.map V.int++[]);generalize hW:(HO.lst ((al G 0 (am G ts)).1.map V.int++[]))=W at *;have a6:=ay.put (o:=W) aL bR;have aI:=cW.put (o:=W) ao;have af:=cd.put (o:=W) aP.symm;rw[Wv]at aN;generalize upd H4 pt W=H5 at *;clear hW;refine⟨.inl ⟨rfl,_,.of aI.1⟩,?_⟩;obtain⟨dc,u5⟩:=a6.v;refine⟨d.x,d.dx,_,Z,u5.tw.hx,Z,?_⟩;refine⟨wo H5 (aH d r),d,r,q4,G,D,am G ts,[],_,_,0,false,dc,rfl,u5.side,.of (dq af.2.2 af.1),λ_=>⟨λj hj=>YC hj (X9 _),λq6 O k6 m6 dE H6 cD eM u6 bC cX=>?_⟩,(λh=>nomatch h)⟩;obtain⟨ds,d8⟩:k6=(am G ts).length/\m6=0:=u6.st.full rfl;subst ds d8;rw[cQ]at bC;have b4:eI t (wo H5 (aH d r)) H6 ⟨d,O,G,D,am G ts,(al G 0 (am G ts)).1.length,(am G ts).length,0,false⟩:=⟨dE,u6⟩;have bn:=(Pr.call (b':=O) (N':=(al G 0 (am G ts)).1.length) (k':=(am G ts).length) (m':=0) (e':=false) a6.swap b4).swap;obtain⟨bP,eL⟩:=Pr.new (x':=⟨d,O,G,D,am G ts,(al G 0 (am G ts)).1.length,(am G ts).length,0,false⟩) a6.swap cD bC cX;have R:=(aN.swap.call b4).swap;have a7:=(aI.swap.call b4).swap;refine⟨_,_,a7.1,bP.1,bA (by rw[V4];show _+0<=_;omega),?_⟩;have I:=a7.set (zs:=(al D 0 (am G ts)).1.map V.int++[]);generalize hW:(HO.lst ((al D 0 (am G ts)).1.map V.int++List.map V.int []))=W;have ch:(HO.lst ((al D 0 (am G ts)).1.map V.int++[]))=W:=hW;rw[ch]at I;have J:=bn.put (o:=W) a7 bc;have an:=R.put (o:=W) ao.symm;rw[Wv]at I;generalize upd H6 pb W=H7 at *;clear hW ch;refine⟨.inl ⟨rfl,_,.of I.1⟩,?_⟩;obtain⟨cU,u7⟩:=J.v;refine⟨d.x,d.dx,_,Z,u7.tw.hx,Z,?_⟩;refine⟨wo H7 (aH d O),d,O,G,D,am G ts,_,_,false,cU,Z,u7.side,λq8 cJ H8 e7 u8 dw ez=>?_⟩;have bk:eI t (wo H7 (aH d O)) H8 ⟨d,O,G,D,am G ts,(al G 0 (am G ts)).1.length,(am G ts).length,0,true⟩:=⟨cJ,u8⟩;have bj:=(Pr.call (b':=O) (N':=(al G 0 (am G ts)).1.length) (k':=(am G ts).length) (m':=0) (e':=true) J.swap bk).swap;have b9:=(an.swap.call bk).swap;have a4:=(I.swap.call bk).swap;refine⟨_,_,a4.1,dw,bA (by rw[V4];show _+0<=_;omega),?_⟩;have M:=a4.set (zs:=(al D 0 (am G ts)).1.map V.int++[]);generalize hW:(HO.lst ((al D 0 (am G ts)).1.map V.int++[]))=W at *;have aS:=bj.put (o:=W) a4 bc;have cv:=b9.put (o:=W) ao.symm;rw[Wv]at M;generalize upd H8 pb W=H9 at *;clear hW;obtain⟨d6,u9⟩:=aS.u;refine⟨f.x,f.dx,_,Z,u9.tw.hx,Z,?_⟩;refine⟨wo H9 (aH f g),f,g,D,G,ts,_,_,true,d6,Z,u9.side,λet bX bi dR d1 c0 e4=>?_⟩;have ah:eI t (wo H9 (aH f g)) bi ⟨f,g,D,G,ts,(al D 0 ts).1.length,ts.length,0,true⟩:=⟨bX,d1⟩;have a8:=Pr.call (b':=g) (N':=(al D 0 ts).1.length) (k':=ts.length) (m':=0) (e':=true) aS ah;have ag:=cv.call ah;have C:=M.call ah;refine⟨sz Z,λeF dH a3=>?_⟩;refine⟨_,_,ba.lst (.of (a3.sm _ _ c0)) (bG.ints []),ba.lst a3.lst (bG.ints []),Ww [],Ww [],?_⟩;refine aw (λy=>YC y (lD [])) (λ_=>?_);have B:=a8.grow a3.sm;obtain⟨bv,bN⟩:=B.u;refine⟨f.x,f.dx,_,Z,bN.tw.hx,Z,?_⟩;refine⟨sz Z,λdt ce ax=>?_⟩;have ab:=B.grow ax.sm;obtain⟨c9,_⟩:=B.fresh (xs:=[V.int 1]) ax;have da:=bN.grow ax.sm;have Y:=(ag.grow a3.sm).grow ax.sm;have av:=(C.grow a3.sm).grow ax.sm;refine⟨wo ce (aH f g),f,g,dt,D,G,ts,[1],_,_,0,true,bv,rfl,da.side,.of (dq c9.2.1 c9.1),(λh=>nomatch h),λ_ ej bM cR dI dk bT dW=>?_⟩;have ap:eI t (wo ce (aH f g)) cR ⟨f,g,D,G,ts,(al D 0 ts).1.length,ts.length,0,true⟩:=⟨bM,dk⟩;have bU:=Pr.call (b':=g) (N':=(al D 0 ts).1.length) (k':=ts.length) (m':=0) (e':=true) ab ap;have c1:=Y.call ap;have ca:=av.call ap;refine⟨sz Z,λeD bW a0=>?_⟩;refine⟨_,_,ba.lst (.of (a0.sm _ _ bT)) (bG.ints []),ba.lst a0.lst (bG.ints []),Ww [],Ww [],?_⟩;refine aw (λy=>YC y (lD [])) (λ_=>?_);have aZ:=bU.grow a0.sm;obtain⟨bS,bL⟩:=aZ.v;refine⟨d.x,d.dx,_,Z,bL.tw.hx,Z,?_⟩;refine⟨wo bW (aH d O),d,O,G,D,am G ts,_,_,true,bS,Z,bL.side,λec bD d4 dT d2 cg dZ=>?_⟩;have ar:eI t (wo bW (aH d O)) d4 ⟨d,O,G,D,am G ts,(al G 0 (am G ts)).1.length,(am G ts).length,0,true⟩:=⟨bD,d2⟩;have c7:=(Pr.call (b':=O) (N':=(al G 0 (am G ts)).1.length) (k':=(am G ts).length) (m':=0) (e':=true) aZ.swap ar).swap;have bI:=((c1.grow a0.sm).swap.call ar).swap;have c5:=((ca.grow a0.sm).swap.call ar).swap;refine⟨sz Z,λeA er az=>?_⟩;refine⟨_,_,ba.lst (.of (az.sm _ _ cg)) (bG.ints []),ba.lst az.lst (bG.ints []),Ww [],Ww [],?_⟩;refine aw (λy=>YC y (lD [])) (λ_=>?_);refine⟨sz Z,λpr cA aG=>?_⟩;have b0:=c7.grow (az.sm.trans aG.sm);obtain⟨du,w1⟩:=b0.u;obtain⟨dr,w2⟩:=b0.v;exact k pr pt pb g O _ _ du dr cA aG.at_ (aG.sm _ _ (az.sm _ _ bI.1)) (aG.sm _ _ (az.sm _ _ c5.1)) w1 w2
theorem C9{α:Type}{f:α->PyData}{n:Nat}(h:∀x,(f x).canLay0=true/\(f x).depth<=n):∀l:List α,PyData.canLayAll0 (l.map f)=true/\PyData.depthAll (l.map f)<=n
 | []=>⟨rfl,Wu _⟩
 | x::l=>by
  obtain⟨a,b⟩:=C9 h l;obtain⟨c,d⟩:=h x;refine⟨?_,?_⟩
  ·rw[WA,PyData.canLayAll0,a,c];rfl
  ·rw[WA,PyData.depthAll];omega
def uq{α:Type}{f:α->PyData}{n:Nat}(h:∀x,(f x).canLay0=true/\(f x).depth<=n)(l:List α):(PyData.list (l.map f)).canLay0=true/\(PyData.list (l.map f)).depth<=n+1:=by
 obtain⟨a,b⟩:=C9 h l;exact⟨by simpa [PyData.canLay0] using a,by simp[PyData.depth];omega⟩
def Bm{d:PyData}{n:Nat}(h:d.canLay0=true/\d.depth<=n)(a:n<=64):SeqAt.shaped d=true:=by
 unfold SeqAt.shaped;rw[h.1,YE (by omega:d.depth<=64)]
 rfl
def dP(l:Nat × Int):PyData:=.tuple [.int (l.1:Int),.int l.2]
def qw(a:List (Nat × Int)):SeqAt.shaped (.list (a.map dP))=true:=Bm (uq (n:=4) (λx=>⟨rfl,by simp[dP,PyData.depth,PyData.depthAll]⟩) a) (by decide)
theorem Ej:∀ls:List (Nat × Int),PyData.eqvAll (ls.map dP) (ls.map dP)=true
 | []=>rfl
 | l::ls=>by
  rw[WA,PyData.eqvAll,Ej ls];simp[dP,PyData.eqv,PyData.eqvAll]
def Ek(a:List (Nat × Int)):PyData.eqv (.list (a.map dP)) (.list (a.map dP))=true:=Ej a
def Rt(a:List (Nat × Int)):¬(if true=true then !PyData.eqv (.list (a.map dP)) (.list (a.map dP)) else PyData.eqv (.list (a.map dP)) (.list (a.map dP)))=true:=by rw[Ek];decide
theorem Lt.data{H:Hp}:∀ {ps:List Addr} {c:List (Nat × Int)},Lt H ps c->bG K H (c.map dP) (ps.map V.ref)
 | [],[],_=>.nil
 | p::ps,l::c,h=>.cons (ba.tup (.of (h.2 0 p l rfl rfl)) (.cons (ba.int _) (.cons (ba.int _) .nil))) (Lt.data ⟨Xg h.1,λi a b d hb=>h.2 (i+1) a b d hb⟩)
 | [],_::_,h=>nomatch h.1
 | _::_,[],h=>nomatch h.1
def d2(r s:g0):PyData:=.tuple [.list (r.map PyData.int),.list (s.map PyData.int)]
def El(r s:g0):SeqAt.shaped (d2 r s)=true:=by
 obtain⟨a,b⟩:=uq (f:=PyData.int) (n:=1) (λx=>⟨rfl,by simp[PyData.depth]⟩) r;obtain⟨c,d⟩:=uq (f:=PyData.int) (n:=1) (λx=>⟨rfl,by simp[PyData.depth]⟩) s;refine Bm (n:=4) ⟨by simp[d2,PyData.canLay0,PyData.canLayAll0];exact⟨by simpa [PyData.canLay0] using a,by simpa [PyData.canLay0] using c⟩,?_⟩ (by decide);simp only [d2,PyData.depth,PyData.depthAll]at b d ⊢;omega
def Ru(r s:g0):¬(if true=true then !PyData.eqv (d2 r s) (d2 r s) else PyData.eqv (d2 r s) (d2 r s))=true:=by
 have e:PyData.eqv (d2 r s) (d2 r s)=true:=by
  show PyData.eqvAll [_,_] [_,_]=true;rw[PyData.eqvAll,lO,PyData.eqvAll,lO];simp[PyData.eqvAll]
 rw[e];decide
open Classical in
theorem C3(G:Kt):∀(ts:g0) (k:Nat),(∀n∈ts,bo G n)->bF G k ts=[]
 | [],_,_=>rfl
 | n::ts,k,h=>by
  simp only [bF];rw[YB (h n (by simp)),C3 G ts (k+1) λm hm=>h m (by simp[hm])]
def Tu.over{g d H:Hp}{a:Ta}{b:Addr}{D G:Kt}{ts:g0}{N k m:Nat}{e:Bool}{ps:List Addr}(h:Tu t g H a b D G ts N k m e ps)(tg:TN t d a.og G)(tn:TN t d a.o D)(i:ah d H)(f:∀c∈aH a b,d c=none)(kp:∀c u,c∈[a.st,a.mt,a.ss]->H c=some u->d c=some u):Tu t d H a b D G ts N k m e ps:=by
 obtain⟨ds,hs⟩:=h.tw.hs
 exact⟨⟨tg,i,f _ (by simp[aH]),f _ (by simp[aH]),f _ (by simp[aH]),⟨ds,kp _ _ (by simp) (h.tw.sb _ _ hs)⟩,kp _ _ (by simp) (h.tw.sb _ _ h.tw.hst),h.tw.hx,h.tw.hw,h.tw.hl,h.tw.pg⟩,h.lt,tn,f _ (by simp[aH]),f _ (by simp[aH]),kp _ _ (by simp) (h.tw.sb _ _ h.hm),h.nb,h.hr,h.hb,h.st,h.hin,h.yn,h.ln,h.pl⟩
def Tu.three{d H:Hp}{a:Ta}{b:Addr}{D G:Kt}{ts:g0}{N k m:Nat}{e:Bool}{ps:List Addr}(h:Tu t d H a b D G ts N k m e ps):∀c∈[a.st,a.mt,a.ss],∃v,d c=some v:=by
 intro c f;simp only [Wh,WK,or_false]at f;rcases f with rfl|rfl|rfl
 ·exact⟨_,h.tw.hst⟩
 ·exact⟨_,h.hm⟩
 ·obtain⟨ds,e⟩:=h.tw.hs;exact⟨_,e⟩
def tI(K:PySem.W.Frag):Sp:=λvs H Q _=>∃a,vs=[.ref a]/\∃ns:g0,aI K H a (ns.map V.int)/\ns.length<=63/\∀H',Q (.bl true) H'
def OL (T:Txt w K mg t):bh P w K mg base "law" 14 t.zp t.qg ["_law_script"] (tI K):=by
 refine⟨T.DU,T.Ak.kp,T.SS,T.Ak.okQ fK (λvs H Q E h=>by obtain⟨a,rfl,_⟩:=h;rfl) λ_ _ _ _ H vs Q E hr h=>?_⟩;obtain⟨a,rfl,cs,ha,lc,k⟩:=h;have hu:=hr.units;refine⟨_,(ai (oU (aE (OF T) hr (ad (aa 0) ae)) (fN (K:=K) Z Z (cF (bb (i:=1) fK.nd Z (.inl Z)) (cF (bb (i:=2) fK.nd Z (.inr Z)) (cF (bb (i:=3) fK.nd Z (.inl Z)) (cF (bb (i:=4) fK.nd Z (.inl Z)) fM))))))
  (ai (mx (i:=5) fK.nd rfl (.inl rfl) rfl (cz.of (fns:=(ag iq).names) (N:=["_law_script", "_law_source", "_law_goal", "_law_text_here", "_law_pieces_here", "_law_lacks", "_law_left", "_law_first", "_law_second", "_law_told", "_law_found"]) (Nc:=["_law_k", "_law_sign_here", "_law_goal"]) (nv:=2) (caps:=[2]) rfl rfl (by decide +kernel)) (gO (K:=K) rfl rfl T.n_enumerate (ad (aa 3) ae)) (λ_ _ _ _=>(fN (K:=K) rfl (n:=2) rfl (cF (bb (i:=0) (show List.Nodup (["_law_k", "_law_sign_here", "_law_goal"]:List Str) by decide +kernel) rfl (Or.inl rfl) (Or.inr rfl)) (cF (bb (i:=1) (show List.Nodup (["_law_k", "_law_sign_here", "_law_goal"]:List Str) by decide +kernel) rfl (Or.inl rfl) (Or.inr rfl)) fM)))) (λ_ _ _ _=>(mw (aJ fA (aE (uF T) hr (ad (aa 2) (ad (aa 1) (ad aj ae)))) bu (aM _)))) (λ_ _ _ _=>(bJ (ad (aa 0) (ad (aa 1) ae)))))
  (ai (mx (i:=6) fK.nd rfl (.inl rfl) rfl (cz.of (fns:=(ag iq).names) (N:=["_law_script", "_law_source", "_law_goal", "_law_text_here", "_law_pieces_here", "_law_lacks", "_law_left", "_law_first", "_law_second", "_law_told", "_law_found"]) (Nc:=["_law_sign_here", "_law_goal"]) (nv:=1) (caps:=[2]) rfl rfl (by decide +kernel)) (cO (K:=K) rfl (aa 3)) (λ_ _ _ _=>(bb (i:=0) (show List.Nodup (["_law_sign_here", "_law_goal"]:List Str) by decide +kernel) rfl (Or.inl rfl) (Or.inr rfl))) (λ_ _ _ _=>(mw (aJ mQ (aE (uF T) hr (ad (aa 1) (ad (aa 0) (ad aj ae)))) bu (aM _)))) (λ_ _ _ _=>(aa 0)))
  (ai (aF (i:=7) fK.nd rfl (.inl rfl) (fh (Dn T) hr (ad (aa 1) (ad (aa 2) ae))))
  (ai (aF (i:=8) fK.nd rfl (.inl rfl) (fh (Dn T) hr (ad (aa 2) (ad (aa 1) ae))))
  (ai (aF (i:=9) fK.nd rfl (.inl rfl) (aE (Oz T) hr (ad (aa 7) (ad (aa 8) (ad (aa 4) ae)))))
  (ai (aQ (cG (dy (aJ fA (aa 9) bu (aM _)) (eB (aJ (fu (K:=K) rfl hu) (aa 9) (bJ (ad (aE (mO T) hr (ad (aa 2) (ad (aa 6) ae))) (ad (aE (mO T) hr (ad (aa 1) (ad (aa 6) ae))) ae))) (aM _))))) (ak (aq fO)) aR)
  (ai (aF (i:=10) fK.nd rfl (.inl rfl) (di (uL T) hr (aa 7)))
  (ai (aQ (cG (dy (dz (cV (bp (VR K) T.n_isinstance WS (ad (aa 10) (ad (gR rfl T.n_list WJ) ae))))) (dy (aJ (fu (K:=K) rfl hu) (aa 10) (aa 5) (aM _)) (dy (aJ (fu (K:=K) rfl hu) (di (DF T) hr (aa 7)) (aT ae) (aM _)) (eB (aJ (fu (K:=K) rfl hu) (di (uL T) hr (aa 8)) (aT ae) (aM _))))))) (ak (aq fO)) aR)
  (ai (bE (cq (K:=K) rfl Wp WB WC dO (aa 10) (ad (bJ (ad aj (ad aj ae))) ae)))
  (ak (aq (iu (gQ (ca (K:=K) rfl hu) (di (uL T) hr (aa 7)) (aa 5) (aM _)) (gP (gQ (ca (K:=K) rfl hu) (di (DF T) hr (aa 8)) (aT ae) (aM _)))))))))))))))),?_⟩
 refine⟨a,cs,rfl,ha,by omega,λp o og tx pc D G ts L H1 s1 hp dr=>?_⟩;refine⟨p,_,Z,.of hp,Z,_,_,Z,_,_,Z,_,_,Z,_,_,Z,Z,?_⟩;have ln:=dr.ln;have tgH:TN t H1 og G:=dr.sg.mono fY;have toH:TN t H1 o D:=dr.so.mono fY;have b3:∀i,(bF G 0 (ts.take i)).length<=i:=λi=>by
  have:=ul G (ts.take i) 0;rw[Wa]at this;omega
 refine⟨tx,_,Z,.of dr.ht,?_⟩;refine xw (K:=K) (a:=tx) (xs:=ts.map V.int) (λi ys s=>ah H1 s/\∃ps:List Addr,ys=ps.map V.ref/\Lt s ps (bF G 0 (ts.take i))) ⟨ah.refl _,[],rfl,⟨rfl,(λi p l hp=>by cases hp)⟩⟩ (λi ys s hi z=>⟨.of (z.1 _ _ dr.ht),?_⟩) (bA (by rw[V4];omega)) (λi x ys s HB N hx z sB hN=>?_) λys s pk H2 z g2=>?_
 ·obtain⟨_,ps,rfl,l⟩:=z;have:=l.1;have:=b3 i;rw[V4];omega
 ·obtain⟨s',ps,rfl,l⟩:=z;obtain⟨n,f,rfl⟩:=dD hx;have li:=(V8.mp f).1;have aI:=s'.trans sB;have ea:bF G 0 (ts.take (i+1))=bF G 0 (ts.take i)++bF G i [n]:=by
   rw[db f,pJ,Wa,Nat.zero_add,WX (by omega)]
  refine⟨og,G,n,Z,tgH.mono aI,lY G (dr.hin n (Wo f)).1,λhI q H4 s4=>?_,λhO H4 s4=>?_⟩
  ·dsimp only [tC];refine mL ?_;refine hN _ _ ⟨aI.trans s4,ps,Z,?_⟩;rw[ea,C2 hI,Wv];exact l.keep (dF.of (sB.trans s4))
  ·dsimp only [tC];refine pL ?_;refine⟨sz rfl,λp5 H5 g5=>hN _ _ ⟨aI.trans (s4.trans g5.sm),ps++[p5],by rw[Wm];rfl,?_⟩⟩;rw[ea,C1 hO];exact (l.keep (dF.of (sB.trans (s4.trans g5.sm)))).snoc g5.at_
 obtain⟨aV,lp,rfl,bl⟩:=z;rw[V4,Wg]at bl;have a4:=aV.trans g2.sm;have ax:=bl.keep (dF.of g2.sm);have b7:=a4 _ _ dr.ht;refine⟨tx,rfl,⟨_,.of b7⟩,qU (K:=K) (a:=tx) (xs:=ts.map V.int) (λi ys s=>ah H2 s/\ys=(am G (ts.take i)).map V.int) ⟨ah.refl _,rfl⟩ (λi ys s hi z=>⟨.of (z.1 _ _ b7),?_⟩) (bA (by rw[V4];omega)) (λi x ys s N hx z hN=>?_) λys s pl H3 z g3=>?_⟩
 ·have:=lH G (ts.take i);rw[Wa]at this;rw[z.2,V4];omega
 ·obtain⟨s',rfl⟩:=z;obtain⟨n,f,rfl⟩:=dD hx;have ea:am G (ts.take (i+1))=am G (ts.take i)++am G [n]:=by rw[db f,um]
  refine⟨og,G,n,Z,tgH.mono (a4.trans s'),lY G (dr.hin n (Wo f)).1,λhI q H4 s4=>?_,λhO H4 s4=>?_⟩
  ·dsimp only [tC];refine mL ?_;refine hN _ _ ⟨s'.trans s4,?_⟩;rw[ea,C5 hI,Wm];rfl
  ·dsimp only [tC];refine pL ?_;refine hN _ _ ⟨s'.trans s4,?_⟩;rw[ea,C4 hO,Wv]
 obtain⟨bj,rfl⟩:=z;rw[V4,Wg]at g3;have aG:=bj.trans g3.sm;have O:=a4.trans aG;refine λx1 ce a0 bd cn=>?_;have m1:=dX (C:=t.bO) a0 bd;have bt:=toH.mono O;have bn:=tgH.mono O;refine⟨H3,x1,ce,o,og,D,G,rfl,az,bt,bn,m1,a0,λj b1 H4 c0 k4 f4 n4 c7 c9 U1=>⟨rfl,?_⟩⟩;have J:ah H3 H4:=λc u e=>k4 c u (au e a0) (m1 c u e);refine λx2 bT a6 bc cp=>?_;have m2:=dX (C:=t.bO) a6 bc;refine⟨H4,x2,bT,og,o,G,D,rfl,az,bn.mono J,bt.mono J,m2,a6,λm b2 H5 bH k5 f5 n5 bL bZ U2=>⟨rfl,?_⟩⟩;have bm:ah H4 H5:=λc u e=>k5 c u (au e a6) (m2 c u e);have b9:=J.trans bm;have hinD:∀n∈ts,bo D n:=λn f=>(dr.hin n f).2;have ynG:∀n∈ts,Yn G n:=λn f=>lY G (dr.hin n f).1;have lf:=lH G ts;have V1:=U1 ts hinD ynG (by omega);have V2:=U2 (am G ts) (λn f=>(gY f).2) (λn f=>lY D (dr.hin n (gY f).1).1) (by omega);clear U1 U2;subst c0 bH;have n1:∀c u,H3 c=some u->c∉aH j b1:=λc u e z=>by
  rcases f4 c z with q|q
  ·rw[q,a0]at e;cases e
  ·rw[m1 c u e]at q;cases q
 have n2:∀c u,H4 c=some u->c∉aH m b2:=λc u e z=>by
  rcases f5 c z with q|q
  ·rw[q,a6]at e;cases e
  ·rw[m2 c u e]at q;cases q
 have dis:∀c∈aH j b1,c∉aH m b2:=λc r=>by
  obtain⟨v,I⟩:=V1.some5 c r;exact n2 c v I
 have P1:∀c∈fB L,∃us,H3 c=some (.lst us):=λc r=>by
  obtain⟨z,hz,rfl⟩:=Wr.mp r;exact⟨_,O _ _ (dr.pc.2 z hz).2⟩
 obtain⟨g,eC⟩:∃g,g=wo H5 (aH j b1++(aH m b2++fB L)):=⟨_,rfl⟩;have inC:∀c u,c∉aH j b1->c∉aH m b2->c∉fB L->H5 c=some u->g c=some u:=λc u a b d e=>by
  rw[eC];refine dq (λz=>?_) e;rcases Wi.mp z with z|z
  ·exact a z
  ·exact (Wi.mp z).elim b d
 have ab:∀c u,H3 c=some u->c∉fB L->g c=some u:=λc u e n=>inC c u (n1 c u e) (n2 c u (J _ _ e)) n (b9 _ _ e);have sC:ah g H5:=by rw[eC];exact fY
 have sW:ah (wo H1 (fB L)) g:=λc u e=>by
  by_cases z:c∈fB L
  ·rw[dh z]at e;cases e
  ·exact ab c u (O _ _ (fY _ _ e)) z
 have toC:=dr.so.mono sW;have tgC:=dr.sg.mono sW;have c6:∀c∈aH j b1,g c=none:=λc r=>by rw[eC];exact dh (WQ _ r)
 have bK:∀c∈aH m b2,g c=none:=λc r=>by rw[eC];exact dh (Wx _ (WQ _ r))
 have hL:∀c∈fB L,g c=none:=λc r=>by rw[eC];exact dh (Wx _ (Wx _ r))
 clear eC;have bU:∀c u,c∈[j.st,j.mt,j.ss]->H5 c=some u->g c=some u:=λc u r e=>by
  obtain⟨v,I⟩:=V1.three c r;refine inC c u (λz=>?_) (n2 c v (fY _ _ I)) (λz=>?_) e
  ·rw[dh z]at I;cases I
  ·obtain⟨us,e3⟩:=P1 c z;have:=m1 _ _ e3;rw[n4 c r]at this;cases this
 have bI:∀c u,c∈[m.st,m.mt,m.ss]->H5 c=some u->g c=some u:=λc u r e=>by
  obtain⟨v,I⟩:=V2.three c r;refine inC c u (λz=>?_) (λz=>?_) (λz=>?_) e
  ·obtain⟨v',c8⟩:=V1.some5 c z;have:=m2 _ _ c8;rw[n5 c r]at this;cases this
  ·rw[dh z]at I;cases I
  ·obtain⟨us,e3⟩:=P1 c z;have:=m2 _ _ (J _ _ e3);rw[n5 c r]at this;cases this
 have v1:=(V1.grow bm).over (by rw[c9];exact tgC) (by rw[c7];exact toC) sC c6 bU;have v2:=V2.over (by rw[bZ];exact toC) (by rw[bL];exact tgC) sC bK bI;refine⟨g,j,m,b1,b2,pc,D,G,ts,L,Z,v1,v2,dr.pc.mono (O.trans b9),dr.nd,dr.fl,ln,dr.ll,dis,λc r=>?_,hL,λp6 pt pb a3 ay N1 N2 B aA H6 cd cf bW w1 w2=>?_⟩
 ·obtain⟨u,e⟩:∃u,H3 c=some u:=by
   rcases Wh.mp r with rfl|z
   ·exact⟨_,O _ _ dr.pc.1⟩
   ·obtain⟨us,e⟩:=P1 c z;exact⟨_,e⟩
  exact⟨n1 c u e,n2 c u (J _ _ e)⟩
 have s6:ah g H6:=w1.tw.sb;have nL:∀c,H1 c=none->c∉fB L:=λc e z=>by
  obtain⟨z',hz,rfl⟩:=Wr.mp z;rw[(dr.pc.2 z' hz).2]at e;cases e
 have plC:g pl=some (.lst ((am G ts).map V.int)):=ab _ _ g3.at_ (nL _ ((a4.trans bj).free g3.nw));have pkC:g pk=some (.lst (lp.map V.ref)):=ab _ _ (aG _ _ g2.at_) (nL _ (aV.free g2.nw));have lpC:Lt g lp (bF G 0 ts):=⟨ax.1,λi p l hp hl=>by
  have e:=aG _ _ (ax.2 i p l hp hl);refine ab _ _ e (λz=>?_);obtain⟨us,e3⟩:=P1 p z;rw[e]at e3;cases e3⟩
 have cm:B.length<=300:=by
  have:=w1.lt.1;have:=b3 ts.length;omega
 have c2:aA=[]:=by
  have:=w2.lt.1;rw[Wg,C3 D _ 0 λn f=>hinD n (gY f).1]at this;exact List.eq_nil_of_length_eq_zero this
 dsimp only [cK];refine jv (λσ' s=>ah H6 s/\σ'=[some (.ref a),some (.ref o),some (.ref og),some (.ref tx),some (.ref pc),some (.ref pk),some (.ref pl),some (.ref j.x),some (.ref m.x),some (.ref p6),none]) (λnx f=>?_) ?_
 ·dsimp only [ma,tD,mB,fH,mV,tC];refine mL ?_;refine aw (λy=>YC (show false=true from y) (by decide)) (λ_=>?_);refine⟨og,pl,G,am G ts,rfl,tgC.mono s6,.of (s6 _ _ plC),by omega,λn f=>⟨(dr.hin n (gY f).1).1,(gY f).2⟩,λq7 H7 cL s7 c3=>?_⟩;refine⟨o,pl,D,am G ts,rfl,toC.mono (s6.trans s7),.of (s7 _ _ (s6 _ _ plC)),by omega,λn f=>dr.hin n (gY f).1,λq8 H8 aX s8 cb=>?_⟩;refine⟨sz Z,λp9 H9 g9=>?_⟩;have a5:=s7.trans (s8.trans g9.sm);refine⟨d2 _ _,d2 _ _,ba.tup (.of (a5 _ _ cd)) (.cons (ba.lst (.of (a5 _ _ cf)) (bG.ints _)) (.cons (ba.lst (.of (a5 _ _ bW)) (bG.ints _)) .nil)),ba.tup g9.tup (.cons (ba.lst (.of (g9.sm _ _ (s8 _ _ c3))) (bG.ints _)) (.cons (ba.lst (.of (g9.sm _ _ cb)) (bG.ints _)) .nil)),El _ _,El _ _,?_⟩;refine aw (λy=>YC y (Ru _ _)) (λ_=>?_);exact f _ _ ⟨a5,Z⟩
 rintro σ7 H7 ⟨aB,rfl⟩;have Y:=w1.grow aB;refine⟨j.x,j.dx,_,Z,Y.tw.hx,Z,?_⟩;refine⟨g,j,a3,D,G,ts,N1,_,0,true,B,Z,Y,λq8 H8 g8=>?_⟩;have R:=Y.grow g8.sm;have be:=w2.grow (aB.trans g8.sm);have aX:q8∉aH j a3:=λz=>by
  obtain⟨v,I⟩:=Y.some5 q8 z;rw[g8.nw]at I;cases I
 have aU:q8∉aH m ay:=λz=>by
  obtain⟨v,I⟩:=(w2.grow aB).some5 q8 z;rw[g8.nw]at I;cases I
 have f8:g q8=none:=Y.tw.sb.free g8.nw;have b5:∀ {s:Hp},Lt s B (bF G 0 (ts.take ts.length))->Lt s B (bF G 0 ts):=λh=>by rwa [Wg]at h
 dsimp only [cK];refine jv (λσ' s=>ah H8 s/\σ'=[some (.ref a),some (.ref o),some (.ref og),some (.ref tx),some (.ref pc),some (.ref pk),some (.ref pl),some (.ref j.x),some (.ref m.x),some (.ref p6),some (.ref q8)]) (λnx f=>?_) ?_
 ·refine⟨_,_,.lst g8.at_,by with_unfolding_all rfl,?_⟩;refine aw (λy=>YC (show false=true from y) (by decide)) (λ_=>?_);have b6:ah g H8:=R.tw.sb;refine⟨_,_,ba.lst g8.lst (b5 R.lt).data,ba.lst (.of (b6 _ _ pkC)) (lpC.keep (dF.of b6)).data,qw _,qw _,?_⟩;refine aw (λy=>YC y (Rt _)) (λ_=>?_);refine⟨j.x,j.dx,_,Z,R.tw.hx,Z,?_⟩;refine⟨g,j,a3,D,G,ts,N1,_,0,true,B,Z,R,λq9 H9 g9=>?_⟩;refine⟨sz Z,λb8 bk M=>?_⟩;refine⟨_,_,ba.lst (.of (M.sm _ _ g9.at_)) (bG.ints []),ba.lst M.lst (bG.ints []),Ww [],Ww [],?_⟩;refine aw (λy=>YC y (lD [])) (λ_=>?_);have al:=be.grow (g9.sm.trans M.sm);refine⟨m.x,m.dx,_,Z,al.tw.hx,Z,?_⟩;refine⟨g,m,ay,G,D,am G ts,N2,_,0,true,aA,Z,al,λbN aW aZ=>?_⟩;have c4:aW bN=some (.lst []):=by have:=aZ.at_;rw[c2]at this;exact this
  refine⟨sz Z,λcS bq F=>?_⟩;refine⟨_,_,ba.lst (.of (F.sm _ _ c4)) (bG.ints []),ba.lst F.lst (bG.ints []),Ww [],Ww [],?_⟩;refine aw (λy=>YC y (lD [])) (λ_=>?_);exact f _ _ ⟨g9.sm.trans (M.sm.trans (aZ.sm.trans F.sm)),Z⟩
 rintro σ9 H9 ⟨bf,rfl⟩;refine⟨.inl ⟨rfl,_,.of (bf _ _ g8.at_)⟩,?_⟩;refine⟨sz Z,λb8 bk M=>?_⟩;have S:=bf.trans M.sm;have aD:=S _ _ g8.at_;refine⟨_,aD,cZ (by rw[V4];omega),?_⟩;generalize hW:HO.lst (B.map V.ref++[V.ref b8])=W;have U:=(R.grow S).put (o:=W) aX f8 aD;have bs:=(be.grow S).put (o:=W) aU f8 aD;generalize upd bk q8 W=aW at *;refine⟨j.x,j.dx,_,Z,U.tw.hx,Z,?_⟩;refine⟨g,j,a3,D,G,ts,N1,_,0,true,B,Z,U,λcI bq F=>?_⟩;have an:=U.grow F.sm;have ar:ah g bq:=an.tw.sb;refine⟨_,_,ba.lst F.lst (b5 an.lt).data,ba.lst (.of (ar _ _ pkC)) (lpC.keep (dF.of ar)).data,qw _,qw _,?_⟩;refine aw (λ_=>?_) (λz=>YC (Ek _) z);have av:=bs.grow F.sm;refine⟨m.x,m.dx,_,Z,av.tw.hx,Z,?_⟩;refine⟨g,m,ay,G,D,am G ts,N2,_,0,true,aA,Z,av,λcD cE bP=>?_⟩;refine⟨sz Z,λcQ bX aY=>?_⟩;refine⟨_,_,ba.lst (.of (aY.sm _ _ bP.at_)) (bG.ints []),ba.lst aY.lst (bG.ints []),Ww [],Ww [],?_⟩;exact bM (k bX) Z
end
end My
namespace My
open PySem L2
theorem NO{Pm:List Value->Prop}(h:∀_:Unit,Pm []):∀us:List Value,us.length=0->Pm us
 | [],_=>h ()
theorem bx{Pm:List Value->Prop}(h:∀a,Pm [a]):∀us:List Value,us.length=1->Pm us
 | a::us,e=>NO (Pm:=λus=>Pm (a::us)) (λ_=>h a) us (Xg e)
theorem bj{Pm:List Value->Prop}(h:∀a b,Pm [a,b]):∀us:List Value,us.length=2->Pm us
 | a::us,e=>bx (Pm:=λus=>Pm (a::us)) (λb=>h a b) us (Xg e)
theorem bH{Pm:List Value->Prop}(h:∀a b c,Pm [a,b,c]):∀us:List Value,us.length=3->Pm us
 | a::us,e=>bj (Pm:=λus=>Pm (a::us)) (λb c=>h a b c) us (Xg e)
theorem C0{Pm:List Value->Prop}(h:∀a b d c,Pm [a,b,d,c]):∀us:List Value,us.length=4->Pm us
 | a::us,e=>bH (Pm:=λus=>Pm (a::us)) (λb d c=>h a b d c) us (Xg e)
theorem NN{Pm:List Value->Prop}(h:∀a f d c b,Pm [a,f,d,c,b]):∀us:List Value,us.length=5->Pm us
 | a::us,e=>C0 (Pm:=λus=>Pm (a::us)) (λf d c b=>h a f d c b) us (Xg e)
def VX{Pm:List Value->Prop}{ds:List Value}{ps:List Str}(h:∀x0 x1,Pm [x0,x1])(e:ps.length=2+ds.length:=by rfl):∀us:List Value,(us++ds).length=ps.length->Pm us:=λus hl=>by
 have hm:us.length=2:=(by rw[Wb,e]at hl;omega);exact bj h us hm
def VY{Pm:List Value->Prop}{ds:List Value}{ps:List Str}(h:∀x0 x1 x2,Pm [x0,x1,x2])(e:ps.length=3+ds.length:=by rfl):∀us:List Value,(us++ds).length=ps.length->Pm us:=λus hl=>by
 have hm:us.length=3:=(by rw[Wb,e]at hl;omega);exact bH h us hm
def VZ{Pm:List Value->Prop}{ds:List Value}{ps:List Str}(h:∀x0 x1 x2 x3,Pm [x0,x1,x2,x3])(e:ps.length=4+ds.length:=by rfl):∀us:List Value,(us++ds).length=ps.length->Pm us:=λus hl=>by
 have hm:us.length=4:=(by rw[Wb,e]at hl;omega);exact C0 h us hm
def V0{Pm:List Value->Prop}{ds:List Value}{ps:List Str}(h:∀x0 x1 x2 x3 x4,Pm [x0,x1,x2,x3,x4])(e:ps.length=5+ds.length:=by rfl):∀us:List Value,(us++ds).length=ps.length->Pm us:=λus hl=>by
 have hm:us.length=5:=(by rw[Wb,e]at hl;omega);exact NN h us hm
def V3{Pm:List Value->Prop}{ds:List Value}{ps:List Str}(h:∀x0,Pm [x0])(e:ps.length=1+ds.length:=by rfl):∀us:List Value,(us++ds).length=ps.length->Pm us:=λus hl=>by
 have hm:us.length=1:=(by rw[Wb,e]at hl;omega);exact bx h us hm
def txt_mk{w:World}{K:W.Frag}{h:Heap}{mg:Str->Option Value}(X:K.In h)(G:h.Ns mainGlobals mg)
 {ja ma a0 a1 fa pz a2 a3 a4 a5 a6 a7 a8 a9 Vg dh Yg mh Uh ph Ch eg ca fc wh Sh fd ga ze Nh ee ha vf Rc ia Hd Qf Od Sc Sd Uf wg fh Hh Oh Ob la sf qg Mf Mg fe Ie Hb je ch jh Lh nh th oh Ah Hc ea Kc gf Jc Gc Ig Vh ih Mc da ff Dg Me Gf If Ff xe Ud Ef ig Tf Dh vh Vd aa Kf wc ue ke wf Md Bf Bg ah hh gh Rf ba Dc Jf Xf me mc Lf uf Qh xh Wg eh Eh uh sh Xh Gh zh Rh Xg Ph Kh Th Jh Zg Mh Fh Wh bh Bh qh na Ih nb ob wa Ha pa qa za xa Fa Ia ua oa Rb Kb Na db bb Pa La Wb:Addr}{od0 an0 od1 an1 zu od2 an2 od3 an3 od4 an4 JZ an5 od6 an6 od7 uZ od8 dZ od9 RZ ro vk Km Kw hq Yr Xw Mx Yn zl Tp Yi pm qj rr Ms Tg Aw mn vr Fj Ru Tl Fw tw Rt Aj Pp Am Zo Jp Ll Vl zf Ii zx ov uw no Hj ri dp fk np tp bl Fp os Hi hv Jn Wv Nx Il Vu Sv Ce gk Ym zd sv wi rd Ax Wt ng tx Zt Vw dv fp uq Kl ys Js Tm dn ww Mk Mr jq ir Fe vo Gv Lc pr Cw Fd op Vm Hk gm pt Kq hg Ju Jx ls zq Ki Up lq en Ar ot Pg Hx Cj vc Rr xs Qg Zj Ro up vw pp ln Xi Qm Qq es Ye Sr Pw qm Ts pf fj Pv we El ts Ls Gk Et Ql Hw kv It Ok tl Zp Hg Bi oi Ec mx qp Td Qk gx Rk Kp hu Fl Vv bs Ix jr Vt Ci So Lx Ps Gt vt nr Ur am an Ol Tj ow Li Pr bo Tr Qo ol ul vs Gp Lj pn Xu Ek Qn wx tr Gw xw Jw cv Ji ck:Option Addr}{ZZ tY jk sl2 sl3 sl4 sl5 rZ sl7 bZ sl9 bw fn Rw Po ao bk Ep nw yd Mv Ul fw fm rx Rl Nv Ln bg Yh pj Dr su dk Lm hr gj qr ew fq ud Pq jc Zk sg ci Ag Rq jl Vr Wp nx xr zt jp ae pl Nf sn Jd vj Mu Bl Se Gl Bq gv Yw qt Tc Yk Vc Ku Wd Bk il Hm Jt ni cg ix Tu nd Wm zc Do Bx cw nn Bw Wi ad Dt He Kj od Hp gr hn uo Cx si Cn Cm xn Ht tu Xq Qw sm Rx Sl Mm nk Oj Bv Gj gi wq De cf xb vb Bb Eb sb wb tb Ab Mb Nb Cq dc cc Zb Ub Xb mi:Array (Option Value)}{vZ kV0 dc0 pm0 Uy ct0 oc1 gZ dc1 pm1 Py ct1 Nn oc2 kV2 sY pm2 cy ct2 CZ kV3 dc3 pm3 Lz ct3 oc4 QZ dc4 pm4 ty ct4 oc5 NZ dc5 pm5 zy ct5 oc6 kV6 dc6 aZ gz ct6 oc7 kV7 Zz pm7 oz zZ oc8 kV8 EY pm8 Fy ct8 oc9 kV9 dc9 pm9 Wz TY hi kp Ei lr Je wk vm ju Ww Uj qc Gu Uk jm zj kn Kd Xr Sq Sk Nu jx Rd pq hl av et iu Hf cu Wx um bm mv Ug om yv jo wu Jk vg Eu Vp Ev Tk ks zg Kn nf Us Dx zw fx dd Hl oq Nl Mo Vx Ng Hu yn aq sj Yp Cd nv Fn Px bn Fv Dd bq Jv km cr ur dg Wn Pj Bj ex zi sd lp iv Du tj qv de ti Dw ut ms wv Fg Eo Qe Lw cl Im Bt tg Au ux Nk ox Xo pc mj Ot fu Xp wn Pf Ai Pu Xk Qx dl uc Er lj Uu Cv qk ug uk Ir qs ar qq yc Iq mu Vn Ik Gr Ke Mq us Kr wp Zv Ae zs ru Rp cs Xj Gg Tq zp Dn Oq Ex Ue dq go qi hs Lt Ve ji Xc Hs Yq Nr An af Pl Gd rk Sx Bn Yv tc Ao hc Yu ht Yt Bp Rg jt Cc Xm eu Vi Wo Yd tn ej Wl sq Zw df Dv gu Rm kk js jd po Mp Xl Wq Zi Jg zo rs Um At pw Ac Zq Mn li Fo Cs xg Lq Uq hm Ds wj Zd Nm ek dw gl Tn pd tt md Fu jw Jr bt og Ml Te al On Qs Ui sc Lr pe Rv sx wm Mw mf sw Zu Lp Tt lo bd bi Gn wt As Un Yf vn hf ct Mt Zm fv Qc Uw ak Np Rn ho hd Yo Ss Jo vu bp Eg Nw hj Ut Pk Ou te Kt Ip vx pv Bs Nd Iu Xe Ct Zl Ew Tw Vf Ap Ed aj ui dr Gi Le qn Uc hx Om Em Dq Kg fi nu Wj Kk cp ve sr mp ss Fx No Qd Cl ep cj Kv Br vd lx Hr Ri qu vp Ad En Sg kq Ej cq Xt Be on jv hk fl el Lg dj Id Cr Iv vq Lk Og Nq Oe pu oo br Qu Pc zk ou pk Iw Ak Xd Zh Bo aw Vq Gs Nc eo vl ii Dm lw ed Lo Vj gs Ox uj qe mt Xs iw Oo rv se dt Bc ql Is To Xn lc Jl nc ev Dp nt Oi xd Rj cd px Zs Ys tm jg Pm Si Qi ml Sn Wc Fs hp au Fm vi Cf St nq ws Ti wl Re Tv so Ow Ft Ks Ic Ni Ck mo uv Op Yc er ap Bm sl Ux Pd Qp ij Vs sp Qj bf jn Bu Nj it Go Fc ik Ij jj wr sk ie tk mq Sj Qt Lv ce gq Sw mm Cu di td Jj Cp Ko Sp Jq Ee Ws ns Dl kw Nt be lk Al Zr Zn Dj fg fo Aq cx cm Fq jf Qr nj Hq qw Sm gg Hn Pt gw ft ok he Av tq zn Vo nm qd Mi fr Mj gn Yl oe Uv Jm Gx wo Wr oc Lu Xv im qo gp kd Fi Fk co bv ei ld Uo:Value}{xv Oc qf Af tf gd Sf Zc We Of Df ec Cg Zf lf Ge pg wd Bd Ld ep2 Ze ef Db Lb Jb Ib Gb Cb ub yb Fb zb Gq un Sb Pb bc Vb Qb ai:Nat}{qb Za Va cb Ua Wa Ra ab jb Sa Ma fb Xa Ka Qa eb Ya kb ib u0 u1 u3 u4 u5 u6 u7 u8 u9 Ez Hz Yx Pz Gy Jz Sy:Tok}{tz Pe:Array DictEntry}{rb pb:Int}{mb lb Ca Aa Da ta va Ga sa Ea Ba ra Tb Ja hb Oa Ta gb Yb:Array Value}
 (hZ:W.nsIn K mainGlobals "NoSign"=some (some (.ref ja)))
 (lK:W.nsIn K mainGlobals "TongueError"=some (some (.ref ma)))
 (PB:W.findIn K (.ref ja) "__getattribute__"=some (some (.builtin "BaseException.__getattribute__")))
 (HB:W.findIn K (.ref ja) "__getattr__"=some none)
 (QB:W.mroIn K ja (.type "BaseException")=some true)
 (VB:W.mroIn K ja (.type "object")=some true)
 (RB:W.hasDictIn K ja=true)
 (YB:W.findIn K (.ref ja) "__class__"=some (some (.builtin "object.__class__")))
 (NB:W.specialIn K (.builtin "object.__class__") "__get__"=some (some (.builtin "getset_descriptor.__get__")))
 (JB:W.takesIn K (.builtin "object.__class__")=some true)
 (fB:W.exmOne K (.ref ja) (.ref ja)=some true)
 (gy:dm K ja ic "ValueError.__new__"=true)
 (lS:W.findIn K (.ref ja) "__init__"=some (some (.ref a0)))
 (lR:W.isFn K (.ref a0)=true)
 (lQ:W.keepIn K (.ref ja)=true)
 (lP:W.findIn K (.ref ja) "__setattr__"=some (some (.builtin "object.__setattr__")))
 (zB:W.findIn K (.ref ja) "at"=some none)
 (gB:W.findIn K (.ref ja) "sign"=some none)
 (iU:W.specialIn K (.ref ma) "__getattribute__"=some (some (.builtin "type.__getattribute__")))
 (FJ:W.readsIn K ma (.type "type")=true)
 (XJ:W.findCls K (.ref ma) (.type "type") "__init__"=some (.val (.builtin "ValueError.__init__")))
 (mX:K.lookup a0=some ⟨vZ,od0,.func (W.fnOf "__init__" "NoSign.__init__" (aB lz) (ax lz) (ag lz) .none kV0 dc0 pm0 an0 Uy ct0),ZZ⟩)
 (aY:W.codeIn K Uy "NoSign.__init__"=true)
 (mY:W.keepIn K (.ref a0)=true)
 (yA:W.nsIn K mainGlobals "Reader"=some (some (.ref fa)))
 (qO:W.plainGet K fa Str.empty=true)
 (rC:W.hasDictIn K fa=true)
 (re:W.plainOver K fa=true)
 (qD:W.findIn K (.ref fa) "__setattr__"=some (some (.builtin "object.__setattr__")))
 (x6:W.makesIn K fa=true)
 (yk:W.keepIn K (.ref fa)=true)
 (xp:W.findIn K (.ref fa) "__class__"=some (some (.builtin "object.__class__")))
 (w6:W.specialIn K (.builtin "object.__class__") "__get__"=some (some (.builtin "getset_descriptor.__get__")))
 (wQ:W.takesIn K (.builtin "object.__class__")=some true)
 (cC:W.mroIn K fa (.type "object")=some true)
 (xR:W.findIn K (.ref fa) "at_page"=some none)
 (xQ:W.findIn K (.ref fa) "begun"=some none)
 (xP:W.findIn K (.ref fa) "ended"=some none)
 (xO:W.findIn K (.ref fa) "many"=some none)
 (xN:W.findIn K (.ref fa) "met"=some none)
 (xM:W.findIn K (.ref fa) "place"=some none)
 (xL:W.findIn K (.ref fa) "tongue"=some none)
 (RX:W.findIn K (.ref fa) "__init__"=some (some (.ref a1)))
 (tX:W.isFn K (.ref a1)=true)
 (ZW:K.lookup a1=some ⟨oc1,od1,.func (W.fnOf "__init__" "Reader.__init__" (aB kU) (ax kU) (ag kU) (.ref pz) gZ dc1 pm1 an1 Py ct1),tY⟩)
 (BX:W.codeIn K Py "Reader.__init__"=true)
 (WW:W.keepIn K (.ref a1)=true)
 (UW:K.lookup pz=some ⟨Nn,zu,.seq ([.int 0 qb]:List Value).toArray xv,jk⟩)
 (lX:W.findIn K (.ref fa) "faults"=some (some (.ref a2)))
 (BW:W.isFn K (.ref a2)=true)
 (oX:K.lookup a2=some ⟨oc2,od2,.func (W.fnOf "faults" "Reader.faults" (aB kX) (ax kX) (ag kX) .none kV2 sY pm2 an2 cy ct2),sl2⟩)
 (eY:W.codeIn K cy "Reader.faults"=true)
 (vW:W.keepIn K (.ref a2)=true)
 (yX:W.findIn K (.ref fa) "feed"=some (some (.ref a3)))
 (QW:W.isFn K (.ref a3)=true)
 (iY:K.lookup a3=some ⟨CZ,od3,.func (W.fnOf "feed" "Reader.feed" (aB kW) (ax kW) (ag kW) .none kV3 dc3 pm3 an3 Lz ct3),sl3⟩)
 (ZX:W.codeIn K Lz "Reader.feed"=true)
 (yW:W.keepIn K (.ref a3)=true)
 (JX:W.findIn K (.ref fa) "end"=some (some (.ref a4)))
 (JW:W.isFn K (.ref a4)=true)
 (lY:K.lookup a4=some ⟨oc4,od4,.func (W.fnOf "end" "Reader.end" (aB kY) (ax kY) (ag kY) .none QZ dc4 pm4 an4 ty ct4),sl4⟩)
 (HX:W.codeIn K ty "Reader.end"=true)
 (sW:W.keepIn K (.ref a4)=true)
 (pX:W.findIn K (.ref fa) "take"=some (some (.ref a5)))
 (DW:W.isFn K (.ref a5)=true)
 (fX:K.lookup a5=some ⟨oc5,JZ,.func (W.fnOf "take" "Reader.take" (aB kQ) (ax kQ) (ag kQ) .none NZ dc5 pm5 an5 zy ct5),sl5⟩)
 (GX:W.codeIn K zy "Reader.take"=true)
 (uW:W.keepIn K (.ref a5)=true)
 (rY:W.findIn K (.ref fa) "look_at_begun"=some (some (.ref a6)))
 (CW:W.isFn K (.ref a6)=true)
 (aX:K.lookup a6=some ⟨oc6,od6,.func (W.fnOf "look_at_begun" "Reader.look_at_begun" (aB kT) (ax kT) (ag kT) .none kV6 dc6 aZ an6 gz ct6),rZ⟩)
 (DX:W.codeIn K gz "Reader.look_at_begun"=true)
 (rW:W.keepIn K (.ref a6)=true)
 (XX:W.findIn K (.ref fa) "meet_none"=some (some (.ref a7)))
 (IW:W.isFn K (.ref a7)=true)
 (cX:K.lookup a7=some ⟨oc7,od7,.func (W.fnOf "meet_none" "Reader.meet_none" (aB kR) (ax kR) (ag kR) .none kV7 Zz pm7 uZ oz zZ),sl7⟩)
 (gY:W.codeIn K oz "Reader.meet_none"=true)
 (tW:W.keepIn K (.ref a7)=true)
 (nY:W.findIn K (.ref fa) "meet"=some (some (.ref a8)))
 (SX:W.isFn K (.ref a8)=true)
 (pY:K.lookup a8=some ⟨oc8,od8,.func (W.fnOf "meet" "Reader.meet" (aB kS) (ax kS) (ag kS) .none kV8 EY pm8 dZ Fy ct8),bZ⟩)
 (CX:W.codeIn K Fy "Reader.meet"=true)
 (FW:W.keepIn K (.ref a8)=true)
 (uX:W.findIn K (.ref fa) "note"=some (some (.ref a9)))
 (HW:W.isFn K (.ref a9)=true)
 (TX:K.lookup a9=some ⟨oc9,od9,.func (W.fnOf "note" "Reader.note" (aB mr) (ax mr) (ag mr) .none kV9 dc9 pm9 RZ Wz TY),sl9⟩)
 (dY:W.codeIn K Wz "Reader.note"=true)
 (zW:W.keepIn K (.ref a9)=true)
 (DK:W.nsIn K mainGlobals "is_number"=some (some (.ref Vg)))
 (tQ:K.lookup Vg=some ⟨hi,ro,.func (W.fnOf "is_number" "is_number" (aB j0) (ax j0) (ag j0) .none kp Ei lr vk Je wk),bw⟩)
 (bQ:W.codeIn K Je "is_number"=true)
 (pJ:W.keepIn K (.ref Vg)=true)
 (yV:W.nsIn K mainGlobals "is_byte"=some (some (.ref dh)))
 (rH:K.lookup dh=some ⟨vm,Km,.func (W.fnOf "is_byte" "is_byte" (aB j3) (ax j3) (ag j3) .none ju Ww Uj Kw qc Gu),fn⟩)
 (XQ:W.codeIn K qc "is_byte"=true)
 (HH:W.keepIn K (.ref dh)=true)
 (MT:W.nsIn K mainGlobals "is_head"=some (some (.ref Yg)))
 (gW:K.lookup Yg=some ⟨Uk,hq,.func (W.fnOf "is_head" "is_head" (aB j1) (ax j1) (ag j1) .none jm zj kn Yr Kd Xr),Rw⟩)
 (iI:W.codeIn K Kd "is_head"=true)
 (zJ:W.keepIn K (.ref Yg)=true)
 (nQ:W.nsIn K mainGlobals "is_tail"=some (some (.ref mh)))
 (CV:K.lookup mh=some ⟨Sq,Xw,.func (W.fnOf "is_tail" "is_tail" (aB jX) (ax jX) (ag jX) .none Sk Nu jx Mx Rd pq),Po⟩)
 (zQ:W.codeIn K Rd "is_tail"=true)
 (rQ:W.keepIn K (.ref mh)=true)
 (JT:W.nsIn K mainGlobals "is_seen_byte"=some (some (.ref Uh)))
 (dR:K.lookup Uh=some ⟨hl,Yn,.func (W.fnOf "is_seen_byte" "is_seen_byte" (aB jZ) (ax jZ) (ag jZ) .none av et iu zl Hf cu),ao⟩)
 (ZS:W.codeIn K Hf "is_seen_byte"=true)
 (CK:W.keepIn K (.ref Uh)=true)
 (pU:W.nsIn K mainGlobals "is_sign"=some (some (.ref ph)))
 (gO:K.lookup ph=some ⟨Wx,Tp,.func (W.fnOf "is_sign" "is_sign" (aB jY) (ax jY) (ag jY) .none um bm mv Yi Ug om),bk⟩)
 (VV:W.codeIn K Ug "is_sign"=true)
 (QJ:W.keepIn K (.ref ph)=true)
 (lW:W.nsIn K mainGlobals "is_row"=some (some (.ref Ch)))
 (IK:K.lookup Ch=some ⟨yv,pm,.func (W.fnOf "is_row" "is_row" (aB iQ) (ax iQ) (ag iQ) .none jo wu Jk qj vg Eu),Ep⟩)
 (yN:W.codeIn K vg "is_row"=true)
 (lN:W.keepIn K (.ref Ch)=true)
 (yD:W.nsIn K mainGlobals "GoingReader"=some (some (.ref ca)))
 (qR:W.plainGet K ca Str.empty=true)
 (rF:W.hasDictIn K ca=true)
 (rh:W.plainOver K ca=true)
 (qH:W.findIn K (.ref ca) "__setattr__"=some (some (.builtin "object.__setattr__")))
 (ya:W.makesIn K ca=true)
 (yo:W.keepIn K (.ref ca)=true)
 (xu:W.findIn K (.ref ca) "__class__"=some (some (.builtin "object.__class__")))
 (xf:W.specialIn K (.builtin "object.__class__") "__get__"=some (some (.builtin "getset_descriptor.__get__")))
 (wT:W.takesIn K (.builtin "object.__class__")=some true)
 (rB:W.mroIn K ca (.type "object")=some true)
 (xU:W.findIn K (.ref ca) "begun"=some none)
 (xT:W.findIn K (.ref ca) "way"=some none)
 (rK:W.findIn K (.ref ca) "__init__"=some (some (.ref eg)))
 (aJ:W.isFn K (.ref eg)=true)
 (cT:K.lookup eg=some ⟨Vp,rr,.func (W.fnOf "__init__" "GoingReader.__init__" (aB lC) (ax lC) (ag lC) (.ref fc) Ev Tk ks Ms zg Kn),nw⟩)
 (RQ:W.codeIn K zg "GoingReader.__init__"=true)
 (vR:W.keepIn K (.ref eg)=true)
 (UG:K.lookup fc=some ⟨nf,Tg,.seq ([.int 0 Za]:List Value).toArray Oc,yd⟩)
 (GQ:W.nsIn K mainGlobals "write_from"=some (some (.ref wh)))
 (VN:K.lookup wh=some ⟨Us,Aw,.func (W.fnOf "write_from" "write_from" (aB jN) (ax jN) (ag jN) .none Dx zw fx mn dd Hl),Mv⟩)
 (CQ:W.codeIn K dd "write_from"=true)
 (NT:W.keepIn K (.ref wh)=true)
 (aU:W.nsIn K mainGlobals "write"=some (some (.ref Sh)))
 (nT:K.lookup Sh=some ⟨oq,vr,.func (W.fnOf "write" "write" (aB jO) (ax jO) (ag jO) .none Nl Mo Vx Fj Ng Hu),Ul⟩)
 (bK:W.codeIn K Ng "write"=true)
 (rR:W.keepIn K (.ref Sh)=true)
 (yz:W.nsIn K mainGlobals "SeenSpeller"=some (some (.ref ga)))
 (qN:W.plainGet K ga Str.empty=true)
 (rA:W.hasDictIn K ga=true)
 (rc:W.plainOver K ga=true)
 (qC:W.findIn K (.ref ga) "__setattr__"=some (some (.builtin "object.__setattr__")))
 (x5:W.makesIn K ga=true)
 (yj:W.keepIn K (.ref ga)=true)
 (xo:W.findIn K (.ref ga) "__class__"=some (some (.builtin "object.__class__")))
 (w5:W.specialIn K (.builtin "object.__class__") "__get__"=some (some (.builtin "getset_descriptor.__get__")))
 (wP:W.takesIn K (.builtin "object.__class__")=some true)
 (tB:W.mroIn K ga (.type "object")=some true)
 (xK:W.findIn K (.ref ga) "tongue"=some none)
 (VK:W.findIn K (.ref ga) "__init__"=some (some (.ref fd)))
 (rT:W.isFn K (.ref fd)=true)
 (vM:K.lookup fd=some ⟨yn,Ru,.func (W.fnOf "__init__" "SeenSpeller.__init__" (aB kP) (ax kP) (ag kP) .none aq sj Yp Tl Cd nv),fw⟩)
 (YK:W.codeIn K Cd "SeenSpeller.__init__"=true)
 (mH:W.keepIn K (.ref fd)=true)
 (uN:W.findIn K (.ref ga) "spell"=some (some (.ref ze)))
 (ZV:W.isFn K (.ref ze)=true)
 (cI:K.lookup ze=some ⟨Fn,Fw,.func (W.fnOf "spell" "SeenSpeller.spell" (aB kO) (ax kO) (ag kO) .none Px bn Fv tw Dd bq),fm⟩)
 (JN:W.codeIn K Dd "SeenSpeller.spell"=true)
 (QF:W.keepIn K (.ref ze)=true)
 (XK:K.lookup Nh=some ⟨Jv,Rt,.func (W.fnOf "__init__" "Writer.__init__" (aB ka) (ax ka) (ag ka) .none km cr ur Aj dg Wn),rx⟩)
 (FN:W.codeIn K dg "Writer.__init__"=true)
 (WN:W.keepIn K (.ref Nh)=true)
 (yy:W.nsIn K mainGlobals "SeenWriter"=some (some (.ref ha)))
 (qM:W.plainGet K ha Str.empty=true)
 (rq:W.hasDictIn K ha=true)
 (qZ:W.plainOver K ha=true)
 (qB:W.findIn K (.ref ha) "__setattr__"=some (some (.builtin "object.__setattr__")))
 (xZ:W.makesIn K ha=true)
 (yi:W.keepIn K (.ref ha)=true)
 (xm:W.findIn K (.ref ha) "__class__"=some (some (.builtin "object.__class__")))
 (wZ:W.specialIn K (.builtin "object.__class__") "__get__"=some (some (.builtin "getset_descriptor.__get__")))
 (wO:W.takesIn K (.builtin "object.__class__")=some true)
 (uB:W.mroIn K ha (.type "object")=some true)
 (xJ:W.findIn K (.ref ha) "at_page"=some none)
 (xI:W.findIn K (.ref ha) "tongue"=some none)
 (fL:W.findIn K (.ref ha) "__init__"=some (some (.ref ee)))
 (zR:W.isFn K (.ref ee)=true)
 (cL:K.lookup ee=some ⟨Pj,Pp,.func (W.fnOf "__init__" "SeenWriter.__init__" (aB kN) (ax kN) (ag kN) .none Bj ex zi Am sd lp),Rl⟩)
 (uQ:W.codeIn K sd "SeenWriter.__init__"=true)
 (tO:W.keepIn K (.ref ee)=true)
 (rP:W.findIn K (.ref ha) "feed"=some (some (.ref vf)))
 (sV:W.isFn K (.ref vf)=true)
 (zM:K.lookup vf=some ⟨iv,Zo,.func (W.fnOf "feed" "Writer.feed" (aB kc) (ax kc) (ag kc) .none Du tj qv Jp de ti),Nv⟩)
 (rU:W.codeIn K de "Writer.feed"=true)
 (nF:W.keepIn K (.ref vf)=true)
 (yt:W.nsIn K mainGlobals "Turner"=some (some (.ref ia)))
 (qI:W.plainGet K ia Str.empty=true)
 (rj:W.hasDictIn K ia=true)
 (qV:W.plainOver K ia=true)
 (qx:W.findIn K (.ref ia) "__setattr__"=some (some (.builtin "object.__setattr__")))
 (xV:W.makesIn K ia=true)
 (ye:W.keepIn K (.ref ia)=true)
 (xi:W.findIn K (.ref ia) "__class__"=some (some (.builtin "object.__class__")))
 (wV:W.specialIn K (.builtin "object.__class__") "__get__"=some (some (.builtin "getset_descriptor.__get__")))
 (wK:W.takesIn K (.builtin "object.__class__")=some true)
 (aC:W.mroIn K ia (.type "object")=some true)
 (xB:W.findIn K (.ref ia) "lacking"=some none)
 (xA:W.findIn K (.ref ia) "many"=some none)
 (xz:W.findIn K (.ref ia) "reader"=some none)
 (xy:W.findIn K (.ref ia) "stead"=some none)
 (xx:W.findIn K (.ref ia) "writer"=some none)
 (pL:W.findIn K (.ref ia) "__init__"=some (some (.ref Rc)))
 (gH:W.isFn K (.ref Rc)=true)
 (bJ:K.lookup Rc=some ⟨Dw,Ll,.func (W.fnOf "__init__" "Turner.__init__" (aB ki) (ax ki) (ag ki) (.ref Hd) ut ms wv Vl Fg Eo),Ln⟩)
 (ZQ:W.codeIn K Fg "Turner.__init__"=true)
 (yH:W.keepIn K (.ref Rc)=true)
 (HN:K.lookup Hd=some ⟨Qe,zf,.seq ([.none,.none]:List Value).toArray qf,bg⟩)
 (iK:W.findIn K (.ref ia) "lacks"=some (some (.ref Qf)))
 (dK:W.isFn K (.ref Qf)=true)
 (aM:K.lookup Qf=some ⟨Lw,Ii,.func (W.fnOf "lacks" "Turner.lacks" (aB kh) (ax kh) (ag kh) .none cl Im Bt zx tg Au),Yh⟩)
 (dN:W.codeIn K tg "Turner.lacks"=true)
 (JF:W.keepIn K (.ref Qf)=true)
 (cP:W.findIn K (.ref ia) "faults"=some (some (.ref Od)))
 (GP:W.isFn K (.ref Od)=true)
 (BK:K.lookup Od=some ⟨ux,ov,.func (W.fnOf "faults" "Turner.faults" (aB ko) (ax ko) (ag ko) .none Nk ox Xo uw pc mj),pj⟩)
 (uG:W.codeIn K pc "Turner.faults"=true)
 (MF:W.keepIn K (.ref Od)=true)
 (BJ:W.findIn K (.ref ia) "feed"=some (some (.ref Sc)))
 (PP:W.isFn K (.ref Sc)=true)
 (oM:K.lookup Sc=some ⟨Ot,no,.func (W.fnOf "feed" "Turner.feed" (aB kj) (ax kj) (ag kj) .none fu Xp wn Hj Pf Ai),Dr⟩)
 (YJ:W.codeIn K Pf "Turner.feed"=true)
 (dG:W.keepIn K (.ref Sc)=true)
 (TV:W.findIn K (.ref ia) "end"=some (some (.ref Sd)))
 (QM:W.isFn K (.ref Sd)=true)
 (aH:K.lookup Sd=some ⟨Pu,ri,.func (W.fnOf "end" "Turner.end" (aB kr) (ax kr) (ag kr) .none Xk Qx dl dp uc Er),su⟩)
 (UJ:W.codeIn K uc "Turner.end"=true)
 (yF:W.keepIn K (.ref Sd)=true)
 (TP:W.findIn K (.ref ia) "turned"=some (some (.ref Uf)))
 (WT:W.isFn K (.ref Uf)=true)
 (wU:K.lookup Uf=some ⟨lj,fk,.func (W.fnOf "turned" "Turner.turned" (aB kg) (ax kg) (ag kg) .none Uu Cv qk np ug uk),dk⟩)
 (pG:W.codeIn K ug "Turner.turned"=true)
 (zF:W.keepIn K (.ref Uf)=true)
 (sI:W.findIn K (.ref ia) "turned_one"=some (some (.ref wg)))
 (uI:W.isFn K (.ref wg)=true)
 (gK:K.lookup wg=some ⟨Ir,tp,.func (W.fnOf "turned_one" "Turner.turned_one" (aB kf) (ax kf) (ag kf) .none qs ar qq bl yc Iq),Lm⟩)
 (aL:W.codeIn K yc "Turner.turned_one"=true)
 (oF:W.keepIn K (.ref wg)=true)
 (bR:W.nsIn K mainGlobals "check_room"=some (some (.ref fh)))
 (JH:K.lookup fh=some ⟨mu,Fp,.func (W.fnOf "check_room" "check_room" (aB j7) (ax j7) (ag j7) .none Vn Ik Gr os Ke Mq),hr⟩)
 (mW:W.codeIn K Ke "check_room"=true)
 (BR:W.keepIn K (.ref fh)=true)
 (dM:W.nsIn K mainGlobals "parted"=some (some (.ref Hh)))
 (RN:K.lookup Hh=some ⟨us,Hi,.func (W.fnOf "parted" "parted" (aB jT) (ax jT) (ag jT) .none Kr wp Zv hv Ae zs),gj⟩)
 (sO:W.codeIn K Ae "parted"=true)
 (tM:W.keepIn K (.ref Hh)=true)
 (oV:W.nsIn K mainGlobals "together"=some (some (.ref Oh)))
 (yR:K.lookup Oh=some ⟨ru,Jn,.func (W.fnOf "together" "together" (aB jQ) (ax jQ) (ag jQ) .none Rp cs Xj Wv Gg Tq),qr⟩)
 (WQ:W.codeIn K Gg "together"=true)
 (UV:W.keepIn K (.ref Oh)=true)
 (yu:W.nsIn K mainGlobals "Tongue"=some (some (.ref la)))
 (qJ:W.plainGet K la Str.empty=true)
 (rm:W.hasDictIn K la=true)
 (qW:W.plainOver K la=true)
 (qy:W.findIn K (.ref la) "__setattr__"=some (some (.builtin "object.__setattr__")))
 (xW:W.makesIn K la=true)
 (yf:W.keepIn K (.ref la)=true)
 (yp:W.findIn K (.ref la) "__init__"=some (some (.builtin "object.__init__")))
 (xj:W.findIn K (.ref la) "__class__"=some (some (.builtin "object.__class__")))
 (wW:W.specialIn K (.builtin "object.__class__") "__get__"=some (some (.builtin "getset_descriptor.__get__")))
 (wL:W.takesIn K (.builtin "object.__class__")=some true)
 (bC:W.mroIn K la (.type "object")=some true)
 (oH:W.findIn K (.ref la) "unit"=some (some (.ref Ob)))
 (lE:W.isFn K (.ref Ob)=true)
 (oU:K.lookup Ob=some ⟨zp,Nx,.func (W.fnOf "unit" "Tongue.unit" (aB ku) (ax ku) (ag ku) .none Dn Oq Ex Il Ue dq),ew⟩)
 (qT:W.codeIn K Ue "Tongue.unit"=true)
 (vD:W.keepIn K (.ref Ob)=true)
 (vG:W.findIn K (.ref la) "spell"=some (some (.ref sf)))
 (aV:W.isFn K (.ref sf)=true)
 (vN:K.lookup sf=some ⟨go,Vu,.func (W.fnOf "spell" "Tongue.spell" (aB kx) (ax kx) (ag kx) (.ref qg) qi hs Lt Sv Ve ji),fq⟩)
 (oJ:W.codeIn K Ve "Tongue.spell"=true)
 (fG:W.keepIn K (.ref sf)=true)
 (iH:K.lookup qg=some ⟨Xc,Ce,.seq ([.int 0 Va]:List Value).toArray Af,ud⟩)
 (BP:W.findIn K (.ref la) "whole"=some (some (.ref Mf)))
 (SQ:W.isFn K (.ref Mf)=true)
 (oO:K.lookup Mf=some ⟨Hs,gk,.func (W.fnOf "whole" "Tongue.whole" (aB kt) (ax kt) (ag kt) (.ref Mg) Yq Nr An Ym af Pl),Pq⟩)
 (VL:W.codeIn K af "Tongue.whole"=true)
 (TF:W.keepIn K (.ref Mf)=true)
 (sU:K.lookup Mg=some ⟨Gd,zd,.seq ([.int 0 cb]:List Value).toArray tf,jc⟩)
 (lO:W.findIn K (.ref la) "fill"=some (some (.ref fe)))
 (fH:W.isFn K (.ref fe)=true)
 (gU:K.lookup fe=some ⟨rk,sv,.func (W.fnOf "fill" "Tongue.fill" (aB kz) (ax kz) (ag kz) (.ref Ie) Sx Bn Yv wi tc Ao),Zk⟩)
 (nW:W.codeIn K tc "Tongue.fill"=true)
 (GF:W.keepIn K (.ref fe)=true)
 (MJ:K.lookup Ie=some ⟨hc,rd,.seq ([.int 0 Ua]:List Value).toArray gd,sg⟩)
 (zL:W.findIn K (.ref la) "look"=some (some (.ref Hb)))
 (WD:W.isFn K (.ref Hb)=true)
 (GR:K.lookup Hb=some ⟨Yu,Ax,.func (W.fnOf "look" "Tongue.look" (aB ky) (ax ky) (ag ky) (.ref je) ht Yt Bp Wt Rg jt),ci⟩)
 (vL:W.codeIn K Rg "Tongue.look"=true)
 (pD:W.keepIn K (.ref Hb)=true)
 (cU:K.lookup je=some ⟨Cc,ng,.seq ([.int 0 Wa]:List Value).toArray Sf,Ag⟩)
 (pH:W.nsIn K mainGlobals "length_of"=some (some (.ref ch)))
 (YG:K.lookup ch=some ⟨Xm,tx,.func (W.fnOf "length_of" "length_of" (aB jV) (ax jV) (ag jV) .none eu Vi Wo Zt Yd tn),Rq⟩)
 (YQ:W.codeIn K Yd "length_of"=true)
 (dW:W.keepIn K (.ref ch)=true)
 (vU:W.nsIn K mainGlobals "lead_row"=some (some (.ref jh)))
 (JG:K.lookup jh=some ⟨ej,Vw,.func (W.fnOf "lead_row" "lead_row" (aB iP) (ax iP) (ag iP) .none Wl sq Zw dv df Dv),jl⟩)
 (aW:W.codeIn K df "lead_row"=true)
 (gP:W.keepIn K (.ref jh)=true)
 (fP:W.nsIn K mainGlobals "length_behind"=some (some (.ref Lh)))
 (dI:K.lookup Lh=some ⟨gu,fp,.func (W.fnOf "length_behind" "length_behind" (aB jW) (ax jW) (ag jW) .none Rm kk js uq jd po),Vr⟩)
 (mK:W.codeIn K jd "length_behind"=true)
 (rM:W.keepIn K (.ref Lh)=true)
 (BV:W.nsIn K mainGlobals "bounds_behind"=some (some (.ref nh)))
 (mG:K.lookup nh=some ⟨Mp,Kl,.func (W.fnOf "bounds_behind" "bounds_behind" (aB j8) (ax j8) (ag j8) .none Xl Wq Zi ys Jg zo),Wp⟩)
 (zG:W.codeIn K Jg "bounds_behind"=true)
 (RL:W.keepIn K (.ref nh)=true)
 (CP:W.nsIn K mainGlobals "fits_behind"=some (some (.ref th)))
 (PQ:K.lookup th=some ⟨rs,Js,.func (W.fnOf "fits_behind" "fits_behind" (aB j4) (ax j4) (ag j4) .none Um At pw Tm Ac Zq),nx⟩)
 (lV:W.codeIn K Ac "fits_behind"=true)
 (fQ:W.keepIn K (.ref th)=true)
 (tL:W.nsIn K mainGlobals "missing"=some (some (.ref oh)))
 (lL:K.lookup oh=some ⟨Mn,dn,.func (W.fnOf "missing" "missing" (aB jU) (ax jU) (ag jU) .none li Fo Cs ww xg Lq),xr⟩)
 (lU:W.codeIn K xg "missing"=true)
 (zU:W.keepIn K (.ref oh)=true)
 (ZR:W.nsIn K mainGlobals "carried"=some (some (.ref Ah)))
 (cQ:K.lookup Ah=some ⟨Uq,Mk,.func (W.fnOf "carried" "carried" (aB iR) (ax iR) (ag iR) .none hm Ds wj Mr Zd Nm),zt⟩)
 (NQ:W.codeIn K Zd "carried"=true)
 (iV:W.keepIn K (.ref Ah)=true)
 (yC:W.nsIn K mainGlobals "LeadTongue"=some (some (.ref ea)))
 (qQ:W.plainGet K ea Str.empty=true)
 (rE:W.hasDictIn K ea=true)
 (rg:W.plainOver K ea=true)
 (qG:W.findIn K (.ref ea) "__setattr__"=some (some (.builtin "object.__setattr__")))
 (x9:W.makesIn K ea=true)
 (ym:W.keepIn K (.ref ea)=true)
 (yq:W.findIn K (.ref ea) "__init__"=some (some (.builtin "object.__init__")))
 (xt:W.findIn K (.ref ea) "__class__"=some (some (.builtin "object.__class__")))
 (xc:W.specialIn K (.builtin "object.__class__") "__get__"=some (some (.builtin "getset_descriptor.__get__")))
 (wS:W.takesIn K (.builtin "object.__class__")=some true)
 (vB:W.mroIn K ea (.type "object")=some true)
 (IV:W.findIn K (.ref ea) "spell"=some (some (.ref Hc)))
 (cN:W.isFn K (.ref Hc)=true)
 (uL:K.lookup Hc=some ⟨ek,jq,.func (W.fnOf "spell" "LeadTongue.spell" (aB lB) (ax lB) (ag lB) (.ref Kc) dw gl Tn ir pd tt),jp⟩)
 (sJ:W.codeIn K pd "LeadTongue.spell"=true)
 (cF:W.keepIn K (.ref Hc)=true)
 (aO:K.lookup Kc=some ⟨md,Fe,.seq ([.int 0 Ra]:List Value).toArray Zc,ae⟩)
 (KR:W.findIn K (.ref ea) "whole"=some (some (.ref gf)))
 (RM:W.isFn K (.ref gf)=true)
 (aN:K.lookup gf=some ⟨Fu,vo,.func (W.fnOf "whole" "LeadTongue.whole" (aB lA) (ax lA) (ag lA) (.ref Jc) jw Jr bt Gv og Ml),pl⟩)
 (DP:W.codeIn K og "LeadTongue.whole"=true)
 (YF:W.keepIn K (.ref gf)=true)
 (dJ:K.lookup Jc=some ⟨Te,Lc,.seq ([.int 0 ab]:List Value).toArray We,Nf⟩)
 (PJ:W.findIn K (.ref ea) "fill"=some (some (.ref Gc)))
 (tU:W.isFn K (.ref Gc)=true)
 (yS:K.lookup Gc=some ⟨al,pr,.func (W.fnOf "fill" "LeadTongue.fill" (aB iT) (ax iT) (ag iT) (.ref Ig) On Qs Ui Cw sc Lr),sn⟩)
 (pO:W.codeIn K sc "LeadTongue.fill"=true)
 (ZF:W.keepIn K (.ref Gc)=true)
 (bW:K.lookup Ig=some ⟨pe,Fd,.seq ([.int 0 jb]:List Value).toArray Of,Jd⟩)
 (sG:W.nsIn K mainGlobals "units_of"=some (some (.ref Vh)))
 (JR:K.lookup Vh=some ⟨Rv,op,.func (W.fnOf "units_of" "units_of" (aB jP) (ax jP) (ag jP) .none sx wm Mw Vm mf sw),vj⟩)
 (lJ:W.codeIn K mf "units_of"=true)
 (YH:W.keepIn K (.ref Vh)=true)
 (aK:W.nsIn K mainGlobals "sign_of"=some (some (.ref ih)))
 (zP:K.lookup ih=some ⟨Zu,Hk,.func (W.fnOf "sign_of" "sign_of" (aB jR) (ax jR) (ag jR) .none Lp Tt lo gm bd bi),Mu⟩)
 (PN:W.codeIn K bd "sign_of"=true)
 (mQ:W.keepIn K (.ref ih)=true)
 (yB:W.nsIn K mainGlobals "PairTongue"=some (some (.ref da)))
 (qP:W.plainGet K da Str.empty=true)
 (rD:W.hasDictIn K da=true)
 (rf:W.plainOver K da=true)
 (qE:W.findIn K (.ref da) "__setattr__"=some (some (.builtin "object.__setattr__")))
 (x8:W.makesIn K da=true)
 (yl:W.keepIn K (.ref da)=true)
 (xq:W.findIn K (.ref da) "__class__"=some (some (.builtin "object.__class__")))
 (w9:W.specialIn K (.builtin "object.__class__") "__get__"=some (some (.builtin "getset_descriptor.__get__")))
 (wR:W.takesIn K (.builtin "object.__class__")=some true)
 (wB:W.mroIn K da (.type "object")=some true)
 (xS:W.findIn K (.ref da) "order"=some none)
 (zN:W.findIn K (.ref da) "__init__"=some (some (.ref Mc)))
 (iJ:W.isFn K (.ref Mc)=true)
 (bV:K.lookup Mc=some ⟨Gn,pt,.func (W.fnOf "__init__" "PairTongue.__init__" (aB lv) (ax lv) (ag lv) (.ref ff) wt As Un Kq Yf vn),Bl⟩)
 (DR:W.codeIn K Yf "PairTongue.__init__"=true)
 (dU:W.keepIn K (.ref Mc)=true)
 (SN:K.lookup ff=some ⟨hf,hg,.seq ([.str "high" Sa]:List Value).toArray Df,Se⟩)
 (zO:W.findIn K (.ref da) "unit"=some (some (.ref Dg)))
 (RJ:W.isFn K (.ref Dg)=true)
 (KJ:K.lookup Dg=some ⟨ct,Ju,.func (W.fnOf "unit" "PairTongue.unit" (aB lg) (ax lg) (ag lg) .none Mt Zm fv Jx Qc Uw),Gl⟩)
 (GJ:W.codeIn K Qc "PairTongue.unit"=true)
 (wF:W.keepIn K (.ref Dg)=true)
 (nH:W.findIn K (.ref da) "turned"=some (some (.ref Me)))
 (mV:W.isFn K (.ref Me)=true)
 (oW:K.lookup Me=some ⟨ak,ls,.func (W.fnOf "turned" "PairTongue.turned" (aB lh) (ax lh) (ag lh) .none Np Rn ho zq hd Yo),Bq⟩)
 (mL:W.codeIn K hd "PairTongue.turned"=true)
 (XF:W.keepIn K (.ref Me)=true)
 (oK:W.findIn K (.ref da) "row_of"=some (some (.ref Gf)))
 (XS:W.isFn K (.ref Gf)=true)
 (eN:K.lookup Gf=some ⟨Ss,Ki,.func (W.fnOf "row_of" "PairTongue.row_of" (aB lu) (ax lu) (ag lu) .none Jo vu bp Up Eg Nw),gv⟩)
 (gM:W.codeIn K Eg "PairTongue.row_of"=true)
 (gF:W.keepIn K (.ref Gf)=true)
 (pQ:W.findIn K (.ref da) "units_in"=some (some (.ref If)))
 (zT:W.isFn K (.ref If)=true)
 (CT:K.lookup If=some ⟨hj,lq,.func (W.fnOf "units_in" "PairTongue.units_in" (aB iS) (ax iS) (ag iS) .none Ut Pk Ou en te Kt),Yw⟩)
 (uJ:W.codeIn K te "PairTongue.units_in"=true)
 (dF:W.keepIn K (.ref If)=true)
 (QK:W.findIn K (.ref da) "spell"=some (some (.ref Ff)))
 (uP:W.isFn K (.ref Ff)=true)
 (nJ:K.lookup Ff=some ⟨Ip,Ar,.func (W.fnOf "spell" "PairTongue.spell" (aB lm) (ax lm) (ag lm) (.ref xe) vx pv Bs ot Nd Iu),qt⟩)
 (fJ:W.codeIn K Nd "PairTongue.spell"=true)
 (cG:W.keepIn K (.ref Ff)=true)
 (BL:K.lookup xe=some ⟨Xe,Pg,.seq ([.int 0 Ma]:List Value).toArray ec,Tc⟩)
 (JK:W.findIn K (.ref da) "whole"=some (some (.ref Ud)))
 (oN:W.isFn K (.ref Ud)=true)
 (yO:K.lookup Ud=some ⟨Ct,Hx,.func (W.fnOf "whole" "PairTongue.whole" (aB kZ) (ax kZ) (ag kZ) (.ref Ef) Zl Ew Tw Cj Vf Ap),Yk⟩)
 (NK:W.codeIn K Vf "PairTongue.whole"=true)
 (uF:W.keepIn K (.ref Ud)=true)
 (ZP:K.lookup Ef=some ⟨Ed,vc,.seq ([.int 0 fb]:List Value).toArray Cg,Vc⟩)
 (cM:W.findIn K (.ref da) "fill"=some (some (.ref ig)))
 (HR:W.isFn K (.ref ig)=true)
 (LR:K.lookup ig=some ⟨aj,Rr,.func (W.fnOf "fill" "PairTongue.fill" (aB ly) (ax ly) (ag ly) (.ref Tf) ui dr Gi xs Le qn),Ku⟩)
 (dH:W.codeIn K Le "PairTongue.fill"=true)
 (gG:W.keepIn K (.ref ig)=true)
 (vQ:K.lookup Tf=some ⟨Uc,Qg,.seq ([.int 0 Xa]:List Value).toArray Zf,Wd⟩)
 (uU:W.nsIn K mainGlobals "begins"=some (some (.ref Dh)))
 (gQ:K.lookup Dh=some ⟨hx,Zj,.func (W.fnOf "begins" "begins" (aB j9) (ax j9) (ag j9) .none Om Em Dq Ro Kg fi),Bk⟩)
 (XR:W.codeIn K Kg "begins"=true)
 (rG:W.keepIn K (.ref Dh)=true)
 (cW:W.nsIn K mainGlobals "places_in"=some (some (.ref vh)))
 (mJ:K.lookup vh=some ⟨nu,up,.func (W.fnOf "places_in" "places_in" (aB jS) (ax jS) (ag jS) .none Wj Kk cp vw ve sr),il⟩)
 (VJ:W.codeIn K ve "places_in"=true)
 (fM:W.keepIn K (.ref vh)=true)
 (yx:W.nsIn K mainGlobals "ShiftTongue"=some (some (.ref aa)))
 (qL:W.plainGet K aa Str.empty=true)
 (rp:W.hasDictIn K aa=true)
 (qY:W.plainOver K aa=true)
 (qA:W.findIn K (.ref aa) "__setattr__"=some (some (.builtin "object.__setattr__")))
 (xY:W.makesIn K aa=true)
 (yh:W.keepIn K (.ref aa)=true)
 (xl:W.findIn K (.ref aa) "__class__"=some (some (.builtin "object.__class__")))
 (wY:W.specialIn K (.builtin "object.__class__") "__get__"=some (some (.builtin "getset_descriptor.__get__")))
 (wN:W.takesIn K (.builtin "object.__class__")=some true)
 (pB:W.mroIn K aa (.type "object")=some true)
 (xH:W.findIn K (.ref aa) "lists"=some none)
 (xG:W.findIn K (.ref aa) "places"=some none)
 (xF:W.findIn K (.ref aa) "shifted"=some none)
 (ZJ:W.findIn K (.ref aa) "__init__"=some (some (.ref Vd)))
 (bI:W.isFn K (.ref Vd)=true)
 (rO:K.lookup Vd=some ⟨mp,pp,.func (W.fnOf "__init__" "ShiftTongue.__init__" (aB kL) (ax kL) (ag kL) .none ss Fx No ln Qd Cl),Hm⟩)
 (ZG:W.codeIn K Qd "ShiftTongue.__init__"=true)
 (bM:W.keepIn K (.ref Vd)=true)
 (wH:W.findIn K (.ref aa) "row_beyond"=some (some (.ref Kf)))
 (eV:W.isFn K (.ref Kf)=true)
 (tH:K.lookup Kf=some ⟨ep,Xi,.func (W.fnOf "row_beyond" "ShiftTongue.row_beyond" (aB kK) (ax kK) (ag kK) .none cj Kv Br Qm vd lx),Jt⟩)
 (JL:W.codeIn K vd "ShiftTongue.row_beyond"=true)
 (mF:W.keepIn K (.ref Kf)=true)
 (QQ:W.findIn K (.ref aa) "spell"=some (some (.ref wc)))
 (fO:W.isFn K (.ref wc)=true)
 (VG:K.lookup wc=some ⟨Hr,Qq,.func (W.fnOf "spell" "ShiftTongue.spell" (aB kI) (ax kI) (ag kI) (.ref ue) Ri qu vp es Ad En),ni⟩)
 (zV:W.codeIn K Ad "ShiftTongue.spell"=true)
 (eF:W.keepIn K (.ref wc)=true)
 (rN:K.lookup ue=some ⟨Sg,Ye,.seq ([.int 0 Ka]:List Value).toArray lf,cg⟩)
 (qU:W.findIn K (.ref aa) "sign_of"=some (some (.ref ke)))
 (sH:W.isFn K (.ref ke)=true)
 (vJ:K.lookup ke=some ⟨kq,Sr,.func (W.fnOf "sign_of" "ShiftTongue.sign_of" (aB kJ) (ax kJ) (ag kJ) .none Ej cq Xt Pw Be on),ix⟩)
 (NP:W.codeIn K Be "ShiftTongue.sign_of"=true)
 (lF:W.keepIn K (.ref ke)=true)
 (mO:W.findIn K (.ref aa) "whole"=some (some (.ref wf)))
 (rI:W.isFn K (.ref wf)=true)
 (tR:K.lookup wf=some ⟨jv,qm,.func (W.fnOf "whole" "ShiftTongue.whole" (aB kH) (ax kH) (ag kH) (.ref Md) hk fl el Ts Lg dj),Tu⟩)
 (DQ:W.codeIn K Lg "ShiftTongue.whole"=true)
 (bG:W.keepIn K (.ref wf)=true)
 (JP:K.lookup Md=some ⟨Id,pf,.seq ([.int 0 Qa]:List Value).toArray Ge,nd⟩)
 (pN:W.findIn K (.ref aa) "fill"=some (some (.ref Bf)))
 (tK:W.isFn K (.ref Bf)=true)
 (oG:K.lookup Bf=some ⟨Cr,fj,.func (W.fnOf "fill" "ShiftTongue.fill" (aB kM) (ax kM) (ag kM) (.ref Bg) Iv vq Lk Pv Og Nq),Wm⟩)
 (bN:W.codeIn K Og "ShiftTongue.fill"=true)
 (eG:W.keepIn K (.ref Bf)=true)
 (wI:K.lookup Bg=some ⟨Oe,we,.seq ([.int 0 eb]:List Value).toArray pg,zc⟩)
 (TQ:W.nsIn K mainGlobals "is_entry"=some (some (.ref ah)))
 (DG:K.lookup ah=some ⟨pu,El,.func (W.fnOf "is_entry" "is_entry" (aB j2) (ax j2) (ag j2) .none oo br Qu ts Pc zk),Do⟩)
 (RV:W.codeIn K Pc "is_entry"=true)
 (GK:W.keepIn K (.ref ah)=true)
 (XM:W.nsIn K mainGlobals "collide"=some (some (.ref hh)))
 (WK:K.lookup hh=some ⟨ou,Ls,.func (W.fnOf "collide" "collide" (aB j5) (ax j5) (ag j5) .none pk Iw Ak Gk Xd Zh),Bx⟩)
 (pM:W.codeIn K Xd "collide"=true)
 (dO:W.keepIn K (.ref hh)=true)
 (YM:W.nsIn K mainGlobals "check_table"=some (some (.ref gh)))
 (yK:K.lookup gh=some ⟨Bo,Et,.func (W.fnOf "check_table" "check_table" (aB j6) (ax j6) (ag j6) .none aw Vq Gs Ql Nc eo),cw⟩)
 (KN:W.codeIn K Nc "check_table"=true)
 (JQ:W.keepIn K (.ref gh)=true)
 (yw:W.nsIn K mainGlobals "TableTongue"=some (some (.ref ba)))
 (qK:W.plainGet K ba Str.empty=true)
 (rn:W.hasDictIn K ba=true)
 (qX:W.plainOver K ba=true)
 (qz:W.findIn K (.ref ba) "__setattr__"=some (some (.builtin "object.__setattr__")))
 (xX:W.makesIn K ba=true)
 (yg:W.keepIn K (.ref ba)=true)
 (xk:W.findIn K (.ref ba) "__class__"=some (some (.builtin "object.__class__")))
 (wX:W.specialIn K (.builtin "object.__class__") "__get__"=some (some (.builtin "getset_descriptor.__get__")))
 (wM:W.takesIn K (.builtin "object.__class__")=some true)
 (iB:W.mroIn K ba (.type "object")=some true)
 (xE:W.findIn K (.ref ba) "rest_by_row"=some none)
 (xD:W.findIn K (.ref ba) "row_by_sign"=some none)
 (xC:W.findIn K (.ref ba) "sign_by_row"=some none)
 (HS:W.findIn K (.ref ba) "__init__"=some (some (.ref Rf)))
 (vV:W.isFn K (.ref Rf)=true)
 (yQ:K.lookup Rf=some ⟨vl,Hw,.func (W.fnOf "__init__" "TableTongue.__init__" (aB kE) (ax kE) (ag kE) .none ii Dm lw kv ed Lo),nn⟩)
 (PT:W.codeIn K ed "TableTongue.__init__"=true)
 (fU:W.keepIn K (.ref Rf)=true)
 (CG:W.findIn K (.ref ba) "enter"=some (some (.ref Dc)))
 (VM:W.isFn K (.ref Dc)=true)
 (pI:K.lookup Dc=some ⟨Vj,It,.func (W.fnOf "enter" "TableTongue.enter" (aB kG) (ax kG) (ag kG) .none gs Ox uj Ok qe mt),Bw⟩)
 (UT:W.codeIn K qe "TableTongue.enter"=true)
 (qF:W.keepIn K (.ref Dc)=true)
 (KQ:W.findIn K (.ref ba) "spell"=some (some (.ref Jf)))
 (PL:W.isFn K (.ref Jf)=true)
 (VH:K.lookup Jf=some ⟨Xs,tl,.func (W.fnOf "spell" "TableTongue.spell" (aB kD) (ax kD) (ag kD) (.ref Xf) iw Oo rv Zp se dt),Wi⟩)
 (nG:W.codeIn K se "TableTongue.spell"=true)
 (HF:W.keepIn K (.ref Jf)=true)
 (LK:K.lookup Xf=some ⟨Bc,Hg,.seq ([.int 0 Ya]:List Value).toArray wd,ad⟩)
 (SM:W.findIn K (.ref ba) "whole"=some (some (.ref me)))
 (vP:W.isFn K (.ref me)=true)
 (vH:K.lookup me=some ⟨ql,Bi,.func (W.fnOf "whole" "TableTongue.whole" (aB kA) (ax kA) (ag kA) (.ref mc) Is To Xn oi lc Jl),Dt⟩)
 (uT:W.codeIn K lc "TableTongue.whole"=true)
 (aG:W.keepIn K (.ref me)=true)
 (eU:K.lookup mc=some ⟨nc,Ec,.seq ([.int 0 kb]:List Value).toArray Bd,He⟩)
 (pK:W.findIn K (.ref ba) "fill"=some (some (.ref Lf)))
 (PK:W.isFn K (.ref Lf)=true)
 (wG:K.lookup Lf=some ⟨ev,mx,.func (W.fnOf "fill" "TableTongue.fill" (aB kF) (ax kF) (ag kF) (.ref uf) Dp nt Oi qp xd Rj),Kj⟩)
 (DN:W.codeIn K xd "TableTongue.fill"=true)
 (WF:W.keepIn K (.ref Lf)=true)
 (cV:K.lookup uf=some ⟨cd,Td,.seq ([.int 0 ib]:List Value).toArray Ld,od⟩)
 (CN:W.nsIn K mainGlobals "_law_pick"=some (some (.ref Qh)))
 (yG:K.lookup Qh=some ⟨px,Qk,.func (W.fnOf "_law_pick" "_law_pick" (aB jE) (ax jE) (ag jE) .none Zs Ys tm gx jg Pm),Hp⟩)
 (cO:W.codeIn K jg "_law_pick"=true)
 (WL:W.keepIn K (.ref Qh)=true)
 (vK:W.nsIn K mainGlobals "_law_plain"=some (some (.ref xh)))
 (QS:K.lookup xh=some ⟨Si,Rk,.func (W.fnOf "_law_plain" "_law_plain" (aB jC) (ax jC) (ag jC) .none Qi ml Sn Kp Wc Fs),gr⟩)
 (bO:W.codeIn K Wc "_law_plain"=true)
 (fW:W.keepIn K (.ref xh)=true)
 (ZK:W.nsIn K mainGlobals "_law_sign"=some (some (.ref Wg)))
 (RP:K.lookup Wg=some ⟨hp,hu,.func (W.fnOf "_law_sign" "_law_sign" (aB jz) (ax jz) (ag jz) .none au Fm vi Fl Cf St),hn⟩)
 (ZL:W.codeIn K Cf "_law_sign"=true)
 (iW:W.keepIn K (.ref Wg)=true)
 (iG:W.nsIn K mainGlobals "_law_pool"=some (some (.ref eh)))
 (WR:K.lookup eh=some ⟨nq,Vv,.func (W.fnOf "_law_pool" "_law_pool" (aB jB) (ax jB) (ag jB) .none ws Ti wl bs Re Tv),uo⟩)
 (yM:W.codeIn K Re "_law_pool"=true)
 (RK:W.keepIn K (.ref eh)=true)
 (VP:W.nsIn K mainGlobals "_law_table"=some (some (.ref Eh)))
 (TG:K.lookup Eh=some ⟨so,Ix,.func (W.fnOf "_law_table" "_law_table" (aB iL) (ax iL) (ag iL) .none Ow Ft Ks jr Ic Ni),Cx⟩)
 (uR:W.codeIn K Ic "_law_table"=true)
 (fK:W.keepIn K (.ref Eh)=true)
 (tV:W.nsIn K mainGlobals "_law_tongue"=some (some (.ref uh)))
 (QT:K.lookup uh=some ⟨Ck,Vt,.func (W.fnOf "_law_tongue" "_law_tongue" (aB io) (ax io) (ag io) .none mo uv Op Ci Yc er),si⟩)
 (MP:W.codeIn K Yc "_law_tongue"=true)
 (SJ:W.keepIn K (.ref uh)=true)
 (gR:W.nsIn K mainGlobals "_law_has"=some (some (.ref sh)))
 (KH:K.lookup sh=some ⟨ap,So,.func (W.fnOf "_law_has" "_law_has" (aB jG) (ax jG) (ag jG) .none Bm sl Ux Lx Pd Qp),Cn⟩)
 (YT:W.codeIn K Pd "_law_has"=true)
 (lG:W.keepIn K (.ref sh)=true)
 (FP:W.nsIn K mainGlobals "_law_text"=some (some (.ref Xh)))
 (yP:K.lookup Xh=some ⟨ij,Ps,.func (W.fnOf "_law_text" "_law_text" (aB jy) (ax jy) (ag jy) .none Vs sp Qj Gt bf jn),Cm⟩)
 (LQ:W.codeIn K bf "_law_text"=true)
 (vI:W.keepIn K (.ref Xh)=true)
 (sS:W.nsIn K mainGlobals "_law_pieces"=some (some (.ref Gh)))
 (OJ:K.lookup Gh=some ⟨Bu,vt,.func (W.fnOf "_law_pieces" "_law_pieces" (aB jD) (ax jD) (ag jD) .none Nj it Go nr Fc ik),xn⟩)
 (oR:W.codeIn K Fc "_law_pieces"=true)
 (mU:W.keepIn K (.ref Gh)=true)
 (QV:W.nsIn K mainGlobals "_law_pot"=some (some (.ref zh)))
 (XH:K.lookup zh=some ⟨Ij,Ur,.func (W.fnOf "_law_pot" "_law_pot" (aB jA) (ax jA) (ag jA) .none jj wr sk am ie tk),Ht⟩)
 (nU:W.codeIn K ie "_law_pot"=true)
 (pP:W.keepIn K (.ref zh)=true)
 (HJ:W.nsIn K mainGlobals "_law_digit"=some (some (.ref Rh)))
 (lM:K.lookup Rh=some ⟨mq,an,.func (W.fnOf "_law_digit" "_law_digit" (aB jL) (ax jL) (ag jL) .none Sj Qt Lv Ol ce gq),tu⟩)
 (eH:W.codeIn K ce "_law_digit"=true)
 (uM:W.keepIn K (.ref Rh)=true)
 (nM:W.nsIn K mainGlobals "_law_digits"=some (some (.ref Xg)))
 (YL:K.lookup Xg=some ⟨Sw,Tj,.func (W.fnOf "_law_digits" "_law_digits" (aB iO) (ax iO) (ag iO) .none mm Cu di ow td Jj),Xq⟩)
 (RT:W.codeIn K td "_law_digits"=true)
 (uO:W.keepIn K (.ref Xg)=true)
 (bU:W.nsIn K mainGlobals "_law_free_lists"=some (some (.ref Ph)))
 (HQ:K.lookup Ph=some ⟨Cp,Li,.func (W.fnOf "_law_free_lists" "_law_free_lists" (aB jI) (ax jI) (ag jI) .none Ko Sp Jq Pr Ee Ws),Qw⟩)
 (bL:W.codeIn K Ee "_law_free_lists"=true)
 (QR:W.keepIn K (.ref Ph)=true)
 (eQ:W.nsIn K mainGlobals "_law_free_table"=some (some (.ref Kh)))
 (nO:K.lookup Kh=some ⟨ns,bo,.func (W.fnOf "_law_free_table" "_law_free_table" (aB gL) (ax gL) (ag gL) .none Dl kw Nt Tr be lk),sm⟩)
 (zK:W.codeIn K be "_law_free_table"=true)
 (uV:W.keepIn K (.ref Kh)=true)
 (MK:W.nsIn K mainGlobals "_law_any_sign"=some (some (.ref Th)))
 (ZM:K.lookup Th=some ⟨Al,Qo,.func (W.fnOf "_law_any_sign" "_law_any_sign" (aB jM) (ax jM) (ag jM) .none Zr Zn Dj ol fg fo),Rx⟩)
 (JM:W.codeIn K fg "_law_any_sign"=true)
 (mR:W.keepIn K (.ref Th)=true)
 (WP:W.nsIn K mainGlobals "_law_fits"=some (some (.ref Jh)))
 (QL:K.lookup Jh=some ⟨Aq,ul,.func (W.fnOf "_law_fits" "_law_fits" (aB jJ) (ax jJ) (ag jJ) .none cx cm Fq vs jf Qr),Sl⟩)
 (gV:W.codeIn K jf "_law_fits"=true)
 (QH:W.keepIn K (.ref Jh)=true)
 (FQ:W.nsIn K mainGlobals "_law_free_tongue"=some (some (.ref Zg)))
 (bT:K.lookup Zg=some ⟨nj,Gp,.func (W.fnOf "_law_free_tongue" "_law_free_tongue" (aB iN) (ax iN) (ag iN) .none Hq qw Sm Lj gg Hn),Mm⟩)
 (WM:W.codeIn K gg "_law_free_tongue"=true)
 (YS:W.keepIn K (.ref Zg)=true)
 (lH:W.nsIn K mainGlobals "_law_free_text"=some (some (.ref Mh)))
 (yU:K.lookup Mh=some ⟨Pt,pn,.func (W.fnOf "_law_free_text" "_law_free_text" (aB ip) (ax ip) (ag ip) .none gw ft ok Xu he Av),nk⟩)
 (aR:W.codeIn K he "_law_free_text"=true)
 (RG:W.keepIn K (.ref Mh)=true)
 (uH:W.nsIn K mainGlobals "_law_free_pieces"=some (some (.ref Fh)))
 (cJ:K.lookup Fh=some ⟨tq,Ek,.func (W.fnOf "_law_free_pieces" "_law_free_pieces" (aB jH) (ax jH) (ag jH) .none zn Vo nm Qn qd Mi),Oj⟩)
 (XN:W.codeIn K qd "_law_free_pieces"=true)
 (zH:W.keepIn K (.ref Fh)=true)
 (UL:W.nsIn K mainGlobals "_law_is_row"=some (some (.ref Wh)))
 (VR:K.lookup Wh=some ⟨fr,wx,.func (W.fnOf "_law_is_row" "_law_is_row" (aB iM) (ax iM) (ag iM) .none Mj gn Yl tr oe Uv),Bv⟩)
 (TJ:W.codeIn K oe "_law_is_row"=true)
 (QG:W.keepIn K (.ref Wh)=true)
 (wJ:W.nsIn K mainGlobals "_law_led"=some (some (.ref bh)))
 (MN:K.lookup bh=some ⟨Jm,Gw,.func (W.fnOf "_law_led" "_law_led" (aB jF) (ax jF) (ag jF) .none Gx wo Wr xw oc Lu),Gj⟩)
 (aQ:W.codeIn K oc "_law_led"=true)
 (JS:W.keepIn K (.ref bh)=true)
 (vO:W.nsIn K mainGlobals "_law_drawn"=some (some (.ref Bh)))
 (gJ:K.lookup Bh=some ⟨Xv,Jw,.func (W.fnOf "_law_drawn" "_law_drawn" (aB jK) (ax jK) (ag jK) .none im qo gp cv kd Fi),gi⟩)
 (CJ:W.codeIn K kd "_law_drawn"=true)
 (pW:W.keepIn K (.ref Bh)=true)
 (JV:W.nsIn K mainGlobals "law"=some (some (.ref qh)))
 (nP:K.lookup qh=some ⟨Fk,Ji,.func (W.fnOf "law" "law" (aB iq) (ax iq) (ag iq) .none co bv ei ck ld Uo),wq⟩)
 (eO:W.codeIn K ld "law"=true)
 (rJ:W.keepIn K (.ref qh)=true)
 (cA:W.findIn K (.ref ca) "faults"=some (some (.ref a2)))
 (pA:W.findIn K (.ref ca) "feed"=some (some (.ref a3)))
 (bB:W.findIn K (.ref ca) "end"=some (some (.ref a4)))
 (nA:W.findIn K (.ref ca) "take"=some (some (.ref a5)))
 (aA:W.findIn K (.ref ca) "look_at_begun"=some (some (.ref a6)))
 (bA:W.findIn K (.ref ca) "meet_none"=some (some (.ref a7)))
 (vA:W.findIn K (.ref ca) "note"=some (some (.ref a9)))
 (cB:W.findIn K (.ref ea) "unit"=some (some (.ref Ob)))
 (zA:W.findIn K (.ref ea) "look"=some (some (.ref Hb)))
 (dB:W.findIn K (.ref da) "look"=some (some (.ref Hb)))
 (oA:W.findIn K (.ref aa) "unit"=some (some (.ref Ob)))
 (uA:W.findIn K (.ref aa) "look"=some (some (.ref Hb)))
 (wA:W.findIn K (.ref ba) "unit"=some (some (.ref Ob)))
 (gA:W.findIn K (.ref ba) "look"=some (some (.ref Hb)))
 (yr:W.nsIn K mainGlobals "Writer"=some (some (.ref na)))
 (yI:W.specialIn K (.ref na) "__getattribute__"=some (some (.builtin "type.__getattribute__")))
 (yJ:W.readsIn K na (.type "type")=true)
 (yL:W.findCls K (.ref na) (.type "type") "__init__"=some (.val (.ref Nh)))
 (k0:W.nsIn K mainGlobals "BITS"=some (some (.int 6 u0)))
 (k1:W.nsIn K mainGlobals "BYTE_BITS"=some (some (.int 8 u1)))
 (k2:W.nsIn K mainGlobals "FILLS"=some (some (.ref Ih)))
 (WX:K.lookup Ih=some ⟨.type "dict",none,.dict tz ep2,#[]⟩)
 (cY:iA tz.toList=some [(rb,("high" : Str),nb),(pb,("low" : Str),ob)])
 (RW:(Ih == sysModules)=false)
 (yE:rb=hashStr w "high")
 (aF:pb=hashStr w "low")
 (sE:K.lookup nb=some ⟨.type "tuple",none,.seq mb Ze,De⟩)
 (oE:gc mb.toList=some [wa,Ha,pa,qa,za])
 (zE:Nat.ble mb.size 1000=true)
 (fC:K.lookup wa=some ⟨.type "tuple",none,.seq Ca Db,xb⟩)
 (YC:cH ([]:g0) Ca.toList=true)
 (iD:Nat.ble Ca.size 1000=true)
 (GC:K.lookup Ha=some ⟨.type "tuple",none,.seq Aa Lb,vb⟩)
 (nD:cH ([0]:g0) Aa.toList=true)
 (tC:Nat.ble Aa.size 1000=true)
 (ZC:K.lookup pa=some ⟨.type "tuple",none,.seq Da Jb,Bb⟩)
 (JC:cH ([0,0]:g0) Da.toList=true)
 (lD:Nat.ble Da.size 1000=true)
 (pC:K.lookup qa=some ⟨.type "tuple",none,.seq ta Ib,Eb⟩)
 (bD:cH ([220,0]:g0) ta.toList=true)
 (mD:Nat.ble ta.size 1000=true)
 (iC:K.lookup za=some ⟨.type "tuple",none,.seq va Gb,sb⟩)
 (wC:cH ([0,220,0]:g0) va.toList=true)
 (uC:Nat.ble va.size 1000=true)
 (bF:K.lookup ob=some ⟨.type "tuple",none,.seq lb ef,cf⟩)
 (uE:gc lb.toList=some [xa,Fa,Ia,ua,oa])
 (tE:Nat.ble lb.size 1000=true)
 (mC:K.lookup xa=some ⟨.type "tuple",none,.seq Ga Cb,wb⟩)
 (dC:cH ([]:g0) Ga.toList=true)
 (XC:Nat.ble Ga.size 1000=true)
 (cD:K.lookup Fa=some ⟨.type "tuple",none,.seq sa ub,tb⟩)
 (aD:cH ([0]:g0) sa.toList=true)
 (LC:Nat.ble sa.size 1000=true)
 (QC:K.lookup Ia=some ⟨.type "tuple",none,.seq Ea yb,Ab⟩)
 (fD:cH ([220]:g0) Ea.toList=true)
 (dD:Nat.ble Ea.size 1000=true)
 (gD:K.lookup ua=some ⟨.type "tuple",none,.seq Ba Fb,Mb⟩)
 (RC:cH ([0,0]:g0) Ba.toList=true)
 (nC:Nat.ble Ba.size 1000=true)
 (gC:K.lookup oa=some ⟨.type "tuple",none,.seq ra zb,Nb⟩)
 (vC:cH ([0,220]:g0) ra.toList=true)
 (KC:Nat.ble ra.size 1000=true)
 (k3:W.nsIn K mainGlobals "FIRST_BEHIND"=some (some (.int 128 u3)))
 (k4:W.nsIn K mainGlobals "FIRST_HEAD"=some (some (.int 55296 u4)))
 (k5:W.nsIn K mainGlobals "FIRST_SEEN"=some (some (.int 61184 u5)))
 (k6:W.nsIn K mainGlobals "FIRST_TAIL"=some (some (.int 56320 u6)))
 (k7:W.nsIn K mainGlobals "FIRST_WIDE"=some (some (.int 65536 u7)))
 (k8:W.nsIn K mainGlobals "HALF_BITS"=some (some (.int 10 u8)))
 (k9:W.nsIn K mainGlobals "LAST_BEHIND"=some (some (.int 191 u9)))
 (bY:W.nsIn K mainGlobals "LAST_BYTE"=some (some (.int 255 Ez)))
 (eX:W.nsIn K mainGlobals "LAST_SEEN"=some (some (.int 61439 Hz)))
 (fY:W.nsIn K mainGlobals "LAST_SIGN"=some (some (.int 1114111 Yx)))
 (vX:W.nsIn K mainGlobals "LAST_TAIL"=some (some (.int 57343 Pz)))
 (dX:W.nsIn K mainGlobals "LEADS"=some (some (.ref Rb)))
 (VF:K.lookup Rb=some ⟨.type "tuple",none,.seq Tb Gq,Cq⟩)
 (uK:cH ([0,0,192,224,240]:g0) Tb.toList=true)
 (fV:Nat.ble Tb.size 1000=true)
 (YW:W.nsIn K mainGlobals "MOST_BYTES"=some (some (.int 6 Gy)))
 (QX:W.nsIn K mainGlobals "MOST_SIGNS"=some (some (.int 250 Jz)))
 (YX:W.nsIn K mainGlobals "MOST_TUPLES"=some (some (.int 64 Sy)))
 (zX:W.nsIn K mainGlobals "SECONDS"=some (some (.ref Kb)))
 (pR:K.lookup Kb=some ⟨.type "dict",none,.dict Pe un,#[]⟩)
 (cR:i9 Pe.toList=some [(224,Na),(237,db),(238,bb),(240,Pa),(244,La)])
 (FT:(Kb == sysModules)=false)
 (OD:K.lookup Na=some ⟨.type "tuple",none,.seq Ja Sb,dc⟩)
 (uD:cH ([160,191]:g0) Ja.toList=true)
 (ZD:Nat.ble Ja.size 1000=true)
 (RD:K.lookup db=some ⟨.type "tuple",none,.seq hb Pb,cc⟩)
 (GD:cH ([128,159]:g0) hb.toList=true)
 (eE:Nat.ble hb.size 1000=true)
 (wD:K.lookup bb=some ⟨.type "tuple",none,.seq Oa bc,Zb⟩)
 (tD:cH ([128,187]:g0) Oa.toList=true)
 (XD:Nat.ble Oa.size 1000=true)
 (HD:K.lookup Pa=some ⟨.type "tuple",none,.seq Ta Vb,Ub⟩)
 (QD:cH ([144,191]:g0) Ta.toList=true)
 (KD:Nat.ble Ta.size 1000=true)
 (YD:K.lookup La=some ⟨.type "tuple",none,.seq gb Qb,Xb⟩)
 (JD:cH ([128,143]:g0) gb.toList=true)
 (VD:Nat.ble gb.size 1000=true)
 (sX:W.nsIn K mainGlobals "SHIFTS"=some (some (.ref Wb)))
 (pF:K.lookup Wb=some ⟨.type "tuple",none,.seq Yb ai,mi⟩)
 (nR:cH ([254,255]:g0) Yb.toList=true)
 (tG:Nat.ble Yb.size 1000=true)
 (z0:W.nsIn K mainGlobals "all"=some none)
 (z1:W.nsIn K mainGlobals "bool"=some none)
 (z2:W.nsIn K mainGlobals "enumerate"=some none)
 (z3:W.nsIn K mainGlobals "int"=some none)
 (z4:W.nsIn K mainGlobals "isinstance"=some none)
 (z5:W.nsIn K mainGlobals "len"=some none)
 (z6:W.nsIn K mainGlobals "list"=some none)
 (z7:W.nsIn K mainGlobals "min"=some none)
 (z8:W.nsIn K mainGlobals "range"=some none)
 (z9:W.nsIn K mainGlobals "reversed"=some none)
 (oY:W.nsIn K mainGlobals "str"=some none)
 (PX:W.nsIn K mainGlobals "tuple"=some none):∃t,Txt w K mg t:=by
  have F0:=aP (st:=lz) mX aY mY;have b0:=F0.binds (ps:=["self", "sign", "at"]) (λ_ _ _ _ _ _=>bH λ_ _ _=>rfl);have F1:=c8 (st:=kU) ZW BX WW UW;have bd1:=F1.binds (ps:=["self", "tongue", "place"]) (ds:=[.int 0 qb]) (λ_ _ _ _ _ _ _=>VX λ_ _=>⟨_,rfl,rfl⟩);have b1:=F1.binds (ps:=["self", "tongue", "place"]) (ds:=[]) (λ_ _ _ _ _ _ _=>VY λ_ _ _=>⟨_,rfl,rfl⟩);have F2:=aP (st:=kX) oX eY vW;have b2:=F2.binds (ps:=["self"]) (λ_ _ _ _ _ _=>bx λ_=>rfl);have F3:=aP (st:=kW) iY ZX yW;have b3:=F3.binds (ps:=["self", "row"]) (λ_ _ _ _ _ _=>bj λ_ _=>rfl);have F4:=aP (st:=kY) lY HX sW;have b4:=F4.binds (ps:=["self"]) (λ_ _ _ _ _ _=>bx λ_=>rfl);have F5:=aP (st:=kQ) fX GX uW;have b5:=F5.binds (ps:=["self", "byte"]) (λ_ _ _ _ _ _=>bj λ_ _=>rfl);have F6:=aP (st:=kT) aX DX rW;have b6:=F6.binds (ps:=["self"]) (λ_ _ _ _ _ _=>bx λ_=>rfl);have F7:=aP (st:=kR) cX gY tW;have b7:=F7.binds (ps:=["self"]) (λ_ _ _ _ _ _=>bx λ_=>rfl);have F8:=aP (st:=kS) pY CX FW;have b8:=F8.binds (ps:=["self", "length", "kind"]) (λ_ _ _ _ _ _=>bH λ_ _ _=>rfl);have F9:=aP (st:=mr) TX dY zW;have b9:=F9.binds (ps:=["self", "length", "kind"]) (λ_ _ _ _ _ _=>bH λ_ _ _=>rfl);have sz:=aP (st:=j0) tQ bQ pJ;have sZ:=sz.binds (ps:=["thing"]) (λ_ _ _ _ _ _=>bx λ_=>rfl);have cz:=aP (st:=j3) rH XQ HH;have b11:=cz.binds (ps:=["thing"]) (λ_ _ _ _ _ _=>bx λ_=>rfl);have rz:=aP (st:=j1) gW iI zJ;have b12:=rz.binds (ps:=["number"]) (λ_ _ _ _ _ _=>bx λ_=>rfl);have Mz:=aP (st:=jX) CV zQ rQ;have iZ:=Mz.binds (ps:=["number"]) (λ_ _ _ _ _ _=>bx λ_=>rfl);have Iz:=aP (st:=jZ) dR ZS CK;have fZ:=Iz.binds (ps:=["thing"]) (λ_ _ _ _ _ _=>bx λ_=>rfl);have Uz:=aP (st:=jY) gO VV QJ;have b15:=Uz.binds (ps:=["thing"]) (λ_ _ _ _ _ _=>bx λ_=>rfl);have Cz:=aP (st:=iQ) IK yN lN;have b16:=Cz.binds (ps:=["thing"]) (λ_ _ _ _ _ _=>bx λ_=>rfl);have Ov:=c8 (st:=lC) cT RQ vR UG;have nl:=Ov.binds (ps:=["self", "tongue", "way", "place"]) (ds:=[.int 0 Za]) (λ_ _ _ _ _ _ _=>VY λ_ _ _=>⟨_,rfl,rfl⟩);have b17:=Ov.binds (ps:=["self", "tongue", "way", "place"]) (ds:=[]) (λ_ _ _ _ _ _ _=>VZ λ_ _ _ _=>⟨_,rfl,rfl⟩);have Dz:=aP (st:=jN) VN CQ NT;have b18:=Dz.binds (ps:=["tongue", "text", "page"]) (λ_ _ _ _ _ _=>bH λ_ _ _=>rfl);have Rz:=aP (st:=jO) nT bK rR;have nZ:=Rz.binds (ps:=["tongue", "text"]) (λ_ _ _ _ _ _=>bj λ_ _=>rfl);have Ry:=aP (st:=kP) vM YK mH;have b20:=Ry.binds (ps:=["self", "tongue"]) (λ_ _ _ _ _ _=>bj λ_ _=>rfl);have Bz:=aP (st:=kO) cI JN QF;have b21:=Bz.binds (ps:=["self", "sign", "page"]) (λ_ _ _ _ _ _=>bH λ_ _ _=>rfl);have Ny:=aP (st:=ka) XK FN WN;have HY:=Ny.binds (ps:=["self", "tongue"]) (λ_ _ _ _ _ _=>bj λ_ _=>rfl);have az:=aP (st:=kN) cL uQ tO;have b23:=az.binds (ps:=["self", "tongue"]) (λ_ _ _ _ _ _=>bj λ_ _=>rfl);have hy:=aP (st:=kc) zM rU nF;have b24:=hy.binds (ps:=["self", "text"]) (λ_ _ _ _ _ _=>bj λ_ _=>rfl);have cn:=c8 (st:=ki) bJ ZQ yH HN;have mw:=cn.binds (ps:=["self", "source", "goal", "way", "instead"]) (ds:=[.none,.none]) (λ_ _ _ _ _ _ _=>VY λ_ _ _=>⟨_,rfl,rfl⟩);have zY:=cn.binds (ps:=["self", "source", "goal", "way", "instead"]) (ds:=[]) (λ_ _ _ _ _ _ _=>V0 λ_ _ _ _ _=>⟨_,rfl,rfl⟩);have vy:=aP (st:=kh) aM dN JF;have yZ:=vy.binds (ps:=["self"]) (λ_ _ _ _ _ _=>bx λ_=>rfl);have sy:=aP (st:=ko) BK uG MF;have b27:=sy.binds (ps:=["self"]) (λ_ _ _ _ _ _=>bx λ_=>rfl);have Ly:=aP (st:=kj) oM YJ dG;have b28:=Ly.binds (ps:=["self", "row"]) (λ_ _ _ _ _ _=>bj λ_ _=>rfl);have iz:=aP (st:=kr) aH UJ yF;have b29:=iz.binds (ps:=["self"]) (λ_ _ _ _ _ _=>bx λ_=>rfl);have Dy:=aP (st:=kg) wU pG zF;have b30:=Dy.binds (ps:=["self", "things"]) (λ_ _ _ _ _ _=>bj λ_ _=>rfl);have Jy:=aP (st:=kf) gK aL oF;have b31:=Jy.binds (ps:=["self", "thing"]) (λ_ _ _ _ _ _=>bj λ_ _=>rfl);have Tz:=aP (st:=j7) JH mW BR;have b32:=Tz.binds (ps:=["number", "bits"]) (λ_ _ _ _ _ _=>bj λ_ _=>rfl);have wz:=aP (st:=jT) RN sO tM;have b33:=wz.binds (ps:=["number", "bits", "many"]) (λ_ _ _ _ _ _=>bH λ_ _ _=>rfl);have dy:=aP (st:=jQ) yR WQ UV;have b34:=dy.binds (ps:=["parts", "bits"]) (λ_ _ _ _ _ _=>bj λ_ _=>rfl);have Oy:=aP (st:=ku) oU qT vD;have b35:=Oy.binds (ps:=["self"]) (λ_ _ _ _ _ _=>bx λ_=>rfl);have rt:=c8 (st:=kx) vN oJ fG iH;have Vk:=rt.binds (ps:=["self", "sign", "page"]) (ds:=[.int 0 Va]) (λ_ _ _ _ _ _ _=>VX λ_ _=>⟨_,rfl,rfl⟩);have b36:=rt.binds (ps:=["self", "sign", "page"]) (ds:=[]) (λ_ _ _ _ _ _ _=>VY λ_ _ _=>⟨_,rfl,rfl⟩);have Wk:=c8 (st:=kt) oO VL TF sU;have Fr:=Wk.binds (ps:=["self", "row", "page"]) (ds:=[.int 0 cb]) (λ_ _ _ _ _ _ _=>VX λ_ _=>⟨_,rfl,rfl⟩);have b37:=Wk.binds (ps:=["self", "row", "page"]) (ds:=[]) (λ_ _ _ _ _ _ _=>VY λ_ _ _=>⟨_,rfl,rfl⟩);have zm:=c8 (st:=kz) gU nW GF MJ;have Di:=zm.binds (ps:=["self", "row", "page"]) (ds:=[.int 0 Ua]) (λ_ _ _ _ _ _ _=>VX λ_ _=>⟨_,rfl,rfl⟩);have b38:=zm.binds (ps:=["self", "row", "page"]) (ds:=[]) (λ_ _ _ _ _ _ _=>VY λ_ _ _=>⟨_,rfl,rfl⟩);have Hv:=c8 (st:=ky) GR vL pD cU;have oj:=Hv.binds (ps:=["self", "begun", "page"]) (ds:=[.int 0 Wa]) (λ_ _ _ _ _ _ _=>VX λ_ _=>⟨_,rfl,rfl⟩);have b39:=Hv.binds (ps:=["self", "begun", "page"]) (ds:=[]) (λ_ _ _ _ _ _ _=>VY λ_ _ _=>⟨_,rfl,rfl⟩);have ny:=aP (st:=jV) YG YQ dW;have b40:=ny.binds (ps:=["sign"]) (λ_ _ _ _ _ _=>bx λ_=>rfl);have my:=aP (st:=iP) JG aW gP;have GZ:=my.binds (ps:=["sign"]) (λ_ _ _ _ _ _=>bx λ_=>rfl);have Ay:=aP (st:=jW) dI mK rM;have vY:=Ay.binds (ps:=["first"]) (λ_ _ _ _ _ _=>bx λ_=>rfl);have ay:=aP (st:=j8) mG zG RL;have mZ:=ay.binds (ps:=["row", "place"]) (λ_ _ _ _ _ _=>bj λ_ _=>rfl);have mz:=aP (st:=j4) PQ lV fQ;have b44:=mz.binds (ps:=["row"]) (λ_ _ _ _ _ _=>bx λ_=>rfl);have uz:=aP (st:=jU) lL lU zU;have b45:=uz.binds (ps:=["row"]) (λ_ _ _ _ _ _=>bx λ_=>rfl);have zz:=aP (st:=iR) cQ NQ iV;have b46:=zz.binds (ps:=["row"]) (λ_ _ _ _ _ _=>bx λ_=>rfl);have zv:=c8 (st:=lB) uL sJ cF aO;have Co:=zv.binds (ps:=["self", "sign", "page"]) (ds:=[.int 0 Ra]) (λ_ _ _ _ _ _ _=>VX λ_ _=>⟨_,rfl,rfl⟩);have oZ:=zv.binds (ps:=["self", "sign", "page"]) (ds:=[]) (λ_ _ _ _ _ _ _=>VY λ_ _ _=>⟨_,rfl,rfl⟩);have Gm:=c8 (st:=lA) aN DP YF dJ;have Os:=Gm.binds (ps:=["self", "row", "page"]) (ds:=[.int 0 ab]) (λ_ _ _ _ _ _ _=>VX λ_ _=>⟨_,rfl,rfl⟩);have eZ:=Gm.binds (ps:=["self", "row", "page"]) (ds:=[]) (λ_ _ _ _ _ _ _=>VY λ_ _ _=>⟨_,rfl,rfl⟩);have to:=c8 (st:=iT) yS pO ZF bW;have em:=to.binds (ps:=["self", "row", "page"]) (ds:=[.int 0 jb]) (λ_ _ _ _ _ _ _=>VX λ_ _=>⟨_,rfl,rfl⟩);have BZ:=to.binds (ps:=["self", "row", "page"]) (ds:=[]) (λ_ _ _ _ _ _ _=>VY λ_ _ _=>⟨_,rfl,rfl⟩);have Cy:=aP (st:=jP) JR lJ YH;have b50:=Cy.binds (ps:=["sign"]) (λ_ _ _ _ _ _=>bx λ_=>rfl);have bz:=aP (st:=jR) zP PN mQ;have FZ:=bz.binds (ps:=["units"]) (λ_ _ _ _ _ _=>bx λ_=>rfl);have Rs:=c8 (st:=lv) bV DR dU SN;have Tx:=Rs.binds (ps:=["self", "order"]) (ds:=[.str "high" Sa]) (λ_ _ _ _ _ _ _=>V3 λ_=>⟨_,rfl,rfl⟩);have KY:=Rs.binds (ps:=["self", "order"]) (ds:=[]) (λ_ _ _ _ _ _ _=>VX λ_ _=>⟨_,rfl,rfl⟩);have nz:=aP (st:=lg) KJ GJ wF;have b53:=nz.binds (ps:=["self"]) (λ_ _ _ _ _ _=>bx λ_=>rfl);have fz:=aP (st:=lh) oW mL XF;have pZ:=fz.binds (ps:=["self", "pair"]) (λ_ _ _ _ _ _=>bj λ_ _=>rfl);have wy:=aP (st:=lu) eN gM gF;have uY:=wy.binds (ps:=["self", "units"]) (λ_ _ _ _ _ _=>bj λ_ _=>rfl);have Hy:=aP (st:=iS) CT uJ dF;have b56:=Hy.binds (ps:=["self", "row"]) (λ_ _ _ _ _ _=>bj λ_ _=>rfl);have Su:=c8 (st:=lm) nJ fJ cG BL;have Yj:=Su.binds (ps:=["self", "sign", "page"]) (ds:=[.int 0 Ma]) (λ_ _ _ _ _ _ _=>VX λ_ _=>⟨_,rfl,rfl⟩);have b57:=Su.binds (ps:=["self", "sign", "page"]) (ds:=[]) (λ_ _ _ _ _ _ _=>VY λ_ _ _=>⟨_,rfl,rfl⟩);have Io:=c8 (st:=kZ) yO NK uF ZP;have Kx:=Io.binds (ps:=["self", "row", "page"]) (ds:=[.int 0 fb]) (λ_ _ _ _ _ _ _=>VX λ_ _=>⟨_,rfl,rfl⟩);have b58:=Io.binds (ps:=["self", "row", "page"]) (ds:=[]) (λ_ _ _ _ _ _ _=>VY λ_ _ _=>⟨_,rfl,rfl⟩);have Dk:=c8 (st:=ly) LR dH gG vQ;have zr:=Dk.binds (ps:=["self", "row", "page"]) (ds:=[.int 0 Xa]) (λ_ _ _ _ _ _ _=>VX λ_ _=>⟨_,rfl,rfl⟩);have YZ:=Dk.binds (ps:=["self", "row", "page"]) (ds:=[]) (λ_ _ _ _ _ _ _=>VY λ_ _ _=>⟨_,rfl,rfl⟩);have Fz:=aP (st:=j9) gQ XR rG;have b60:=Fz.binds (ps:=["one", "other"]) (λ_ _ _ _ _ _=>bj λ_ _=>rfl);have By:=aP (st:=jS) mJ VJ fM;have tZ:=By.binds (ps:=["signs", "which"]) (λ_ _ _ _ _ _=>bj λ_ _=>rfl);have Qy:=aP (st:=kL) rO ZG bM;have b62:=Qy.binds (ps:=["self", "first", "second"]) (λ_ _ _ _ _ _=>bH λ_ _ _=>rfl);have Sz:=aP (st:=kK) tH JL mF;have b63:=Sz.binds (ps:=["self", "page"]) (λ_ _ _ _ _ _=>bj λ_ _=>rfl);have Ho:=c8 (st:=kI) VG zV eF rN;have Qv:=Ho.binds (ps:=["self", "sign", "page"]) (ds:=[.int 0 Ka]) (λ_ _ _ _ _ _ _=>VX λ_ _=>⟨_,rfl,rfl⟩);have b64:=Ho.binds (ps:=["self", "sign", "page"]) (ds:=[]) (λ_ _ _ _ _ _ _=>VY λ_ _ _=>⟨_,rfl,rfl⟩);have hz:=aP (st:=kJ) vJ NP lF;have b65:=hz.binds (ps:=["self", "byte", "page"]) (λ_ _ _ _ _ _=>bH λ_ _ _=>rfl);have kl:=c8 (st:=kH) tR DQ bG JP;have bu:=kl.binds (ps:=["self", "row", "page"]) (ds:=[.int 0 Qa]) (λ_ _ _ _ _ _ _=>VX λ_ _=>⟨_,rfl,rfl⟩);have b66:=kl.binds (ps:=["self", "row", "page"]) (ds:=[]) (λ_ _ _ _ _ _ _=>VY λ_ _ _=>⟨_,rfl,rfl⟩);have Es:=c8 (st:=kM) oG bN eG wI;have Pn:=Es.binds (ps:=["self", "row", "page"]) (ds:=[.int 0 eb]) (λ_ _ _ _ _ _ _=>VX λ_ _=>⟨_,rfl,rfl⟩);have b67:=Es.binds (ps:=["self", "row", "page"]) (ds:=[]) (λ_ _ _ _ _ _ _=>VY λ_ _ _=>⟨_,rfl,rfl⟩);have Vz:=aP (st:=j2) DG RV GK;have b68:=Vz.binds (ps:=["thing"]) (λ_ _ _ _ _ _=>bx λ_=>rfl);have ey:=aP (st:=j5) WK pM dO;have b69:=ey.binds (ps:=["one", "other"]) (λ_ _ _ _ _ _=>bj λ_ _=>rfl);have Oz:=aP (st:=j6) yK KN JQ;have b70:=Oz.binds (ps:=["rows"]) (λ_ _ _ _ _ _=>bx λ_=>rfl);have vz:=aP (st:=kE) yQ PT fU;have WY:=vz.binds (ps:=["self", "rows"]) (λ_ _ _ _ _ _=>bj λ_ _=>rfl);have Zx:=aP (st:=kG) pI UT qF;have b72:=Zx.binds (ps:=["self", "sign", "row"]) (λ_ _ _ _ _ _=>bH λ_ _ _=>rfl);have tv:=c8 (st:=kD) VH nG HF LK;have vv:=tv.binds (ps:=["self", "sign", "page"]) (ds:=[.int 0 Ya]) (λ_ _ _ _ _ _ _=>VX λ_ _=>⟨_,rfl,rfl⟩);have b73:=tv.binds (ps:=["self", "sign", "page"]) (ds:=[]) (λ_ _ _ _ _ _ _=>VY λ_ _ _=>⟨_,rfl,rfl⟩);have rl:=c8 (st:=kA) vH uT aG eU;have ll:=rl.binds (ps:=["self", "row", "page"]) (ds:=[.int 0 kb]) (λ_ _ _ _ _ _ _=>VX λ_ _=>⟨_,rfl,rfl⟩);have b74:=rl.binds (ps:=["self", "row", "page"]) (ds:=[]) (λ_ _ _ _ _ _ _=>VY λ_ _ _=>⟨_,rfl,rfl⟩);have Wu:=c8 (st:=kF) wG DN WF cV;have uu:=Wu.binds (ps:=["self", "row", "page"]) (ds:=[.int 0 ib]) (λ_ _ _ _ _ _ _=>VX λ_ _=>⟨_,rfl,rfl⟩);have cZ:=Wu.binds (ps:=["self", "row", "page"]) (ds:=[]) (λ_ _ _ _ _ _ _=>VY λ_ _ _=>⟨_,rfl,rfl⟩);have Gz:=aP (st:=jE) yG cO WL;have b76:=Gz.binds (ps:=["_law_script", "_law_k"]) (λ_ _ _ _ _ _=>bj λ_ _=>rfl);have uy:=aP (st:=jC) QS bO fW;have b77:=uy.binds (ps:=["_law_found"]) (λ_ _ _ _ _ _=>bx λ_=>rfl);have Vy:=aP (st:=jz) RP ZL iW;have b78:=Vy.binds (ps:=["_law_number"]) (λ_ _ _ _ _ _=>bx λ_=>rfl);have Nz:=aP (st:=jB) WR yM RK;have lZ:=Nz.binds (ps:=["_law_cell"]) (λ_ _ _ _ _ _=>bx λ_=>rfl);have ry:=aP (st:=iL) TG uR fK;have b80:=ry.binds (ps:=["_law_pool_here", "_law_cell"]) (λ_ _ _ _ _ _=>bj λ_ _=>rfl);have Xy:=aP (st:=io) QT MP SJ;have b81:=Xy.binds (ps:=["_law_pool_here", "_law_cell"]) (λ_ _ _ _ _ _=>bj λ_ _=>rfl);have Qz:=aP (st:=jG) KH YT lG;have b82:=Qz.binds (ps:=["_law_tongue_here", "_law_sign_here", "_law_page"]) (λ_ _ _ _ _ _=>bH λ_ _ _=>rfl);have iy:=aP (st:=jy) yP LQ vI;have b83:=iy.binds (ps:=["_law_pool_here", "_law_tongue_here", "_law_cells"]) (λ_ _ _ _ _ _=>bH λ_ _ _=>rfl);have Iy:=aP (st:=jD) OJ oR mU;have b84:=Iy.binds (ps:=["_law_row", "_law_cells"]) (λ_ _ _ _ _ _=>bj λ_ _=>rfl);have Ey:=aP (st:=jA) XH nU pP;have b85:=Ey.binds (ps:=["_law_cell"]) (λ_ _ _ _ _ _=>bx λ_=>rfl);have Kz:=aP (st:=jL) lM eH uM;have b86:=Kz.binds (ps:=["_law_pot_here", "_law_many"]) (λ_ _ _ _ _ _=>bj λ_ _=>rfl);have ez:=aP (st:=iO) YL RT uO;have b87:=ez.binds (ps:=["_law_cell", "_law_base", "_law_most"]) (λ_ _ _ _ _ _=>bH λ_ _ _=>rfl);have Az:=aP (st:=jI) HQ bL QR;have KZ:=Az.binds (ps:=["_law_pot_here"]) (λ_ _ _ _ _ _=>bx λ_=>rfl);have fy:=aP (st:=gL) nO zK uV;have b89:=fy.binds (ps:=["_law_pot_here"]) (λ_ _ _ _ _ _=>bx λ_=>rfl);have Wy:=aP (st:=jM) ZM JM mR;have DY:=Wy.binds (ps:=["_law_number"]) (λ_ _ _ _ _ _=>bx λ_=>rfl);have Xz:=aP (st:=jJ) QL gV QH;have b91:=Xz.binds (ps:=["_law_row", "_law_rows"]) (λ_ _ _ _ _ _=>bj λ_ _=>rfl);have oy:=aP (st:=iN) bT WM YS;have b92:=oy.binds (ps:=["_law_cell"]) (λ_ _ _ _ _ _=>bx λ_=>rfl);have Xx:=aP (st:=ip) yU aR RG;have b93:=Xx.binds (ps:=["_law_signs", "_law_cells", "_law_most"]) (λ_ _ _ _ _ _=>bH λ_ _ _=>rfl);have Zy:=aP (st:=jH) cJ XN zH;have b94:=Zy.binds (ps:=["_law_row", "_law_cell"]) (λ_ _ _ _ _ _=>bj λ_ _=>rfl);have Yy:=aP (st:=iM) VR TJ QG;have b95:=Yy.binds (ps:=["_law_found"]) (λ_ _ _ _ _ _=>bx λ_=>rfl);have py:=aP (st:=jF) MN aQ JS;have b96:=py.binds (ps:=["_law_first", "_law_second", "_law_pieces_here"]) (λ_ _ _ _ _ _=>bH λ_ _ _=>rfl);have Ky:=aP (st:=jK) gJ CJ pW;have b97:=Ky.binds (ps:=["_law_script"]) (λ_ _ _ _ _ _=>bx λ_=>rfl);have dz:=aP (st:=iq) nP eO rJ;have b98:=dz.binds (ps:=["_law_script"]) (λ_ _ _ _ _ _=>bx λ_=>rfl)
  exact⟨⟨a0,_,a1,_,qb,a2,_,a3,_,a4,_,a5,_,a6,_,a7,_,a8,_,a9,_,Vg,_,dh,_,Yg,_,mh,_,Uh,_,ph,_,Ch,_,eg,_,Za,wh,_,Sh,_,fd,_,ze,_,Nh,_,ee,_,vf,_,Rc,_,Qf,_,Od,_,Sc,_,Sd,_,Uf,_,wg,_,fh,_,Hh,_,Oh,_,Ob,_,sf,_,Va,Mf,_,cb,fe,_,Ua,Hb,_,Wa,ch,_,jh,_,Lh,_,nh,_,th,_,oh,_,Ah,_,Hc,_,Ra,gf,_,ab,Gc,_,jb,Vh,_,ih,_,Mc,_,Sa,Dg,_,Me,_,Gf,_,If,_,Ff,_,Ma,Ud,_,fb,ig,_,Xa,Dh,_,vh,_,Vd,_,Kf,_,wc,_,Ka,ke,_,wf,_,Qa,Bf,_,eb,ah,_,hh,_,gh,_,Rf,_,Dc,_,Jf,_,Ya,me,_,kb,Lf,_,ib,Qh,_,xh,_,Wg,_,eh,_,Eh,_,uh,_,sh,_,Xh,_,Gh,_,zh,_,Rh,_,Xg,_,Ph,_,Kh,_,Th,_,Jh,_,Zg,_,Mh,_,Fh,_,Wh,_,bh,_,Bh,_,qh,_,fa,ca,ga,ha,ia,la,ea,da,aa,ba,na,ja,ma,u0,u1,Ih,rb,nb,wa,Ha,pa,qa,za,pb,ob,xa,Fa,Ia,ua,oa,u3,u4,u5,u6,u7,u8,u9,Ez,Hz,Yx,Pz,Rb,Gy,Jz,Sy,Kb,Na,db,bb,Pa,La,Wb⟩,⟨F0,b0,F1,bd1,b1,F2,b2,F3,b3,F4,b4,F5,b5,F6,b6,F7,b7,F8,b8,F9,b9,sz,sZ,W.mg_of X G DK,cz,b11,W.mg_of X G yV,rz,b12,W.mg_of X G MT,Mz,iZ,W.mg_of X G nQ,Iz,fZ,W.mg_of X G JT,Uz,b15,W.mg_of X G pU,Cz,b16,W.mg_of X G lW,Ov,nl,b17,Dz,b18,W.mg_of X G GQ,Rz,nZ,W.mg_of X G aU,Ry,b20,Bz,b21,Ny,HY,az,b23,hy,b24,cn,mw,zY,vy,yZ,sy,b27,Ly,b28,iz,b29,Dy,b30,Jy,b31,Tz,b32,W.mg_of X G bR,wz,b33,W.mg_of X G dM,dy,b34,W.mg_of X G oV,Oy,b35,rt,Vk,b36,Wk,Fr,b37,zm,Di,b38,Hv,oj,b39,ny,b40,W.mg_of X G pH,my,GZ,W.mg_of X G vU,Ay,vY,W.mg_of X G fP,ay,mZ,W.mg_of X G BV,mz,b44,W.mg_of X G CP,uz,b45,W.mg_of X G tL,zz,b46,W.mg_of X G ZR,zv,Co,oZ,Gm,Os,eZ,to,em,BZ,Cy,b50,W.mg_of X G sG,bz,FZ,W.mg_of X G aK,Rs,Tx,KY,nz,b53,fz,pZ,wy,uY,Hy,b56,Su,Yj,b57,Io,Kx,b58,Dk,zr,YZ,Fz,b60,W.mg_of X G uU,By,tZ,W.mg_of X G cW,Qy,b62,Sz,b63,Ho,Qv,b64,hz,b65,kl,bu,b66,Es,Pn,b67,Vz,b68,W.mg_of X G TQ,ey,b69,W.mg_of X G XM,Oz,b70,W.mg_of X G YM,vz,WY,Zx,b72,tv,vv,b73,rl,ll,b74,Wu,uu,cZ,Gz,b76,W.mg_of X G CN,uy,b77,W.mg_of X G vK,Vy,b78,W.mg_of X G ZK,Nz,lZ,W.mg_of X G iG,ry,b80,W.mg_of X G VP,Xy,b81,W.mg_of X G tV,Qz,b82,W.mg_of X G gR,iy,b83,W.mg_of X G FP,Iy,b84,W.mg_of X G sS,Ey,b85,W.mg_of X G QV,Kz,b86,W.mg_of X G HJ,ez,b87,W.mg_of X G nM,Az,KZ,W.mg_of X G bU,fy,b89,W.mg_of X G eQ,Wy,DY,W.mg_of X G MK,Xz,b91,W.mg_of X G WP,oy,b92,W.mg_of X G FQ,Xx,b93,W.mg_of X G lH,Zy,b94,W.mg_of X G uH,Yy,b95,W.mg_of X G UL,py,b96,W.mg_of X G wJ,Ky,b97,W.mg_of X G vO,dz,b98,W.mg_of X G JV,W.mg_of X G yA,⟨qO,rC,re,qD⟩,⟨x6,RX,tX,yk⟩,⟨lX,BW,vW⟩,⟨yX,QW,yW⟩,⟨JX,JW,sW⟩,⟨pX,DW,uW⟩,⟨rY,CW,rW⟩,⟨XX,IW,tW⟩,⟨nY,SX,FW⟩,⟨uX,HW,zW⟩,xR,xQ,xP,xO,xN,xM,xL,λH a dx fs e=>.ins e ⟨qO,rC,re,qD⟩ xp w6 wQ cC,W.mg_of X G yD,⟨qR,rF,rh,qH⟩,⟨ya,rK,aJ,yo⟩,⟨cA,BW,vW⟩,⟨pA,QW,yW⟩,⟨bB,JW,sW⟩,⟨nA,DW,uW⟩,⟨aA,CW,rW⟩,⟨bA,IW,tW⟩,⟨vA,HW,zW⟩,xU,xT,λH a dx fs e=>.ins e ⟨qR,rF,rh,qH⟩ xu xf wT rB,W.mg_of X G yz,⟨qN,rA,rc,qC⟩,⟨x5,VK,rT,yj⟩,⟨uN,ZV,QF⟩,xK,λH a dx fs e=>.ins e ⟨qN,rA,rc,qC⟩ xo w5 wP tB,W.mg_of X G yy,⟨qM,rq,qZ,qB⟩,⟨xZ,fL,zR,yi⟩,⟨rP,sV,nF⟩,xJ,xI,λH a dx fs e=>.ins e ⟨qM,rq,qZ,qB⟩ xm wZ wO uB,W.mg_of X G yt,⟨qI,rj,qV,qx⟩,⟨xV,pL,gH,ye⟩,⟨iK,dK,JF⟩,⟨cP,GP,MF⟩,⟨BJ,PP,dG⟩,⟨TV,QM,yF⟩,⟨TP,WT,zF⟩,⟨sI,uI,oF⟩,xB,xA,xz,xy,xx,λH a dx fs e=>.ins e ⟨qI,rj,qV,qx⟩ xi wV wK aC,W.mg_of X G yu,⟨qJ,rm,qW,qy⟩,⟨xW,yp,yf⟩,⟨oH,lE,vD⟩,⟨vG,aV,fG⟩,⟨BP,SQ,TF⟩,⟨lO,fH,GF⟩,⟨zL,WD,pD⟩,λH a dx fs e=>.ins e ⟨qJ,rm,qW,qy⟩ xj wW wL bC,W.mg_of X G yC,⟨qQ,rE,rg,qG⟩,⟨x9,yq,ym⟩,⟨IV,cN,cF⟩,⟨KR,RM,YF⟩,⟨PJ,tU,ZF⟩,⟨cB,lE,vD⟩,⟨zA,WD,pD⟩,λH a dx fs e=>.ins e ⟨qQ,rE,rg,qG⟩ xt xc wS vB,W.mg_of X G yB,⟨qP,rD,rf,qE⟩,⟨x8,zN,iJ,yl⟩,⟨zO,RJ,wF⟩,⟨nH,mV,XF⟩,⟨oK,XS,gF⟩,⟨pQ,zT,dF⟩,⟨QK,uP,cG⟩,⟨JK,oN,uF⟩,⟨cM,HR,gG⟩,⟨dB,WD,pD⟩,xS,λH a dx fs e=>.ins e ⟨qP,rD,rf,qE⟩ xq w9 wR wB,W.mg_of X G yx,⟨qL,rp,qY,qA⟩,⟨xY,ZJ,bI,yh⟩,⟨wH,eV,mF⟩,⟨QQ,fO,eF⟩,⟨qU,sH,lF⟩,⟨mO,rI,bG⟩,⟨pN,tK,eG⟩,⟨oA,lE,vD⟩,⟨uA,WD,pD⟩,xH,xG,xF,λH a dx fs e=>.ins e ⟨qL,rp,qY,qA⟩ xl wY wN pB,W.mg_of X G yw,⟨qK,rn,qX,qz⟩,⟨xX,HS,vV,yg⟩,⟨CG,VM,qF⟩,⟨KQ,PL,HF⟩,⟨SM,vP,aG⟩,⟨pK,PK,WF⟩,⟨wA,lE,vD⟩,⟨gA,WD,pD⟩,xE,xD,xC,λH a dx fs e=>.ins e ⟨qK,rn,qX,qz⟩ xk wX wM iB,W.mg_of X G yr,⟨yI,yJ,yL⟩,W.mg_of X G hZ,W.mg_of X G lK,⟨PB,HB,QB,VB,RB,YB,NB,JB⟩,fB,gy,lS,lR,lQ,lP,zB,gB,iU,FJ,XJ,W.mg_of X G k0,W.mg_of X G k1,W.mg_of X G k2,⟨⟨_,_,WX,cY⟩,Yz.mpr ⟨yE,Yz.mpr ⟨aF,λ_ z=>nomatch z⟩⟩,(show List.Nodup (["high", "low"]:List Str) by decide +kernel),RW⟩,AA sE oE (Wf zE),du fC YC (Wf iD),du GC nD (Wf tC),du ZC JC (Wf lD),du pC bD (Wf mD),du iC wC (Wf uC),AA bF uE (Wf tE),du mC dC (Wf XC),du cD aD (Wf LC),du QC fD (Wf dD),du gD RC (Wf nC),du gC vC (Wf KC),W.mg_of X G k3,W.mg_of X G k4,W.mg_of X G k5,W.mg_of X G k6,W.mg_of X G k7,W.mg_of X G k8,W.mg_of X G k9,W.mg_of X G bY,W.mg_of X G eX,W.mg_of X G fY,W.mg_of X G vX,W.mg_of X G dX,du VF uK (Wf fV),⟨_,VF,rfl,rfl⟩,W.mg_of X G YW,W.mg_of X G QX,W.mg_of X G YX,W.mg_of X G zX,⟨⟨_,_,pR,cR⟩,(show List.Nodup ([224,237,238,240,244]:g0) by decide),FT⟩,du OD uD (Wf ZD),du RD GD (Wf eE),du wD tD (Wf XD),du HD QD (Wf KD),du YD JD (Wf VD),W.mg_of X G sX,du pF nR (Wf tG),⟨_,pF,rfl,rfl⟩,W.mg_none_of X G z0,W.mg_none_of X G z1,W.mg_none_of X G z2,W.mg_none_of X G z3,W.mg_none_of X G z4,W.mg_none_of X G z5,W.mg_none_of X G z6,W.mg_none_of X G z7,W.mg_none_of X G z8,W.mg_none_of X G z9,W.mg_none_of X G oY,W.mg_none_of X G PX⟩⟩
def walk {l:PySem.W.OpenLaw} {q:Program} {b:List Str} {v:(Str->Option Value)->Heap->Prop} {j:World->Heap->Prop} {d:DefRec} {K:Params->PySem.W.Frag} (r:l.most=some 63) (i:d.params.defaults=[]) (g:d.name = "law")
 (hY:∀(w:World) (h:Heap),j w h->(K w.params).In h)
 (F:∀(w:World) (mg:Str->Option Value) (h:Heap),(K w.params).In h->h.Ns mainGlobals mg->∃t,Txt w (K w.params) mg t) :
 PySem.W.WalkO q b v j l.row.toRowW d [] (λf vs=>PySem.call f vs):=by
 refine L2.walk_of (n:=63) (k:=14) (x := "_law_script") (CX:=λ_=>bD) (sp:=λw=>tI (K w.params)) r (by decide) i ⟨rfl,by decide,by decide⟩ hY (λw mg L h p G c=>?_) (λ_ _ a ns hl _ hS=>⟨a,rfl,ns,hS,hl,λ_=>rfl⟩) λ_ _ _ _ _ z=>z;obtain⟨t,T⟩:=F w mg h p G;rw[g]at c;have e:=c.symm.trans T.DU;cases e;obtain⟨J,M,kV,m,D,I,o,ct,B,C,lk,y⟩:=T.Ak.ex;refine⟨t.qg,λs u=>?_,λbase _ _=>(OL (P:=l.prog) (w:=w) (base:=base) T).ok⟩;rw[C];exact .of_eq Z
end My
theorem PySem.W.Fast.tw10003047139367656006:True:=⟨⟩
theorem PySem.W.Fast.tw10030983808275411151:True:=⟨⟩
theorem PySem.W.Fast.tw10040133846109349292:True:=⟨⟩
theorem PySem.W.Fast.tw10059879204309898774:True:=⟨⟩
theorem PySem.W.Fast.tw10069498206701927162:True:=⟨⟩
theorem PySem.W.Fast.tw10070453583626968252:True:=⟨⟩
theorem PySem.W.Fast.tw1012246385778200021:True:=⟨⟩
theorem PySem.W.Fast.tw10133870980540711123:True:=⟨⟩
theorem PySem.W.Fast.tw10133993885952437874:True:=⟨⟩
theorem PySem.W.Fast.tw10211193014186588214:True:=⟨⟩
theorem PySem.W.Fast.tw10220263893716677361:True:=⟨⟩
theorem PySem.W.Fast.tw10249388823836437419:True:=⟨⟩
theorem PySem.W.Fast.tw10253171628449933338:True:=⟨⟩
theorem PySem.W.Fast.tw10266325592926188519:True:=⟨⟩
theorem PySem.W.Fast.tw10272151737419108043:True:=⟨⟩
theorem PySem.W.Fast.tw10277699875759463742:True:=⟨⟩
theorem PySem.W.Fast.tw1029891267936498391:True:=⟨⟩
theorem PySem.W.Fast.tw10306208288263017842:True:=⟨⟩
theorem PySem.W.Fast.tw10337774018891096948:True:=⟨⟩
theorem PySem.W.Fast.tw10341734245653289336:True:=⟨⟩
theorem PySem.W.Fast.tw10345259834692193983:True:=⟨⟩
theorem PySem.W.Fast.tw10366255714925872296:True:=⟨⟩
theorem PySem.W.Fast.tw10368375763757002171:True:=⟨⟩
theorem PySem.W.Fast.tw10379111899581167903:True:=⟨⟩
theorem PySem.W.Fast.tw10459287376182672969:True:=⟨⟩
theorem PySem.W.Fast.tw10474029934970596640:True:=⟨⟩
theorem PySem.W.Fast.tw10486778287955875781:True:=⟨⟩
theorem PySem.W.Fast.tw10523572518822675870:True:=⟨⟩
theorem PySem.W.Fast.tw1055298597230454320:True:=⟨⟩
theorem PySem.W.Fast.tw10566257430810873634:True:=⟨⟩
theorem PySem.W.Fast.tw10571567016958031436:True:=⟨⟩
theorem PySem.W.Fast.tw10601175734068898489:True:=⟨⟩
theorem PySem.W.Fast.tw10641542526477743408:True:=⟨⟩
theorem PySem.W.Fast.tw10661449205679066224:True:=⟨⟩
theorem PySem.W.Fast.tw10687462793915203667:True:=⟨⟩
theorem PySem.W.Fast.tw10690599809155028996:True:=⟨⟩
theorem PySem.W.Fast.tw10696390183468881559:True:=⟨⟩
theorem PySem.W.Fast.tw1071689669173434683:True:=⟨⟩
theorem PySem.W.Fast.tw10748125684707038534:True:=⟨⟩
theorem PySem.W.Fast.tw10777568690011456882:True:=⟨⟩
theorem PySem.W.Fast.tw10787782550653497417:True:=⟨⟩
theorem PySem.W.Fast.tw10790431191708978140:True:=⟨⟩
theorem PySem.W.Fast.tw108507859075306417:True:=⟨⟩
theorem PySem.W.Fast.tw10894821745554532018:True:=⟨⟩
theorem PySem.W.Fast.tw10902188064375731081:True:=⟨⟩
theorem PySem.W.Fast.tw10920411964722348633:True:=⟨⟩
theorem PySem.W.Fast.tw10933420420188032496:True:=⟨⟩
theorem PySem.W.Fast.tw10966210550608969483:True:=⟨⟩
theorem PySem.W.Fast.tw10970265261486483056:True:=⟨⟩
theorem PySem.W.Fast.tw11015592782943093224:True:=⟨⟩
theorem PySem.W.Fast.tw11024305237178082614:True:=⟨⟩
theorem PySem.W.Fast.tw11027862838479178669:True:=⟨⟩
theorem PySem.W.Fast.tw11039467950613741641:True:=⟨⟩
theorem PySem.W.Fast.tw11043074570382074207:True:=⟨⟩
theorem PySem.W.Fast.tw1106540320217972311:True:=⟨⟩
theorem PySem.W.Fast.tw11112111006017371736:True:=⟨⟩
theorem PySem.W.Fast.tw1112877213432089904:True:=⟨⟩
theorem PySem.W.Fast.tw11138342117216814590:True:=⟨⟩
theorem PySem.W.Fast.tw11150565338265014581:True:=⟨⟩
theorem PySem.W.Fast.tw11168845700498206303:True:=⟨⟩
theorem PySem.W.Fast.tw11176232016088092212:True:=⟨⟩
theorem PySem.W.Fast.tw11226924840678503644:True:=⟨⟩
theorem PySem.W.Fast.tw11231970781224065302:True:=⟨⟩
theorem PySem.W.Fast.tw11236849029113712514:True:=⟨⟩
theorem PySem.W.Fast.tw1125044183713998843:True:=⟨⟩
theorem PySem.W.Fast.tw11341584704183084008:True:=⟨⟩
theorem PySem.W.Fast.tw11355843073329049717:True:=⟨⟩
theorem PySem.W.Fast.tw11371776020246799977:True:=⟨⟩
theorem PySem.W.Fast.tw11388933366277493104:True:=⟨⟩
theorem PySem.W.Fast.tw11440987579648181960:True:=⟨⟩
theorem PySem.W.Fast.tw11462475197812364560:True:=⟨⟩
theorem PySem.W.Fast.tw11510681879431395807:True:=⟨⟩
theorem PySem.W.Fast.tw11524095771035072207:True:=⟨⟩
theorem PySem.W.Fast.tw1161843399581370893:True:=⟨⟩
theorem PySem.W.Fast.tw11678577792213718524:True:=⟨⟩
theorem PySem.W.Fast.tw11682425206099387299:True:=⟨⟩
theorem PySem.W.Fast.tw11699850686514540130:True:=⟨⟩
theorem PySem.W.Fast.tw11717015383277394731:True:=⟨⟩
theorem PySem.W.Fast.tw11725219011443671597:True:=⟨⟩
theorem PySem.W.Fast.tw11734224282858750778:True:=⟨⟩
theorem PySem.W.Fast.tw11766910185441707095:True:=⟨⟩
theorem PySem.W.Fast.tw11797486899772020567:True:=⟨⟩
theorem PySem.W.Fast.tw11800534073618084340:True:=⟨⟩
theorem PySem.W.Fast.tw11809350247355218724:True:=⟨⟩
theorem PySem.W.Fast.tw11834821396549283564:True:=⟨⟩
theorem PySem.W.Fast.tw11869167271180771075:True:=⟨⟩
theorem PySem.W.Fast.tw11917552317629983038:True:=⟨⟩
theorem PySem.W.Fast.tw11947461154159062518:True:=⟨⟩
theorem PySem.W.Fast.tw11956513171816794390:True:=⟨⟩
theorem PySem.W.Fast.tw11998689441184956671:True:=⟨⟩
theorem PySem.W.Fast.tw12003489312676379766:True:=⟨⟩
theorem PySem.W.Fast.tw12011954985437911278:True:=⟨⟩
theorem PySem.W.Fast.tw12034893076958774718:True:=⟨⟩
theorem PySem.W.Fast.tw12055639840021083933:True:=⟨⟩
theorem PySem.W.Fast.tw12062843663859986878:True:=⟨⟩
theorem PySem.W.Fast.tw12082033126739125742:True:=⟨⟩
theorem PySem.W.Fast.tw12101618552057943065:True:=⟨⟩
theorem PySem.W.Fast.tw12125360566450312433:True:=⟨⟩
theorem PySem.W.Fast.tw12149815943636648084:True:=⟨⟩
theorem PySem.W.Fast.tw12154421795787510178:True:=⟨⟩
theorem PySem.W.Fast.tw12168363279100758683:True:=⟨⟩
theorem PySem.W.Fast.tw12207025364159436472:True:=⟨⟩
theorem PySem.W.Fast.tw1221440028008149315:True:=⟨⟩
theorem PySem.W.Fast.tw12221512693959025110:True:=⟨⟩
theorem PySem.W.Fast.tw12237321056226985952:True:=⟨⟩
theorem PySem.W.Fast.tw122615224263706298:True:=⟨⟩
theorem PySem.W.Fast.tw12270390055762120683:True:=⟨⟩
theorem PySem.W.Fast.tw12279255044613918663:True:=⟨⟩
theorem PySem.W.Fast.tw12290130755331854400:True:=⟨⟩
theorem PySem.W.Fast.tw12293534512290536896:True:=⟨⟩
theorem PySem.W.Fast.tw12321568432158390900:True:=⟨⟩
theorem PySem.W.Fast.tw12333841754123722067:True:=⟨⟩
theorem PySem.W.Fast.tw12366267212564732233:True:=⟨⟩
theorem PySem.W.Fast.tw12452614660522685155:True:=⟨⟩
theorem PySem.W.Fast.tw12519464712724703723:True:=⟨⟩
theorem PySem.W.Fast.tw12581329947937400106:True:=⟨⟩
theorem PySem.W.Fast.tw12601605400364909253:True:=⟨⟩
theorem PySem.W.Fast.tw12623316146467860372:True:=⟨⟩
theorem PySem.W.Fast.tw12689339221517701377:True:=⟨⟩
theorem PySem.W.Fast.tw12711629897506813404:True:=⟨⟩
theorem PySem.W.Fast.tw12751270490259060221:True:=⟨⟩
theorem PySem.W.Fast.tw12760842938831658613:True:=⟨⟩
theorem PySem.W.Fast.tw12786074159267678677:True:=⟨⟩
theorem PySem.W.Fast.tw12794061229310332079:True:=⟨⟩
theorem PySem.W.Fast.tw12811824829752602123:True:=⟨⟩
theorem PySem.W.Fast.tw12833390899619300016:True:=⟨⟩
theorem PySem.W.Fast.tw12888344473876693307:True:=⟨⟩
theorem PySem.W.Fast.tw12912770092836774387:True:=⟨⟩
theorem PySem.W.Fast.tw12957738807260134663:True:=⟨⟩
theorem PySem.W.Fast.tw12973671381905897449:True:=⟨⟩
theorem PySem.W.Fast.tw12977485184323232590:True:=⟨⟩
theorem PySem.W.Fast.tw12983652163321084213:True:=⟨⟩
theorem PySem.W.Fast.tw13070497986278922456:True:=⟨⟩
theorem PySem.W.Fast.tw13095335938130630491:True:=⟨⟩
theorem PySem.W.Fast.tw1316204241556461123:True:=⟨⟩
theorem PySem.W.Fast.tw13207409367625029348:True:=⟨⟩
theorem PySem.W.Fast.tw13238651552227349166:True:=⟨⟩
theorem PySem.W.Fast.tw1326654048048854913:True:=⟨⟩
theorem PySem.W.Fast.tw1330483611354603010:True:=⟨⟩
theorem PySem.W.Fast.tw13320767527183472560:True:=⟨⟩
theorem PySem.W.Fast.tw13327175106628325668:True:=⟨⟩
theorem PySem.W.Fast.tw13346976482395653366:True:=⟨⟩
theorem PySem.W.Fast.tw13415891711037479181:True:=⟨⟩
theorem PySem.W.Fast.tw13504921012269759729:True:=⟨⟩
theorem PySem.W.Fast.tw13515426975051027508:True:=⟨⟩
theorem PySem.W.Fast.tw13520567823886513112:True:=⟨⟩
theorem PySem.W.Fast.tw13526079564228675225:True:=⟨⟩
theorem PySem.W.Fast.tw13565528604194150339:True:=⟨⟩
theorem PySem.W.Fast.tw13572537147341329188:True:=⟨⟩
theorem PySem.W.Fast.tw13623125313993471797:True:=⟨⟩
theorem PySem.W.Fast.tw13680087237859962030:True:=⟨⟩
theorem PySem.W.Fast.tw13690419083607199480:True:=⟨⟩
theorem PySem.W.Fast.tw13721798016700640806:True:=⟨⟩
theorem PySem.W.Fast.tw13740180348192351841:True:=⟨⟩
theorem PySem.W.Fast.tw13754956294351224136:True:=⟨⟩
theorem PySem.W.Fast.tw13779021567836071644:True:=⟨⟩
theorem PySem.W.Fast.tw13781899501590655209:True:=⟨⟩
theorem PySem.W.Fast.tw13789483909228069071:True:=⟨⟩
theorem PySem.W.Fast.tw1380819430067060435:True:=⟨⟩
theorem PySem.W.Fast.tw13831103173799056545:True:=⟨⟩
theorem PySem.W.Fast.tw13866122604269787429:True:=⟨⟩
theorem PySem.W.Fast.tw13886858172120163043:True:=⟨⟩
theorem PySem.W.Fast.tw1389881056535166821:True:=⟨⟩
theorem PySem.W.Fast.tw13901486859397537227:True:=⟨⟩
theorem PySem.W.Fast.tw1391601548443348930:True:=⟨⟩
theorem PySem.W.Fast.tw13943437207852941866:True:=⟨⟩
theorem PySem.W.Fast.tw13959562578294894217:True:=⟨⟩
theorem PySem.W.Fast.tw1396203920917976040:True:=⟨⟩
theorem PySem.W.Fast.tw13977593891356438966:True:=⟨⟩
theorem PySem.W.Fast.tw14000115085688149736:True:=⟨⟩
theorem PySem.W.Fast.tw14004539435397290936:True:=⟨⟩
theorem PySem.W.Fast.tw14038035127378874702:True:=⟨⟩
theorem PySem.W.Fast.tw14074592978140247086:True:=⟨⟩
theorem PySem.W.Fast.tw14111094879816692161:True:=⟨⟩
theorem PySem.W.Fast.tw14120264011911986889:True:=⟨⟩
theorem PySem.W.Fast.tw14125960482912497850:True:=⟨⟩
theorem PySem.W.Fast.tw14127724919927787724:True:=⟨⟩
theorem PySem.W.Fast.tw14170660078930533135:True:=⟨⟩
theorem PySem.W.Fast.tw14179259322601407508:True:=⟨⟩
theorem PySem.W.Fast.tw14186680200330210647:True:=⟨⟩
theorem PySem.W.Fast.tw14199109585103971822:True:=⟨⟩
theorem PySem.W.Fast.tw14212615602360680074:True:=⟨⟩
theorem PySem.W.Fast.tw14228456767433260972:True:=⟨⟩
theorem PySem.W.Fast.tw14322624868051691172:True:=⟨⟩
theorem PySem.W.Fast.tw14336488067570344479:True:=⟨⟩
theorem PySem.W.Fast.tw14337757535537162234:True:=⟨⟩
theorem PySem.W.Fast.tw14346371626144684998:True:=⟨⟩
theorem PySem.W.Fast.tw14395438067641201679:True:=⟨⟩
theorem PySem.W.Fast.tw14401112451219726657:True:=⟨⟩
theorem PySem.W.Fast.tw14424116636742166574:True:=⟨⟩
theorem PySem.W.Fast.tw14470578840386754326:True:=⟨⟩
theorem PySem.W.Fast.tw1448985214520617660:True:=⟨⟩
theorem PySem.W.Fast.tw14530155602608881629:True:=⟨⟩
theorem PySem.W.Fast.tw14532459395110574074:True:=⟨⟩
theorem PySem.W.Fast.tw14539226171391051582:True:=⟨⟩
theorem PySem.W.Fast.tw14541053511624911295:True:=⟨⟩
theorem PySem.W.Fast.tw14550983327488628718:True:=⟨⟩
theorem PySem.W.Fast.tw14604677173356496407:True:=⟨⟩
theorem PySem.W.Fast.tw14624364689017479083:True:=⟨⟩
theorem PySem.W.Fast.tw14642246843139903977:True:=⟨⟩
theorem PySem.W.Fast.tw14712909899077023552:True:=⟨⟩
theorem PySem.W.Fast.tw14720071776628873755:True:=⟨⟩
theorem PySem.W.Fast.tw14725174757854146928:True:=⟨⟩
theorem PySem.W.Fast.tw14743031412255560694:True:=⟨⟩
theorem PySem.W.Fast.tw14744626258101898065:True:=⟨⟩
theorem PySem.W.Fast.tw14752469597503142940:True:=⟨⟩
theorem PySem.W.Fast.tw14791919434272567014:True:=⟨⟩
theorem PySem.W.Fast.tw14793411448342086983:True:=⟨⟩
theorem PySem.W.Fast.tw14855888630495175022:True:=⟨⟩
theorem PySem.W.Fast.tw1487970577856781020:True:=⟨⟩
theorem PySem.W.Fast.tw14891855263766145735:True:=⟨⟩
theorem PySem.W.Fast.tw14912090120645200338:True:=⟨⟩
theorem PySem.W.Fast.tw1491245907055828748:True:=⟨⟩
theorem PySem.W.Fast.tw14942818546019949832:True:=⟨⟩
theorem PySem.W.Fast.tw14960699456542171769:True:=⟨⟩
theorem PySem.W.Fast.tw14996900168390943085:True:=⟨⟩
theorem PySem.W.Fast.tw15029529785242260974:True:=⟨⟩
theorem PySem.W.Fast.tw15044128977742013434:True:=⟨⟩
theorem PySem.W.Fast.tw15196503487251008511:True:=⟨⟩
theorem PySem.W.Fast.tw15214129641594247441:True:=⟨⟩
theorem PySem.W.Fast.tw15261455250736970464:True:=⟨⟩
theorem PySem.W.Fast.tw15276288282756501044:True:=⟨⟩
theorem PySem.W.Fast.tw15296579639340883890:True:=⟨⟩
theorem PySem.W.Fast.tw15322665912630991847:True:=⟨⟩
theorem PySem.W.Fast.tw15329342902744303876:True:=⟨⟩
theorem PySem.W.Fast.tw15429604238350026379:True:=⟨⟩
theorem PySem.W.Fast.tw15465808105131022151:True:=⟨⟩
theorem PySem.W.Fast.tw1548981807151824870:True:=⟨⟩
theorem PySem.W.Fast.tw15495165293114526031:True:=⟨⟩
theorem PySem.W.Fast.tw1552029362313341457:True:=⟨⟩
theorem PySem.W.Fast.tw15523592824190140856:True:=⟨⟩
theorem PySem.W.Fast.tw15538614004679429685:True:=⟨⟩
theorem PySem.W.Fast.tw15609263868768839268:True:=⟨⟩
theorem PySem.W.Fast.tw15669824957281961659:True:=⟨⟩
theorem PySem.W.Fast.tw15685614260570848078:True:=⟨⟩
theorem PySem.W.Fast.tw15700420438573813225:True:=⟨⟩
theorem PySem.W.Fast.tw15704308697945676090:True:=⟨⟩
theorem PySem.W.Fast.tw15723589496930359769:True:=⟨⟩
theorem PySem.W.Fast.tw15761723824333096493:True:=⟨⟩
theorem PySem.W.Fast.tw15787036172434243470:True:=⟨⟩
theorem PySem.W.Fast.tw15802075366574882758:True:=⟨⟩
theorem PySem.W.Fast.tw15823937497332242092:True:=⟨⟩
theorem PySem.W.Fast.tw15829410915406407769:True:=⟨⟩
theorem PySem.W.Fast.tw1590548697618943258:True:=⟨⟩
theorem PySem.W.Fast.tw1590560291621725398:True:=⟨⟩
theorem PySem.W.Fast.tw15916720974256401284:True:=⟨⟩
theorem PySem.W.Fast.tw15932221494087580771:True:=⟨⟩
theorem PySem.W.Fast.tw15934334087679596609:True:=⟨⟩
theorem PySem.W.Fast.tw15938220095734999123:True:=⟨⟩
theorem PySem.W.Fast.tw15945218017148264123:True:=⟨⟩
theorem PySem.W.Fast.tw15991146932993645641:True:=⟨⟩
theorem PySem.W.Fast.tw15996347523838564455:True:=⟨⟩
theorem PySem.W.Fast.tw16021040525823743463:True:=⟨⟩
theorem PySem.W.Fast.tw16042074411659292834:True:=⟨⟩
theorem PySem.W.Fast.tw16050903654465783387:True:=⟨⟩
theorem PySem.W.Fast.tw16074685463230266577:True:=⟨⟩
theorem PySem.W.Fast.tw16099326648399879730:True:=⟨⟩
theorem PySem.W.Fast.tw1611020504909529033:True:=⟨⟩
theorem PySem.W.Fast.tw16127738456728766229:True:=⟨⟩
theorem PySem.W.Fast.tw16149134220243488814:True:=⟨⟩
theorem PySem.W.Fast.tw16167323277455175153:True:=⟨⟩
theorem PySem.W.Fast.tw16171076765692428416:True:=⟨⟩
theorem PySem.W.Fast.tw16223142400890300242:True:=⟨⟩
theorem PySem.W.Fast.tw16229225406044297105:True:=⟨⟩
theorem PySem.W.Fast.tw1623869705439066657:True:=⟨⟩
theorem PySem.W.Fast.tw1624445240496074870:True:=⟨⟩
theorem PySem.W.Fast.tw16286734032178051115:True:=⟨⟩
theorem PySem.W.Fast.tw16343760490131750753:True:=⟨⟩
theorem PySem.W.Fast.tw16345821559084357873:True:=⟨⟩
theorem PySem.W.Fast.tw16358124228607210693:True:=⟨⟩
theorem PySem.W.Fast.tw16363515923036638167:True:=⟨⟩
theorem PySem.W.Fast.tw16366594575304028112:True:=⟨⟩
theorem PySem.W.Fast.tw1642152157824967958:True:=⟨⟩
theorem PySem.W.Fast.tw16468338197964401768:True:=⟨⟩
theorem PySem.W.Fast.tw16480441412663386084:True:=⟨⟩
theorem PySem.W.Fast.tw16484307668055831357:True:=⟨⟩
theorem PySem.W.Fast.tw16484603720316573017:True:=⟨⟩
theorem PySem.W.Fast.tw16535011247349886855:True:=⟨⟩
theorem PySem.W.Fast.tw16634650071540355445:True:=⟨⟩
theorem PySem.W.Fast.tw16666183339082315850:True:=⟨⟩
theorem PySem.W.Fast.tw16671902916349815212:True:=⟨⟩
theorem PySem.W.Fast.tw16674449101261848329:True:=⟨⟩
theorem PySem.W.Fast.tw16686112285055340869:True:=⟨⟩
theorem PySem.W.Fast.tw16765305241730822578:True:=⟨⟩
theorem PySem.W.Fast.tw16768730033274668750:True:=⟨⟩
theorem PySem.W.Fast.tw16770077629237130053:True:=⟨⟩
theorem PySem.W.Fast.tw16783936908358667232:True:=⟨⟩
theorem PySem.W.Fast.tw16785801323992263190:True:=⟨⟩
theorem PySem.W.Fast.tw16794680710344756058:True:=⟨⟩
theorem PySem.W.Fast.tw16821724200357527861:True:=⟨⟩
theorem PySem.W.Fast.tw16869684760909634590:True:=⟨⟩
theorem PySem.W.Fast.tw16874914587451661817:True:=⟨⟩
theorem PySem.W.Fast.tw16918935890713856459:True:=⟨⟩
theorem PySem.W.Fast.tw17028122298663705621:True:=⟨⟩
theorem PySem.W.Fast.tw17103883543163621325:True:=⟨⟩
theorem PySem.W.Fast.tw17123884057921508373:True:=⟨⟩
theorem PySem.W.Fast.tw17141688235329280303:True:=⟨⟩
theorem PySem.W.Fast.tw17227477325393671412:True:=⟨⟩
theorem PySem.W.Fast.tw17256768273754537981:True:=⟨⟩
theorem PySem.W.Fast.tw17267848066653295324:True:=⟨⟩
theorem PySem.W.Fast.tw17303925809549515339:True:=⟨⟩
theorem PySem.W.Fast.tw17337606899749559490:True:=⟨⟩
theorem PySem.W.Fast.tw17369078333010187774:True:=⟨⟩
theorem PySem.W.Fast.tw17440872928004573794:True:=⟨⟩
theorem PySem.W.Fast.tw17466801845562179061:True:=⟨⟩
theorem PySem.W.Fast.tw17486725041799725587:True:=⟨⟩
theorem PySem.W.Fast.tw17500157975212443417:True:=⟨⟩
theorem PySem.W.Fast.tw17595359127394798073:True:=⟨⟩
theorem PySem.W.Fast.tw17618018369249859408:True:=⟨⟩
theorem PySem.W.Fast.tw17619668580836260750:True:=⟨⟩
theorem PySem.W.Fast.tw17634290336021358563:True:=⟨⟩
theorem PySem.W.Fast.tw17655936813853544415:True:=⟨⟩
theorem PySem.W.Fast.tw1767500833409543215:True:=⟨⟩
theorem PySem.W.Fast.tw1768263618789267819:True:=⟨⟩
theorem PySem.W.Fast.tw17685532553905264840:True:=⟨⟩
theorem PySem.W.Fast.tw17688369592196076519:True:=⟨⟩
theorem PySem.W.Fast.tw17712012468968697650:True:=⟨⟩
theorem PySem.W.Fast.tw17752828816291207891:True:=⟨⟩
theorem PySem.W.Fast.tw17807021084811006568:True:=⟨⟩
theorem PySem.W.Fast.tw1783345971217687495:True:=⟨⟩
theorem PySem.W.Fast.tw17855634834269438237:True:=⟨⟩
theorem PySem.W.Fast.tw17877744068628030123:True:=⟨⟩
theorem PySem.W.Fast.tw17881693305970298220:True:=⟨⟩
theorem PySem.W.Fast.tw17919164879687209726:True:=⟨⟩
theorem PySem.W.Fast.tw17934394356280676045:True:=⟨⟩
theorem PySem.W.Fast.tw17934763679035155441:True:=⟨⟩
theorem PySem.W.Fast.tw17961613659573734191:True:=⟨⟩
theorem PySem.W.Fast.tw17966803586512339805:True:=⟨⟩
theorem PySem.W.Fast.tw18011618759091454782:True:=⟨⟩
theorem PySem.W.Fast.tw18013395247411156967:True:=⟨⟩
theorem PySem.W.Fast.tw18021522433983253798:True:=⟨⟩
theorem PySem.W.Fast.tw18043915143673981361:True:=⟨⟩
theorem PySem.W.Fast.tw18051049717655075420:True:=⟨⟩
theorem PySem.W.Fast.tw18062588350239745357:True:=⟨⟩
theorem PySem.W.Fast.tw18123796587614802039:True:=⟨⟩
theorem PySem.W.Fast.tw18136783662021528290:True:=⟨⟩
theorem PySem.W.Fast.tw1815362252226650026:True:=⟨⟩
theorem PySem.W.Fast.tw18165839867009606432:True:=⟨⟩
theorem PySem.W.Fast.tw18185264274439476259:True:=⟨⟩
theorem PySem.W.Fast.tw18245231224852826337:True:=⟨⟩
theorem PySem.W.Fast.tw18283282817209274736:True:=⟨⟩
theorem PySem.W.Fast.tw18283621087126009569:True:=⟨⟩
theorem PySem.W.Fast.tw18355393450632167205:True:=⟨⟩
theorem PySem.W.Fast.tw18361244862925579074:True:=⟨⟩
theorem PySem.W.Fast.tw18382447750799767691:True:=⟨⟩
theorem PySem.W.Fast.tw18385842698710572127:True:=⟨⟩
theorem PySem.W.Fast.tw18405325545108419905:True:=⟨⟩
theorem PySem.W.Fast.tw18435787314453609876:True:=⟨⟩
theorem PySem.W.Fast.tw1886257435310939839:True:=⟨⟩
theorem PySem.W.Fast.tw1891325210844993073:True:=⟨⟩
theorem PySem.W.Fast.tw1892430301217744316:True:=⟨⟩
theorem PySem.W.Fast.tw1894379694952315604:True:=⟨⟩
theorem PySem.W.Fast.tw1907552605526889933:True:=⟨⟩
theorem PySem.W.Fast.tw1975560157659637895:True:=⟨⟩
theorem PySem.W.Fast.tw1986540444356292180:True:=⟨⟩
theorem PySem.W.Fast.tw2015858920153387968:True:=⟨⟩
theorem PySem.W.Fast.tw2017469893091464630:True:=⟨⟩
theorem PySem.W.Fast.tw2045309832765209965:True:=⟨⟩
theorem PySem.W.Fast.tw2064794754337400555:True:=⟨⟩
theorem PySem.W.Fast.tw2065964205182484052:True:=⟨⟩
theorem PySem.W.Fast.tw2085020869007648839:True:=⟨⟩
theorem PySem.W.Fast.tw2099626538602564045:True:=⟨⟩
theorem PySem.W.Fast.tw2101392686441399652:True:=⟨⟩
theorem PySem.W.Fast.tw2113380531827061163:True:=⟨⟩
theorem PySem.W.Fast.tw2143823558041114454:True:=⟨⟩
theorem PySem.W.Fast.tw2171735477796392514:True:=⟨⟩
theorem PySem.W.Fast.tw219872335736335177:True:=⟨⟩
theorem PySem.W.Fast.tw2207715404248023636:True:=⟨⟩
theorem PySem.W.Fast.tw2258026494573193188:True:=⟨⟩
theorem PySem.W.Fast.tw2259822595187331842:True:=⟨⟩
theorem PySem.W.Fast.tw2279712408809674836:True:=⟨⟩
theorem PySem.W.Fast.tw2315049327251720672:True:=⟨⟩
theorem PySem.W.Fast.tw2357896669845258754:True:=⟨⟩
theorem PySem.W.Fast.tw243399781497402935:True:=⟨⟩
theorem PySem.W.Fast.tw2484593872701569885:True:=⟨⟩
theorem PySem.W.Fast.tw249402423412875094:True:=⟨⟩
theorem PySem.W.Fast.tw2506809666782545232:True:=⟨⟩
theorem PySem.W.Fast.tw2537330565037757749:True:=⟨⟩
theorem PySem.W.Fast.tw2583278506757436968:True:=⟨⟩
theorem PySem.W.Fast.tw2595295733103684553:True:=⟨⟩
theorem PySem.W.Fast.tw2627190939473464776:True:=⟨⟩
theorem PySem.W.Fast.tw2641284139707099406:True:=⟨⟩
theorem PySem.W.Fast.tw2651856868110985867:True:=⟨⟩
theorem PySem.W.Fast.tw2681694571916844900:True:=⟨⟩
theorem PySem.W.Fast.tw2701857232052303177:True:=⟨⟩
theorem PySem.W.Fast.tw2705465145130995415:True:=⟨⟩
theorem PySem.W.Fast.tw2719890629625424298:True:=⟨⟩
theorem PySem.W.Fast.tw272395365722494410:True:=⟨⟩
theorem PySem.W.Fast.tw2760974443568671587:True:=⟨⟩
theorem PySem.W.Fast.tw2792953481700614566:True:=⟨⟩
theorem PySem.W.Fast.tw2800791115840198647:True:=⟨⟩
theorem PySem.W.Fast.tw2848367050834749806:True:=⟨⟩
theorem PySem.W.Fast.tw2853271120075880425:True:=⟨⟩
theorem PySem.W.Fast.tw2853925647121371937:True:=⟨⟩
theorem PySem.W.Fast.tw2872553561815382388:True:=⟨⟩
theorem PySem.W.Fast.tw2904470159468395413:True:=⟨⟩
theorem PySem.W.Fast.tw2905039103349490647:True:=⟨⟩
theorem PySem.W.Fast.tw2965045627124274836:True:=⟨⟩
theorem PySem.W.Fast.tw297515220202515484:True:=⟨⟩
theorem PySem.W.Fast.tw2975774071595743963:True:=⟨⟩
theorem PySem.W.Fast.tw2982817299267991197:True:=⟨⟩
theorem PySem.W.Fast.tw2989544113215064636:True:=⟨⟩
theorem PySem.W.Fast.tw2991625774607740893:True:=⟨⟩
theorem PySem.W.Fast.tw2994484735892926410:True:=⟨⟩
theorem PySem.W.Fast.tw3003293166499200890:True:=⟨⟩
theorem PySem.W.Fast.tw3027548288324891321:True:=⟨⟩
theorem PySem.W.Fast.tw3042834152472316841:True:=⟨⟩
theorem PySem.W.Fast.tw3048087640780074322:True:=⟨⟩
theorem PySem.W.Fast.tw3081816444220439853:True:=⟨⟩
theorem PySem.W.Fast.tw3101733322125550109:True:=⟨⟩
theorem PySem.W.Fast.tw3127291333561718709:True:=⟨⟩
theorem PySem.W.Fast.tw3190766584784405961:True:=⟨⟩
theorem PySem.W.Fast.tw32541923782470214:True:=⟨⟩
theorem PySem.W.Fast.tw3289082349027206300:True:=⟨⟩
theorem PySem.W.Fast.tw336300301975945233:True:=⟨⟩
theorem PySem.W.Fast.tw3430464191447358453:True:=⟨⟩
theorem PySem.W.Fast.tw3452248005500493105:True:=⟨⟩
theorem PySem.W.Fast.tw3467017345084377244:True:=⟨⟩
theorem PySem.W.Fast.tw3467978037132203768:True:=⟨⟩
theorem PySem.W.Fast.tw3497547768772478344:True:=⟨⟩
theorem PySem.W.Fast.tw3569286802342773402:True:=⟨⟩
theorem PySem.W.Fast.tw3596380257934690040:True:=⟨⟩
theorem PySem.W.Fast.tw3651169703025966074:True:=⟨⟩
theorem PySem.W.Fast.tw3691453892679752052:True:=⟨⟩
theorem PySem.W.Fast.tw3702034335519096503:True:=⟨⟩
theorem PySem.W.Fast.tw3713416871571880028:True:=⟨⟩
theorem PySem.W.Fast.tw3732313611900791752:True:=⟨⟩
theorem PySem.W.Fast.tw3741436922124142239:True:=⟨⟩
theorem PySem.W.Fast.tw3791257765431633569:True:=⟨⟩
theorem PySem.W.Fast.tw3793348938803337403:True:=⟨⟩
theorem PySem.W.Fast.tw3805451546223097372:True:=⟨⟩
theorem PySem.W.Fast.tw3807968112893825233:True:=⟨⟩
theorem PySem.W.Fast.tw3841537175915973521:True:=⟨⟩
theorem PySem.W.Fast.tw393817248377217248:True:=⟨⟩
theorem PySem.W.Fast.tw3943206720677008792:True:=⟨⟩
theorem PySem.W.Fast.tw3968447260116925707:True:=⟨⟩
theorem PySem.W.Fast.tw3981988284812044652:True:=⟨⟩
theorem PySem.W.Fast.tw3997260345257213364:True:=⟨⟩
theorem PySem.W.Fast.tw40136673892386091:True:=⟨⟩
theorem PySem.W.Fast.tw4064881620072326580:True:=⟨⟩
theorem PySem.W.Fast.tw4096148468807964287:True:=⟨⟩
theorem PySem.W.Fast.tw4136542617406871085:True:=⟨⟩
theorem PySem.W.Fast.tw4139957803629901766:True:=⟨⟩
theorem PySem.W.Fast.tw4203180875285632318:True:=⟨⟩
theorem PySem.W.Fast.tw4223544773405723181:True:=⟨⟩
theorem PySem.W.Fast.tw4326185977483107606:True:=⟨⟩
theorem PySem.W.Fast.tw435518464760832232:True:=⟨⟩
theorem PySem.W.Fast.tw4416383554745491998:True:=⟨⟩
theorem PySem.W.Fast.tw444009323793499496:True:=⟨⟩
theorem PySem.W.Fast.tw4480493696579805204:True:=⟨⟩
theorem PySem.W.Fast.tw45012413494039243:True:=⟨⟩
theorem PySem.W.Fast.tw4580500193468142994:True:=⟨⟩
theorem PySem.W.Fast.tw4605602321379883865:True:=⟨⟩
theorem PySem.W.Fast.tw4658414550859406801:True:=⟨⟩
theorem PySem.W.Fast.tw4697235419593538864:True:=⟨⟩
theorem PySem.W.Fast.tw4712044828234521952:True:=⟨⟩
theorem PySem.W.Fast.tw4717498875983009625:True:=⟨⟩
theorem PySem.W.Fast.tw4755985840102621137:True:=⟨⟩
theorem PySem.W.Fast.tw4764865844144954624:True:=⟨⟩
theorem PySem.W.Fast.tw4794383092563805737:True:=⟨⟩
theorem PySem.W.Fast.tw4831422492678077186:True:=⟨⟩
theorem PySem.W.Fast.tw4868648564785773320:True:=⟨⟩
theorem PySem.W.Fast.tw4888093776356532765:True:=⟨⟩
theorem PySem.W.Fast.tw4916348670183037753:True:=⟨⟩
theorem PySem.W.Fast.tw4946148399611745674:True:=⟨⟩
theorem PySem.W.Fast.tw4959625816744395840:True:=⟨⟩
theorem PySem.W.Fast.tw5027286431008868354:True:=⟨⟩
theorem PySem.W.Fast.tw5028261579460116619:True:=⟨⟩
theorem PySem.W.Fast.tw5039752712072354681:True:=⟨⟩
theorem PySem.W.Fast.tw5047905806154987360:True:=⟨⟩
theorem PySem.W.Fast.tw505919768495662147:True:=⟨⟩
theorem PySem.W.Fast.tw5095462434494263743:True:=⟨⟩
theorem PySem.W.Fast.tw5105202159177421287:True:=⟨⟩
theorem PySem.W.Fast.tw512556344579491767:True:=⟨⟩
theorem PySem.W.Fast.tw513118095579816400:True:=⟨⟩
theorem PySem.W.Fast.tw5157314595801644491:True:=⟨⟩
theorem PySem.W.Fast.tw5180018869866480150:True:=⟨⟩
theorem PySem.W.Fast.tw5202828948886536650:True:=⟨⟩
theorem PySem.W.Fast.tw5223177131827652351:True:=⟨⟩
theorem PySem.W.Fast.tw5248476126967654407:True:=⟨⟩
theorem PySem.W.Fast.tw5281199857746082305:True:=⟨⟩
theorem PySem.W.Fast.tw5310899457480177792:True:=⟨⟩
theorem PySem.W.Fast.tw5311907767937459547:True:=⟨⟩
theorem PySem.W.Fast.tw5388943977704764467:True:=⟨⟩
theorem PySem.W.Fast.tw5399680617582133792:True:=⟨⟩
theorem PySem.W.Fast.tw5409200390418298275:True:=⟨⟩
theorem PySem.W.Fast.tw5447093808190847760:True:=⟨⟩
theorem PySem.W.Fast.tw5449836551571432978:True:=⟨⟩
theorem PySem.W.Fast.tw5454747350884425656:True:=⟨⟩
theorem PySem.W.Fast.tw5463375563539539126:True:=⟨⟩
theorem PySem.W.Fast.tw5501402232594233939:True:=⟨⟩
theorem PySem.W.Fast.tw5509091731398562393:True:=⟨⟩
theorem PySem.W.Fast.tw551457784906037983:True:=⟨⟩
theorem PySem.W.Fast.tw5518708736295702915:True:=⟨⟩
theorem PySem.W.Fast.tw5548303839870489188:True:=⟨⟩
theorem PySem.W.Fast.tw5687841824914332918:True:=⟨⟩
theorem PySem.W.Fast.tw5731825535149835375:True:=⟨⟩
theorem PySem.W.Fast.tw573997700083503087:True:=⟨⟩
theorem PySem.W.Fast.tw5769577933987511083:True:=⟨⟩
theorem PySem.W.Fast.tw5781237778617590208:True:=⟨⟩
theorem PySem.W.Fast.tw5785415847892485503:True:=⟨⟩
theorem PySem.W.Fast.tw5795054000500346534:True:=⟨⟩
theorem PySem.W.Fast.tw5808054297135658963:True:=⟨⟩
theorem PySem.W.Fast.tw5841634679089708480:True:=⟨⟩
theorem PySem.W.Fast.tw5859623809908999853:True:=⟨⟩
theorem PySem.W.Fast.tw5863564137559602519:True:=⟨⟩
theorem PySem.W.Fast.tw5888546920428165172:True:=⟨⟩
theorem PySem.W.Fast.tw5902195728771011590:True:=⟨⟩
theorem PySem.W.Fast.tw5910681762469722057:True:=⟨⟩
theorem PySem.W.Fast.tw5939807515953131118:True:=⟨⟩
theorem PySem.W.Fast.tw5962577339727553539:True:=⟨⟩
theorem PySem.W.Fast.tw5970560315883597331:True:=⟨⟩
theorem PySem.W.Fast.tw597694160534454941:True:=⟨⟩
theorem PySem.W.Fast.tw5992979195660940144:True:=⟨⟩
theorem PySem.W.Fast.tw6014313973346580390:True:=⟨⟩
theorem PySem.W.Fast.tw6025459681518000397:True:=⟨⟩
theorem PySem.W.Fast.tw6032254082093792329:True:=⟨⟩
theorem PySem.W.Fast.tw6066132174269963214:True:=⟨⟩
theorem PySem.W.Fast.tw6087241980049267554:True:=⟨⟩
theorem PySem.W.Fast.tw611821436444625298:True:=⟨⟩
theorem PySem.W.Fast.tw6128934261888782250:True:=⟨⟩
theorem PySem.W.Fast.tw6132528158250027675:True:=⟨⟩
theorem PySem.W.Fast.tw6142642699578364047:True:=⟨⟩
theorem PySem.W.Fast.tw6147807567624337187:True:=⟨⟩
theorem PySem.W.Fast.tw6199194590790150037:True:=⟨⟩
theorem PySem.W.Fast.tw6219014782277009764:True:=⟨⟩
theorem PySem.W.Fast.tw6262224961011341226:True:=⟨⟩
theorem PySem.W.Fast.tw6284696738438507561:True:=⟨⟩
theorem PySem.W.Fast.tw6314279830697580800:True:=⟨⟩
theorem PySem.W.Fast.tw6342968928621090931:True:=⟨⟩
theorem PySem.W.Fast.tw6346947441271744383:True:=⟨⟩
theorem PySem.W.Fast.tw6348399999338023691:True:=⟨⟩
theorem PySem.W.Fast.tw6402469226976398298:True:=⟨⟩
theorem PySem.W.Fast.tw6469667942576207022:True:=⟨⟩
theorem PySem.W.Fast.tw6490605665645268312:True:=⟨⟩
theorem PySem.W.Fast.tw6501590379272690711:True:=⟨⟩
theorem PySem.W.Fast.tw6525208357127055743:True:=⟨⟩
theorem PySem.W.Fast.tw6597590378316729025:True:=⟨⟩
theorem PySem.W.Fast.tw6604970334848573528:True:=⟨⟩
theorem PySem.W.Fast.tw6681162689872632870:True:=⟨⟩
theorem PySem.W.Fast.tw6692457876369643857:True:=⟨⟩
theorem PySem.W.Fast.tw6695909275220378667:True:=⟨⟩
theorem PySem.W.Fast.tw6722585404336303044:True:=⟨⟩
theorem PySem.W.Fast.tw6724426964123988495:True:=⟨⟩
theorem PySem.W.Fast.tw6724527431312928807:True:=⟨⟩
theorem PySem.W.Fast.tw6736531967274696246:True:=⟨⟩
theorem PySem.W.Fast.tw6747046732792099596:True:=⟨⟩
theorem PySem.W.Fast.tw6781022042203489664:True:=⟨⟩
theorem PySem.W.Fast.tw6796961560474812464:True:=⟨⟩
theorem PySem.W.Fast.tw6806368021473285204:True:=⟨⟩
theorem PySem.W.Fast.tw6845443118327353544:True:=⟨⟩
theorem PySem.W.Fast.tw6870655840783017945:True:=⟨⟩
theorem PySem.W.Fast.tw6909971244266141733:True:=⟨⟩
theorem PySem.W.Fast.tw6949466978512287047:True:=⟨⟩
theorem PySem.W.Fast.tw6964722689039744927:True:=⟨⟩
theorem PySem.W.Fast.tw6981572694994131088:True:=⟨⟩
theorem PySem.W.Fast.tw7000590164546685290:True:=⟨⟩
theorem PySem.W.Fast.tw702094476311704470:True:=⟨⟩
theorem PySem.W.Fast.tw7037450228595195204:True:=⟨⟩
theorem PySem.W.Fast.tw7056190836605381495:True:=⟨⟩
theorem PySem.W.Fast.tw7058869079407108293:True:=⟨⟩
theorem PySem.W.Fast.tw7066420451672714607:True:=⟨⟩
theorem PySem.W.Fast.tw709000010329767244:True:=⟨⟩
theorem PySem.W.Fast.tw71047748032822740:True:=⟨⟩
theorem PySem.W.Fast.tw7203351703313228287:True:=⟨⟩
theorem PySem.W.Fast.tw7210974793507839188:True:=⟨⟩
theorem PySem.W.Fast.tw7249953940999657076:True:=⟨⟩
theorem PySem.W.Fast.tw7264896466954400214:True:=⟨⟩
theorem PySem.W.Fast.tw727566670229360781:True:=⟨⟩
theorem PySem.W.Fast.tw7299603973342600606:True:=⟨⟩
theorem PySem.W.Fast.tw7329236947547934198:True:=⟨⟩
theorem PySem.W.Fast.tw7329774747861912626:True:=⟨⟩
theorem PySem.W.Fast.tw7332056149727570925:True:=⟨⟩
theorem PySem.W.Fast.tw7350504456313560780:True:=⟨⟩
theorem PySem.W.Fast.tw738259014192336425:True:=⟨⟩
theorem PySem.W.Fast.tw7383729126293644234:True:=⟨⟩
theorem PySem.W.Fast.tw7414607549861553811:True:=⟨⟩
theorem PySem.W.Fast.tw7434796194243299661:True:=⟨⟩
theorem PySem.W.Fast.tw7435911789846655431:True:=⟨⟩
theorem PySem.W.Fast.tw744125642971510869:True:=⟨⟩
theorem PySem.W.Fast.tw7472093370727761927:True:=⟨⟩
theorem PySem.W.Fast.tw7473106940336592318:True:=⟨⟩
theorem PySem.W.Fast.tw747719291249202573:True:=⟨⟩
theorem PySem.W.Fast.tw7559971654077057264:True:=⟨⟩
theorem PySem.W.Fast.tw7631296932605255577:True:=⟨⟩
theorem PySem.W.Fast.tw7716985534277083424:True:=⟨⟩
theorem PySem.W.Fast.tw7775596666443412383:True:=⟨⟩
theorem PySem.W.Fast.tw7813576463920791279:True:=⟨⟩
theorem PySem.W.Fast.tw782472491605487098:True:=⟨⟩
theorem PySem.W.Fast.tw7856609926767406534:True:=⟨⟩
theorem PySem.W.Fast.tw7883361219728028536:True:=⟨⟩
theorem PySem.W.Fast.tw7897167010026161712:True:=⟨⟩
theorem PySem.W.Fast.tw7899828023952492293:True:=⟨⟩
theorem PySem.W.Fast.tw7917875545577047451:True:=⟨⟩
theorem PySem.W.Fast.tw7928664350754867132:True:=⟨⟩
theorem PySem.W.Fast.tw7945171988622217417:True:=⟨⟩
theorem PySem.W.Fast.tw8091599934547687878:True:=⟨⟩
theorem PySem.W.Fast.tw8124881684269025808:True:=⟨⟩
theorem PySem.W.Fast.tw8128217145222855974:True:=⟨⟩
theorem PySem.W.Fast.tw815999223542719159:True:=⟨⟩
theorem PySem.W.Fast.tw8193444678033183264:True:=⟨⟩
theorem PySem.W.Fast.tw8222826035345916562:True:=⟨⟩
theorem PySem.W.Fast.tw8233926329022222267:True:=⟨⟩
theorem PySem.W.Fast.tw8251697398242956816:True:=⟨⟩
theorem PySem.W.Fast.tw8334148666563372559:True:=⟨⟩
theorem PySem.W.Fast.tw8367572938703700768:True:=⟨⟩
theorem PySem.W.Fast.tw837150622227428264:True:=⟨⟩
theorem PySem.W.Fast.tw8378963936392949686:True:=⟨⟩
theorem PySem.W.Fast.tw838007479559571204:True:=⟨⟩
theorem PySem.W.Fast.tw8387738230655021295:True:=⟨⟩
theorem PySem.W.Fast.tw8394647736755703302:True:=⟨⟩
theorem PySem.W.Fast.tw8402946038043530852:True:=⟨⟩
theorem PySem.W.Fast.tw841879581666477776:True:=⟨⟩
theorem PySem.W.Fast.tw843795952269416341:True:=⟨⟩
theorem PySem.W.Fast.tw8464445788900428543:True:=⟨⟩
theorem PySem.W.Fast.tw8476279651100862501:True:=⟨⟩
theorem PySem.W.Fast.tw8492868683466860882:True:=⟨⟩
theorem PySem.W.Fast.tw8495211137908072313:True:=⟨⟩
theorem PySem.W.Fast.tw853690811606723646:True:=⟨⟩
theorem PySem.W.Fast.tw8548103661980422895:True:=⟨⟩
theorem PySem.W.Fast.tw8561110016149616572:True:=⟨⟩
theorem PySem.W.Fast.tw8569705647218357055:True:=⟨⟩
theorem PySem.W.Fast.tw8593248506910265032:True:=⟨⟩
theorem PySem.W.Fast.tw8601823640418442332:True:=⟨⟩
theorem PySem.W.Fast.tw8614356165970361611:True:=⟨⟩
theorem PySem.W.Fast.tw8623164583745159861:True:=⟨⟩
theorem PySem.W.Fast.tw8628084521692112852:True:=⟨⟩
theorem PySem.W.Fast.tw8678879113079115746:True:=⟨⟩
theorem PySem.W.Fast.tw869234835064665728:True:=⟨⟩
theorem PySem.W.Fast.tw8708685674442421424:True:=⟨⟩
theorem PySem.W.Fast.tw8713246074747756620:True:=⟨⟩
theorem PySem.W.Fast.tw8727827098906866308:True:=⟨⟩
theorem PySem.W.Fast.tw8752749154179745309:True:=⟨⟩
theorem PySem.W.Fast.tw8761607831368664456:True:=⟨⟩
theorem PySem.W.Fast.tw8767801297822517706:True:=⟨⟩
theorem PySem.W.Fast.tw878146179989043747:True:=⟨⟩
theorem PySem.W.Fast.tw8791291115274408558:True:=⟨⟩
theorem PySem.W.Fast.tw8835214357566394645:True:=⟨⟩
theorem PySem.W.Fast.tw8888071656707733516:True:=⟨⟩
theorem PySem.W.Fast.tw8922358998662979497:True:=⟨⟩
theorem PySem.W.Fast.tw8949033205769712671:True:=⟨⟩
theorem PySem.W.Fast.tw8987398630751178417:True:=⟨⟩
theorem PySem.W.Fast.tw9010088818172370384:True:=⟨⟩
theorem PySem.W.Fast.tw9010340411832269518:True:=⟨⟩
theorem PySem.W.Fast.tw9063058459971757826:True:=⟨⟩
theorem PySem.W.Fast.tw9087293053865837322:True:=⟨⟩
theorem PySem.W.Fast.tw911107872542757429:True:=⟨⟩
theorem PySem.W.Fast.tw9120574297935187092:True:=⟨⟩
theorem PySem.W.Fast.tw9242293213551463949:True:=⟨⟩
theorem PySem.W.Fast.tw926425235770370000:True:=⟨⟩
theorem PySem.W.Fast.tw9303882224724757819:True:=⟨⟩
theorem PySem.W.Fast.tw9305518398472044269:True:=⟨⟩
theorem PySem.W.Fast.tw931924149501216240:True:=⟨⟩
theorem PySem.W.Fast.tw9360186944150512589:True:=⟨⟩
theorem PySem.W.Fast.tw9368141574690475568:True:=⟨⟩
theorem PySem.W.Fast.tw9371820564213720596:True:=⟨⟩
theorem PySem.W.Fast.tw9381791448426820456:True:=⟨⟩
theorem PySem.W.Fast.tw9415188722354080436:True:=⟨⟩
theorem PySem.W.Fast.tw9447707109277099873:True:=⟨⟩
theorem PySem.W.Fast.tw9449191590557935831:True:=⟨⟩
theorem PySem.W.Fast.tw9469978892446273622:True:=⟨⟩
theorem PySem.W.Fast.tw953974886978232470:True:=⟨⟩
theorem PySem.W.Fast.tw956634426014732189:True:=⟨⟩
theorem PySem.W.Fast.tw9611930423558172728:True:=⟨⟩
theorem PySem.W.Fast.tw9622525451765288232:True:=⟨⟩
theorem PySem.W.Fast.tw9624893495577004094:True:=⟨⟩
theorem PySem.W.Fast.tw9649722052944963340:True:=⟨⟩
theorem PySem.W.Fast.tw965166653156140291:True:=⟨⟩
theorem PySem.W.Fast.tw980192004257572885:True:=⟨⟩
theorem PySem.W.Fast.tw9813994565641915802:True:=⟨⟩
theorem PySem.W.Fast.tw9854608029497851932:True:=⟨⟩
theorem PySem.W.Fast.tw9867333242726696578:True:=⟨⟩
theorem PySem.W.Fast.tw9873883952980356079:True:=⟨⟩
theorem PySem.W.Fast.tw9877787138734580864:True:=⟨⟩
theorem PySem.W.Fast.tw9899615017984098078:True:=⟨⟩
theorem PySem.W.Fast.tw9919141418497418402:True:=⟨⟩
theorem PySem.W.Fast.tw995467382926724729:True:=⟨⟩
theorem PySem.W.Fast.tw9957114353972833636:True:=⟨⟩
theorem PySem.W.Fast.tw9999299734155465081:True:=⟨⟩
open PySem PySem.W PyProof.Rows
set_option maxRecDepth 100000 in
set_option maxHeartbeats 0 in
theorem PySem.Challenge.cw_bytetongue_k91_whole_turned_in_pieces_holds : PySem.Challenge.rw_bytetongue_k91_whole_turned_in_pieces.Holds := by
 w_on;o_law;k_head;(case hw=>w_witness2)
 k_fill
 refine My.walk (l:=PySem.Challenge.rw_bytetongue_k91_whole_turned_in_pieces) Z Z Z (λw h Y=>PySem.W.kIn_of Y) ?F
 case F =>
  intro w mg h KX G
  refine' My.txt_mk KX G ?hZ ?lK ?PB ?HB ?QB ?VB ?RB ?YB ?NB ?JB ?fB ?gy ?lS ?lR ?lQ ?lP ?zB ?gB ?iU ?FJ ?XJ ?mX ?aY ?mY ?yA ?qO ?rC ?re ?qD ?x6 ?yk ?xp ?w6 ?wQ ?cC ?xR ?xQ ?xP ?xO ?xN ?xM ?xL ?RX ?tX ?ZW ?BX ?WW ?UW ?lX ?BW ?oX ?eY ?vW ?yX ?QW ?iY ?ZX ?yW ?JX ?JW ?lY ?HX ?sW ?pX ?DW ?fX ?GX ?uW ?rY ?CW ?aX ?DX ?rW ?XX ?IW ?cX ?gY ?tW ?nY ?SX ?pY ?CX ?FW ?uX ?HW ?TX ?dY ?zW ?DK ?tQ ?bQ ?pJ ?yV ?rH ?XQ ?HH ?MT ?gW ?iI ?zJ ?nQ ?CV ?zQ ?rQ ?JT ?dR ?ZS ?CK ?pU ?gO ?VV ?QJ ?lW ?IK ?yN ?lN ?yD ?qR ?rF ?rh ?qH ?ya ?yo ?xu ?xf ?wT ?rB ?xU ?xT ?rK ?aJ ?cT ?RQ ?vR ?UG ?GQ ?VN ?CQ ?NT ?aU ?nT ?bK ?rR ?yz ?qN ?rA ?rc ?qC ?x5 ?yj ?xo ?w5 ?wP ?tB ?xK ?VK ?rT ?vM ?YK ?mH ?uN ?ZV ?cI ?JN ?QF ?XK ?FN ?WN ?yy ?qM ?rq ?qZ ?qB ?xZ ?yi ?xm ?wZ ?wO ?uB ?xJ ?xI ?fL ?zR ?cL ?uQ ?tO ?rP ?sV ?zM ?rU ?nF ?yt ?qI ?rj ?qV ?qx ?xV ?ye ?xi ?wV ?wK ?aC ?xB ?xA ?xz ?xy ?xx ?pL ?gH ?bJ ?ZQ ?yH ?HN ?iK ?dK ?aM ?dN ?JF ?cP ?GP ?BK ?uG ?MF ?BJ ?PP ?oM ?YJ ?dG ?TV ?QM ?aH ?UJ ?yF ?TP ?WT ?wU ?pG ?zF ?sI ?uI ?gK ?aL ?oF ?bR ?JH ?mW ?BR ?dM ?RN ?sO ?tM ?oV ?yR ?WQ ?UV ?yu ?qJ ?rm ?qW ?qy ?xW ?yf ?yp ?xj ?wW ?wL ?bC ?oH ?lE ?oU ?qT ?vD ?vG ?aV ?vN ?oJ ?fG ?iH ?BP ?SQ ?oO ?VL ?TF ?sU ?lO ?fH ?gU ?nW ?GF ?MJ ?zL ?WD ?GR ?vL ?pD ?cU ?pH ?YG ?YQ ?dW ?vU ?JG ?aW ?gP ?fP ?dI ?mK ?rM ?BV ?mG ?zG ?RL ?CP ?PQ ?lV ?fQ ?tL ?lL ?lU ?zU ?ZR ?cQ ?NQ ?iV ?yC ?qQ ?rE ?rg ?qG ?x9 ?ym ?yq ?xt ?xc ?wS ?vB ?IV ?cN ?uL ?sJ ?cF ?aO ?KR ?RM ?aN ?DP ?YF ?dJ ?PJ ?tU ?yS ?pO ?ZF ?bW ?sG ?JR ?lJ ?YH ?aK ?zP ?PN ?mQ ?yB ?qP ?rD ?rf ?qE ?x8 ?yl ?xq ?w9 ?wR ?wB ?xS ?zN ?iJ ?bV ?DR ?dU ?SN ?zO ?RJ ?KJ ?GJ ?wF ?nH ?mV ?oW ?mL ?XF ?oK ?XS ?eN ?gM ?gF ?pQ ?zT ?CT ?uJ ?dF ?QK ?uP ?nJ ?fJ ?cG ?BL ?JK ?oN ?yO ?NK ?uF ?ZP ?cM ?HR ?LR ?dH ?gG ?vQ ?uU ?gQ ?XR ?rG ?cW ?mJ ?VJ ?fM ?yx ?qL ?rp ?qY ?qA ?xY ?yh ?xl ?wY ?wN ?pB ?xH ?xG ?xF ?ZJ ?bI ?rO ?ZG ?bM ?wH ?eV ?tH ?JL ?mF ?QQ ?fO ?VG ?zV ?eF ?rN ?qU ?sH ?vJ ?NP ?lF ?mO ?rI ?tR ?DQ ?bG ?JP ?pN ?tK ?oG ?bN ?eG ?wI ?TQ ?DG ?RV ?GK ?XM ?WK ?pM ?dO ?YM ?yK ?KN ?JQ ?yw ?qK ?rn ?qX ?qz ?xX ?yg ?xk ?wX ?wM ?iB ?xE ?xD ?xC ?HS ?vV ?yQ ?PT ?fU ?CG ?VM ?pI ?UT ?qF ?KQ ?PL ?VH ?nG ?HF ?LK ?SM ?vP ?vH ?uT ?aG ?eU ?pK ?PK ?wG ?DN ?WF ?cV ?CN ?yG ?cO ?WL ?vK ?QS ?bO ?fW ?ZK ?RP ?ZL ?iW ?iG ?WR ?yM ?RK ?VP ?TG ?uR ?fK ?tV ?QT ?MP ?SJ ?gR ?KH ?YT ?lG ?FP ?yP ?LQ ?vI ?sS ?OJ ?oR ?mU ?QV ?XH ?nU ?pP ?HJ ?lM ?eH ?uM ?nM ?YL ?RT ?uO ?bU ?HQ ?bL ?QR ?eQ ?nO ?zK ?uV ?MK ?ZM ?JM ?mR ?WP ?QL ?gV ?QH ?FQ ?bT ?WM ?YS ?lH ?yU ?aR ?RG ?uH ?cJ ?XN ?zH ?UL ?VR ?TJ ?QG ?wJ ?MN ?aQ ?JS ?vO ?gJ ?CJ ?pW ?JV ?nP ?eO ?rJ ?cA ?pA ?bB ?nA ?aA ?bA ?vA ?cB ?zA ?dB ?oA ?uA ?wA ?gA ?yr ?yI ?yJ ?yL ?k0 ?k1 ?k2 ?WX ?cY ?RW ?yE ?aF ?sE ?oE ?zE ?fC ?YC ?iD ?GC ?nD ?tC ?ZC ?JC ?lD ?pC ?bD ?mD ?iC ?wC ?uC ?bF ?uE ?tE ?mC ?dC ?XC ?cD ?aD ?LC ?QC ?fD ?dD ?gD ?RC ?nC ?gC ?vC ?KC ?k3 ?k4 ?k5 ?k6 ?k7 ?k8 ?k9 ?bY ?eX ?fY ?vX ?dX ?VF ?uK ?fV ?YW ?QX ?YX ?zX ?pR ?cR ?FT ?OD ?uD ?ZD ?RD ?GD ?eE ?wD ?tD ?XD ?HD ?QD ?KD ?YD ?JD ?VD ?sX ?pF ?nR ?tG ?z0 ?z1 ?z2 ?z3 ?z4 ?z5 ?z6 ?z7 ?z8 ?z9 ?oY ?PX
  case yr|yI|yJ|yL|hZ|lK|PB|HB|QB|VB|RB|YB|NB|JB=>k_is
  (case fB=>kts_exm)
  (case gy=>kernel_rfl)
  case lS|lR|lQ|lP|zB|gB|iU|FJ|XJ|mX|aY|mY|yA|qO|rC|re|qD|x6|yk|xp|w6|wQ|cC|xR|xQ|xP|xO|xN|xM|xL|RX|tX|ZW|BX|WW|UW|lX|BW|oX|eY|vW|yX|QW|iY|ZX|yW|JX|JW|lY|HX|sW|pX|DW|fX|GX|uW|rY|CW|aX|DX=>k_is
  case rW|XX|IW|cX|gY|tW|nY|SX|pY|CX|FW|uX|HW|TX|dY|zW|DK|tQ|bQ|pJ|yV|rH|XQ|HH|MT|gW|iI|zJ|nQ|CV|zQ|rQ|JT|dR|ZS|CK|pU|gO|VV|QJ|lW|IK|yN|lN|yD|qR|rF|rh|qH|ya|yo|xu|xf|wT|rB|xU|xT|rK|aJ|cT=>k_is
  case RQ|vR|UG|GQ|VN|CQ|NT|aU|nT|bK|rR|yz|qN|rA|rc|qC|x5|yj|xo|w5|wP|tB|xK|VK|rT|vM|YK|mH|uN|ZV|cI|JN|QF|XK|FN|WN|yy|qM|rq|qZ|qB|xZ|yi|xm|wZ|wO|uB|xJ|xI|fL|zR|cL|uQ|tO|rP|sV|zM|rU|nF|yt=>k_is
  case qI|rj|qV|qx|xV|ye|xi|wV|wK|aC|xB|xA|xz|xy|xx|pL|gH|bJ|ZQ|yH|HN|iK|dK|aM|dN|JF|cP|GP|BK|uG|MF|BJ|PP|oM|YJ|dG|TV|QM|aH|UJ|yF|TP|WT|wU|pG|zF|sI|uI|gK|aL|oF|bR|JH|mW|BR|dM|RN|sO|tM|oV=>k_is
  case yR|WQ|UV|yu|qJ|rm|qW|qy|xW|yf|yp|xj|wW|wL|bC|oH|lE|oU|qT|vD|vG|aV|vN|oJ|fG|iH|BP|SQ|oO|VL|TF|sU|lO|fH|gU|nW|GF|MJ|zL|WD|GR|vL|pD|cU|pH|YG|YQ|dW|vU|JG|aW|gP|fP|dI|mK|rM|BV|mG|zG|RL=>k_is
  case CP|PQ|lV|fQ|tL|lL|lU|zU|ZR|cQ|NQ|iV|yC|qQ|rE|rg|qG|x9|ym|yq|xt|xc|wS|vB|IV|cN|uL|sJ|cF|aO|KR|RM|aN|DP|YF|dJ|PJ|tU|yS|pO|ZF|bW|sG|JR|lJ|YH|aK|zP|PN|mQ|yB|qP|rD|rf|qE|x8|yl|xq|w9|wR=>k_is
  case wB|xS|zN|iJ|bV|DR|dU|SN|zO|RJ|KJ|GJ|wF|nH|mV|oW|mL|XF|oK|XS|eN|gM|gF|pQ|zT|CT|uJ|dF|QK|uP|nJ|fJ|cG|BL|JK|oN|yO|NK|uF|ZP|cM|HR|LR|dH|gG|vQ|uU|gQ|XR|rG|cW|mJ|VJ|fM|yx|qL|rp|qY|qA|xY=>k_is
  case yh|xl|wY|wN|pB|xH|xG|xF|ZJ|bI|rO|ZG|bM|wH|eV|tH|JL|mF|QQ|fO|VG|zV|eF|rN|qU|sH|vJ|NP|lF|mO|rI|tR|DQ|bG|JP|pN|tK|oG|bN|eG|wI|TQ|DG|RV|GK|XM|WK|pM|dO|YM|yK|KN|JQ|yw|qK|rn|qX|qz|xX|yg=>k_is
  case xk|wX|wM|iB|xE|xD|xC|HS|vV|yQ|PT|fU|CG|VM|pI|UT|qF|KQ|PL|VH|nG|HF|LK|SM|vP|vH|uT|aG|eU|pK|PK|wG|DN|WF|cV|CN|yG|cO|WL|vK|QS|bO|fW|ZK|RP|ZL|iW|iG|WR|yM|RK|VP|TG|uR|fK|tV|QT|MP|SJ|gR=>k_is
  case KH|YT|lG|FP|yP|LQ|vI|sS|OJ|oR|mU|QV|XH|nU|pP|HJ|lM|eH|uM|nM|YL|RT|uO|bU|HQ|bL|QR|eQ|nO|zK|uV|MK|ZM|JM|mR|WP|QL|gV|QH|FQ|bT|WM|YS|lH|yU|aR|RG|uH|cJ|XN|zH|UL|VR|TJ|QG|wJ|MN|aQ|JS|vO=>k_is
  case gJ|CJ|pW|JV|nP|eO|rJ|cA|pA|bB|nA|aA|bA|vA|cB|zA|dB|oA|uA|wA|gA|k0|k1|k2|WX=>k_is
  (case cY=>rfl)
  (case RW=>rfl)
  (case yE=>rfl)
  (case aF=>rfl)
  case sE=>k_is
  (case oE=>rfl)
  (case zE=>rfl)
  case fC=>k_is
  (case YC=>rfl)
  (case iD=>rfl)
  case GC=>k_is
  (case nD=>rfl)
  (case tC=>rfl)
  case ZC=>k_is
  (case JC=>rfl)
  (case lD=>rfl)
  case pC=>k_is
  (case bD=>rfl)
  (case mD=>rfl)
  case iC=>k_is
  (case wC=>rfl)
  (case uC=>rfl)
  case bF=>k_is
  (case uE=>rfl)
  (case tE=>rfl)
  case mC=>k_is
  (case dC=>rfl)
  (case XC=>rfl)
  case cD=>k_is
  (case aD=>rfl)
  (case LC=>rfl)
  case QC=>k_is
  (case fD=>rfl)
  (case dD=>rfl)
  case gD=>k_is
  (case RC=>rfl)
  (case nC=>rfl)
  case gC=>k_is
  (case vC=>rfl)
  (case KC=>rfl)
  case k3|k4|k5|k6|k7|k8|k9|bY|eX|fY|vX|dX|VF=>k_is
  (case uK=>rfl)
  (case fV=>rfl)
  case YW|QX|YX|zX|pR=>k_is
  (case cR=>rfl)
  (case FT=>rfl)
  case OD=>k_is
  (case uD=>rfl)
  (case ZD=>rfl)
  case RD=>k_is
  (case GD=>rfl)
  (case eE=>rfl)
  case wD=>k_is
  (case tD=>rfl)
  (case XD=>rfl)
  case HD=>k_is
  (case QD=>rfl)
  (case KD=>rfl)
  case YD=>k_is
  (case JD=>rfl)
  (case VD=>rfl)
  case sX|pF=>k_is
  (case nR=>rfl)
  (case tG=>rfl)
  case z0|z1|z2|z3|z4|z5|z6|z7|z8|z9|oY|PX=>k_is
