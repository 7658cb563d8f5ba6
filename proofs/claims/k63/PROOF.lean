import PyProof.Rows.All
import Wide.All
import Wide.FinOn
import KE.KDictOf
import KE.RegKIsAll
import KE.KEqDeep
import KE.KRevIter
import KE.KEqDict
import KE.RegKTryMore
import KE.KItem
import KE.KTurns
import KE.KFromBytes
import KE.KEqText
import PySem.Challenge.RW_bytetongue_k63_first_fault
set_option Elab.async false
set_option linter.all false
set_option maxRecDepth 100000
theorem Z{α:Sort _}{a:α}:a=a:=rfl
def U9:=@List.length_map
def Va:=@Nat.le_refl
def Vb:=@PySem.Heap.lt_size
def Vc:=@List.length_append
def Vd:=@Nat.lt_of_lt_of_le
def Ve:=@PySem.boot_len
def Vf:=@List.getElem?_map
def Vg:=@PySem.Heap.get?_push_of_some
def Vh:=@List.getElem?_eq_some_iff
def Vi:=@Nat.ne_of_lt
def Vj:=@List.map_append
def Vk:=@List.length_take
def Vl:=@List.size_toArray
def Vm:=@List.mem_append
def Vn:=@Bool.false_ne_true
def Vo:=@List.mem_of_getElem?
def Vp:=@List.mem_singleton
def Vq:=@Nat.zero_le
def Vr:=@List.mem_cons
def Vs:=@Nat.le_trans
def Vt:=@List.length_cons
def Vu:=@Nat.le_of_ble_eq_true
def Vv:=@Nat.lt_succ_self
def Vw:=@List.take_length
def Vx:=@List.mem_cons_of_mem
def Vy:=@Option.some.inj
def Vz:=@List.mem_cons_self
def VA:=@List.mem_append_right
def VB:=@Bool.and_eq_true
def VC:=@List.mem_map
def VD:=@PySem.F.plainAttrs_list
def VE:=@Array.length_toList
def VF:=@List.append_assoc
def VG:=@List.getElem?_eq_getElem
def VH:=@PySem.Heap.get?_push_size
def VI:=@List.append_nil
def VJ:=@Nat.lt_irrefl
def VL:=@PyProof.Rows.boot_list
def VM:=@List.map_cons
def VN:=@PyProof.Rows.boot_int
def VO:=@PySem.F.slot_list_append
def VP:=@PySem.F.type_list_append
def VQ:=@List.mem_append_left
def VR:=@List.lookup_cons
def VS:=@List.find?_cons
def VT:=@List.length_drop
def VU:=@Bool.false_eq_true
def VV:=@Nat.min_eq_left
def VW:=@List.take_of_length_le
def VX:=@Nat.succ.inj
def VY:=@PyProof.Rows.boot_isinstance
def VZ:=@List.getElem?_append_right
def V0:=@Nat.zero_add
def V1:=@List.any_eq_true
def V2:=@List.getElem?_append_left
def V3:=@List.find?_eq_none
def V4:=@List.length_range
def V5:=@List.mem_range
def V6:=@Nat.ne_of_gt
def V7:=@PyProof.Rows.callWith_type1
def V8:=@List.take_append_drop
def V9:=@PySem.W.ke_shaped_ints
def Wa:=@PySem.Heap.get?_update_other
def Wb:=@List.mem_of_mem_take
def Wc:=@PySem.Heap.SameBut.refl
def We:=@Bool.eq_iff_iff
def Wf:=@PySem.Heap.size_push
def Wg:=@Nat.le_succ
def Wh:=@List.any_cons
def Wi:=@Option.map_some
def Wj:=@PyProof.Rows.slot_tuple_getitem
def Wk:=@List.replicate_succ
def Wm:=@List.foldl_cons
def Wn:=@List.mem_of_mem_drop
def Wo:=@List.map_map
def Wp:=@Bool.not_true
def Wq:=@Option.bind_some
def Wr:=@Option.map_eq_some_iff
def Ws:=@List.pairwise_iff_getElem
def Wt:=@Nat.lt_or_ge
def Wu:=@PySem.Heap.get?_none_of_le
def Wv:=@Nat.le_of_eq
def Ww:=@List.nodup_cons
def Wx:=@PySem.mem_of_lookup
def Wz:=@List.getElem?_take_of_lt
def WA:=@PySem.F.slot_dict_get
def WB:=@List.flatten_cons
def WC:=@Int.toNat_of_nonneg
def WD:=@List.all_eq_true
def WE:=@Nat.add_sub_cancel_left
def WF:=@Option.bind_eq_some_iff
def WG:=@PySem.Heap.get?_update_self
def WH:=@PySem.F.slot_list_index
def WI:=@List.find?_some
def WJ:=@List.eq_nil_of_length_eq_zero
def WK:=@PySem.Heap.SameBut.update
def WL:=@List.getD_eq_getElem?_getD
def WM:=@List.getElem?_eq_none
def WN:=@PyProof.Rows.boot_tuple
def WO:=@Nat.mod_eq_of_lt
def WP:=@Nat.mod_one
def WQ:=@List.take_append_of_le_length
def WR:=@List.mem_iff_getElem?
def WS:=@List.filterMap_cons
def WT:=@List.getElem?_set_self
def WU:=@List.getElem?_set_ne
def WV:=@List.cons_append
def WW:=@List.length_nil
def WX:=@List.map_nil
def WY:=@Option.isSome_map
def WZ:=@Int.toNat_natCast
def W0:=@Array.getElem?_eq_some_iff
def W1:=@Bool.or_eq_true
def W2:=@PySem.Heap.size_after_update
def W3:=@Nat.not_lt_zero
def W4:=@Array.size_map
def W5:=@Bool.not_eq_true
def W6:=@List.exists_cons_of_length_eq_add_one
def W7:=@List.getElem?_range
def W8:=@List.filter_append
def W9:=@List.filter_eq_nil_iff
def Xa:=@List.not_mem_nil
def Xb:=@List.mem_iff_getElem
def Xc:=@List.mem_of_find?_eq_some
def Xd:=@PySem.F.type_list_index
def Xe:=@Int.zero_lt_one
def Xf:=@Nat.le_of_lt
def Xg:=@List.of_mem_zip
def Xh:=@Option.isSome_iff_exists
def Xi:=@List.length_replicate
def Xj:=@PySem.F.entry_dict_get
def Xk:=@Option.getD_none
def Xl:=@Bool.and_false
def Xm:=@List.nil_append
def Xn:=@Array.size_extract
def Xo:=@List.getElem_mem
def Xp:=@List.drop_zero
def Xq:=@List.take_take
def Xr:=@Nat.min_eq_right
def Xs:=@List.take_nil
def Xt:=@Int.add_mul
def Xu:=@List.take_add_one
def Xv:=@Array.getD_eq_getD_getElem?
def Xw:=@Nat.add_assoc
def Xx:=@Nat.zero_lt_one
def Xy:=@List.length_pos_iff
def Xz:=@List.take_succ_cons
def XA:=@List.flatten_append
def XB:=@List.getElem?_drop
def XC:=@List.filter_cons
def XD:=@PyProof.noPylong_small
def XE:=@List.getElem?_replicate
def XF:=@PyProof.Rows.callWith_builtin1
def XG:=@PySem.F.args_dict_get_2
def XH:=@PySem.F.plainAttrs_dict
def XI:=@PySem.F.type_dict_get
def XJ:=@List.length_reverse
def XL:=@List.drop_eq_nil_of_le
def XM:=@Nat.ble_eq_true_of_le
def XQ:=@Array.mem_toList_iff
def XR:=@Array.size_setIfInBounds
def XS:=@PySem.F.excBase_ValueError
def XT:=@Array.getElem?_eq_getElem
def XU:=@Array.getElem?_setIfInBounds
def XV:=@PySem.Heap.get?_update_ne
def XW:=@Array.getElem?_toList
def XX:=@List.length_eraseIdx_of_lt
def XY:=@PySem.MeetsSeq2.wpAny_forIn_array
def XZ:=@Array.toList_extract
def X0:=@List.getElem?_of_mem
def X1:=@Int.natAbs_of_nonneg
def X2:=@PyProof.Rows.boot_bool
def X3:=@Option.isSome_eq_false_iff
def X4:=@Option.isNone_iff_eq_none
def X5:=@PySem.W.ke_canLayAll0
def X6:=@List.forall_mem_cons
def on:=@PySem.wpAny_bind
def X7:=@PySem.wpAny_pure
def X8:=@if_neg
def X9:=@if_pos
def Ya:=@absurd
def Yb:=@of_decide_eq_true
def Yc:=@decide_eq_true
def Yd:=@decide_eq_false
abbrev e7:=List Int
abbrev fy:=PySem.Shared
namespace L2
open PySem PySem.Spec PyProof.Rows
abbrev aV:=Sum Int Str
def mK:aV->Value->Bool
 | .inl k,v=>Value.isInt k v
 | .inr x,v=>Value.isStrOf x v
def Ny(w:World):aV->Int
 | .inl k=>hashInt k
 | .inr x=>hashStr w x
theorem iP:∀ {k:aV} {v:Value},mK k v=true->(∃i t,k=Sum.inl i/\v=Value.int i t)\/(∃x t,k=Sum.inr x/\v=Value.str x t)
 | .inl i,v,h=>by
  obtain⟨t,e⟩:=Value.isInt_shape (k:=i) (v:=v) h;exact .inl ⟨i,t,Z,e⟩
 | .inr x,v,h=>by
  obtain⟨t,e⟩:=Value.isStrOf_shape (x:=x) (v:=v) h;exact .inr ⟨x,t,Z,e⟩
def Nw(i:Int)(t:Tok):mK (.inl i) (.int i t)=true:=by simp[mK,Value.isInt]
def Nv(x:Str)(t:Tok):mK (.inr x) (.str x t)=true:=by simp[mK,Value.isStrOf]
def Nu(a b:Int):decide ((Sum.inl a:aV)=Sum.inl b)=(a == b):=by
 by_cases e:a=b
 ·subst e;simp
 ·have h:¬(Sum.inl a:aV)=Sum.inl b:=λq=>e (Sum.inl.inj q);rw[Yd h];exact (beq_eq_false_iff_ne.mpr e).symm
def Nq(a b:Str):decide ((Sum.inr a:aV)=Sum.inr b)=decide (a=b):=by
 by_cases e:a=b
 ·subst e;simp
 ·have h:¬(Sum.inr a:aV)=Sum.inr b:=λq=>e (Sum.inr.inj q);rw[Yd h,Yd e]
def Nt(a:Int)(b:Str):decide ((Sum.inl a:aV)=Sum.inr b)=false:=Yd (λq=>nomatch q)
def Nr(a:Str)(b:Int):decide ((Sum.inr a:aV)=Sum.inl b)=false:=Yd (λq=>nomatch q)
def cD(prog:Program)(w:World):PySem.KeyKind prog w aV where
 is:=mK
 hash:=Ny w
 inj:=λv a b f hb=>by
  rcases iP f with ⟨i,t,rfl,rfl⟩|⟨x,t,rfl,rfl⟩
  ·rcases iP hb with ⟨j,u,rfl,e⟩|⟨y,u,rfl,e⟩
   ·injection e with e1 _;rw[e1]
   ·exact nomatch e
  ·rcases iP hb with ⟨j,u,rfl,e⟩|⟨y,u,rfl,e⟩
   ·exact nomatch e
   ·injection e with e1 _;rw[e1]
 byValue:=λk v h=>by
  rcases iP h with ⟨i,t,rfl,rfl⟩|⟨x,t,rfl,rfl⟩<;>rfl
 pyHash:=λc h=>by
  rcases iP c with ⟨i,t,rfl,rfl⟩|⟨x,t,rfl,rfl⟩
  ·exact wpAny_pyHash_int h
  ·exact wpAny_pyHash_str h
 eqBool:=λd c h=>by
  rcases iP d with ⟨i,t,rfl,rfl⟩|⟨x,t,rfl,rfl⟩
  ·rcases iP c with ⟨j,u,rfl,rfl⟩|⟨y,u,rfl,rfl⟩
   ·rw[Nu]at h;exact wpAny_eqBool_int h
   ·rw[Nt]at h;exact SeqAt.EqAt.int_str i t y u _ _ _ _ h
  ·rcases iP c with ⟨j,u,rfl,rfl⟩|⟨y,u,rfl,rfl⟩
   ·rw[Nr]at h;exact SeqAt.EqAt.str_int x t j u _ _ _ _ h
   ·rw[Nq]at h;exact wpAny_eqBool_str h
 «strs»:=λk x t v h=>by
  rcases iP h with ⟨i,u,rfl,e⟩|⟨y,u,rfl,e⟩
  ·exact nomatch e
  ·injection e with e1 _
   subst e1;cases v<;>rfl
def Cf(prog:Program)(w:World)(i:Int)(t:Tok):(cD prog w).is (.inl i) (.int i t)=true:=Nw i t
def Ce(prog:Program)(w:World)(x:Str)(t:Tok):(cD prog w).is (.inr x) (.str x t)=true:=Nv x t
inductive V where
 | non|bl (b:Bool)|int (i:Int)|str (x:Str)|byt (b:Array UInt8)|flt (b:UInt64)|ref (a:Addr)|ty (n:String)
 deriving DecidableEq
def aR:V->Value->Prop
 | .non,u=>u=Value.none
 | .bl b,u=>u=Value.bool b
 | .int i,u=>∃t,u=Value.int i t
 | .str x,u=>∃t,u=Value.str x t
 | .byt b,u=>∃t,u=Value.bytes b t
 | .flt b,u=>∃t,u=Value.float b t
 | .ref a,u=>u=Value.ref a
 | .ty n,u=>u=Value.type n
abbrev aJ:List V->List Value->Prop:=Paired aR
def aJ.length{xs:List V}{us:List Value}(r:aJ xs us):xs.length=us.length:=Paired.length r
theorem aJ.get:∀ {xs:List V} {us:List Value} {i:Nat} {x:V},aJ xs us->xs[i]? = some x->∃u,us[i]? = some u/\aR x u
 | _,_,_,_,.nil,e=>by simp at e
 | _,_,0,_,.cons r _,e=>by simp at e;subst e;exact⟨_,Z,r⟩
 | _,_,i+1,x,.cons _ t,e=>by
  obtain⟨u,b,a⟩:=aJ.get (i:=i) (x:=x) t (by simpa using e);exact⟨u,by simpa using b,a⟩
theorem aJ.append:∀ {xs ys:List V} {us a:List Value},aJ xs us->aJ ys a->aJ (xs++ys) (us++a)
 | _,_,_,_,.nil,s=>s
 | _,_,_,_,.cons r t,s=>.cons r (aJ.append t s)
theorem aJ.take:∀ {xs:List V} {us:List Value} (n:Nat),aJ xs us->aJ (xs.take n) (us.take n)
 | _,_,0,_=>.nil
 | _,_,_+1,.nil=>.nil
 | _,_,n+1,.cons r t=>.cons r (aJ.take n t)
theorem aJ.drop:∀ {xs:List V} {us:List Value} (n:Nat),aJ xs us->aJ (xs.drop n) (us.drop n)
 | _,_,0,r=>r
 | _,_,_+1,.nil=>.nil
 | _,_,n+1,.cons _ t=>aJ.drop n t
def cT:Option V->Option Value->Prop
 | some v,some u=>aR v u
 | none,none=>True
 | _,_=>False
def KV{κ:Type}:List (κ × V)->List (κ × Value)->Prop:=Paired λ(p:κ × V) (q:κ × Value)=>p.1=q.1/\aR p.2 q.2
def kV:aV->V
 | .inl i=>.int i
 | .inr x=>.str x
inductive HO where
 | lst (xs:List V)
 | tup (xs:List V)
 | dK (kvs:List (aV × V))|dT (kvs:List (List aV × V))
 | set (S:Int->Bool) (n:Nat)
 | ins (C dx:Addr) (fs:List (Str × V))
 | own (x:Addr)
 | xd (fs:List (Str × V))
 | met (f x:Addr)
 | rng (lo hi:Int)
 | frz (o:Obj) (u:HO)
 | tbl (ps:Array Value)
 | ext (φ:Heap->Prop)
abbrev Hp:=Addr->Option HO
def upd(H:Hp)(a:Addr)(o:HO):Hp:=λb=>if b=a then some o else H b
def aX{H:Hp}{a:Addr}{o:HO}:upd H a o a=some o:=by unfold upd;rw[X9 rfl]
def au{H:Hp}{a b:Addr}{o:HO}(h:b≠a):upd H a o b=H b:=by unfold upd;rw[X8 h]
def L4{H:Hp}{a b:Addr}{o u:HO}(h:H a=some o)(h':H b=some u)(d:o≠u):a≠b:=by
 intro e;subst e;rw[h]at h';exact d (Vy h')
def aO{H:Hp}{a b:Addr}{o:HO}(h:H a=some o)(h':H b=none):a≠b:=by
 intro e;subst e;rw[h]at h';cases h'
section
variable (P:Program)(w:World)
def bK(H:Hp)(h:Heap)(a:Addr):HO->Prop
 | .lst xs=>xs.length<=sizeLine/\∃(b:List Value) (n:Nat),aJ xs b/\h.get? a=some { cls:=.type "list",data:=.seq b.toArray n }
 | .tup xs=>xs.length<=sizeLine/\∃b:List Value,aJ xs b/\IsTup h a b.toArray
 | .dK kvs=>kvs.length<=sizeLine/\(a == sysModules)=false/\∃vs,KV kvs vs/\h.DictOf (cD P w) a vs
 | .dT kvs=>kvs.length<=sizeLine/\(a == sysModules)=false/\∃xs:List (List aV × Addr × Value),
  Paired (λ(p:List aV × V) (q:List aV × Addr × Value)=>p.1=q.1/\H q.2.1=some (.tup (p.1.map kV))/\aR p.2 q.2.2) kvs xs /\
  ∃o es ep,h.get? a=some o/\o.ExactDict/\o.data=.dict es ep/\es.toList=xs.map (entryOfKey (tupleKind (cD P w)))/\(xs.map (·.1)).Nodup
 | .set S n=>h.SetOf (intKind P w) a S n
 | .ins C dx fs=>H dx=some (.own a)/\fs.length<=1000/\dx≠a/\h.get? a=some (W.instObj C dx) /\
  ∃mA,h.Ns1 dx mA/\(∀f,cT (fs.lookup f) (mA f))/\PySem.Within mA (fs.map (·.1))
 | .own _=>∃o,h.get? a=some o
 | .xd fs=>∃mA,h.Ns1 a mA/\∀f,cT (fs.lookup f) (mA f)
 | .rng lo hi=>∃t u v,h.get? a=some { cls:=.type "range",data:=.fields #[.int lo t,.int hi u,.int 1 v] }
 | .frz o u=>h.get? a=some o/\bK H h a u
 | .tbl ps=>h.get? a=some { cls:=.none,data:=.fields ps }
 | .met f x=>h.get? a=some (W.methodObj (.ref f) (.ref x))
 | .ext φ=>φ h/\(∃o,h.get? a=some o)/\∀h1 h2:Heap,φ h1->(∀o,h1.get? a=some o->h2.get? a=some o)->φ h2
def bM(H:Hp)(h:Heap):Prop:=∀a o,H a=some o->bK P w H h a o
end
section
variable {P:Program}{w:World}{H H':Hp}{h h':Heap}{a:Addr}{o:HO}
def bK.lt(x:bK P w H h a o):a<h.objs.size:=by
 cases o with
 | lst xs=>obtain⟨_,_,_,_,e⟩:=x;exact Vb e
 | tup xs=>obtain⟨_,_,_,p⟩:=x;exact p.lt
 | dK kvs=>obtain⟨_,_,_,_,o,_,_,e,_⟩:=x;exact Vb e
 | dT kvs=>obtain⟨_,_,_,_,o,_,_,e,_⟩:=x;exact Vb e
 | set S n=>obtain⟨o,_,_,_,e,_⟩:=x;exact Vb e
 | ins C dx fs=>obtain⟨_,_,_,e,_⟩:=x;exact Vb e
 | own y=>obtain⟨_,e⟩:=x;exact Vb e
 | xd fs=>obtain⟨_,⟨_,_,_,e,_⟩,_⟩:=x;exact Vb e
 | rng lo hi=>obtain⟨_,_,_,e⟩:=x;exact Vb e
 | frz ob u=>obtain⟨e,_⟩:=x;exact Vb e
 | tbl ps=>exact Vb (show h.get? a=some _ from x)
 | met f y=>exact Vb (show h.get? a=some _ from x)
 | ext φ=>obtain⟨_,⟨_,e⟩,_⟩:=x;exact Vb e
theorem Paired.mapP{α β:Type}{F G:α->β->Prop}:∀ {d:List α} {c:List β},Paired F d c->(∀a b,F a b->G a b)->Paired G d c
 | _,_,.nil,_=>.nil
 | _,_,.cons r t,f=>.cons (f _ _ r) (Paired.mapP t f)
def bK.stay(x:bK P w H h a o)(k:∀b u,(b=a\/H b=some (.own a))->h.get? b=some u->h'.get? b=some u)
 (ho:∀b,H b=some (.own a)->H' b=some (.own a)) (m:∀b xs,H b=some (.tup xs)->H' b=some (.tup xs)):bK P w H' h' a o:=by
 induction o with
 | lst xs=>obtain⟨z,j,n,r,e⟩:=x;exact⟨z,j,n,r,k _ _ (.inl Z) e⟩
 | tup xs=>obtain⟨z,j,r,g,e,c⟩:=x;exact⟨z,j,r,g,k _ _ (.inl Z) e,c⟩
 | dK kvs=>obtain⟨z,y,vs,r,g,es,i,e,c⟩:=x;exact⟨z,y,vs,r,g,es,i,k _ _ (.inl Z) e,c⟩
 | dT kvs =>
  obtain⟨z,y,xs,r,g,es,i,e,c⟩:=x;exact⟨z,y,xs,Paired.mapP r λp q z=>⟨z.1,m _ _ z.2.1,z.2.2⟩,g,es,i,k _ _ (.inl Z) e,c⟩
 | set S n=>obtain⟨g,es,i,t,e,c⟩:=x;exact⟨g,es,i,t,k _ _ (.inl Z) e,c⟩
 | ins C dx fs =>
  obtain⟨d,z,ne,e,mA,⟨od,es,i,l,c⟩,r⟩:=x;exact⟨ho _ d,z,ne,k _ _ (.inl Z) e,mA,⟨od,es,i,k _ _ (.inr d) l,c⟩,r⟩
 | own y=>obtain⟨g,e⟩:=x;exact⟨g,k _ _ (.inl Z) e⟩
 | xd fs=>obtain⟨mA,⟨od,es,i,e,c⟩,r⟩:=x;exact⟨mA,⟨od,es,i,k _ _ (.inl Z) e,c⟩,r⟩
 | rng lo hi=>obtain⟨t,u,v,e⟩:=x;exact⟨t,u,v,k _ _ (.inl Z) e⟩
 | frz g u ih=>obtain⟨e,q⟩:=x;exact⟨k _ _ (.inl Z) e,ih q⟩
 | tbl ps =>
  have e:h.get? a=some { cls:=.none,data:=.fields ps }:=x;show h'.get? a=some { cls:=.none,data:=.fields ps };exact k a _ (.inl Z) e
 | met f y =>
  have e:h.get? a=some (W.methodObj (.ref f) (.ref y)):=x;show h'.get? a=some (W.methodObj (.ref f) (.ref y));exact k a _ (.inl Z) e
 | ext φ=>obtain⟨p,⟨o,e⟩,st⟩:=x;exact⟨st _ _ p λo q=>k _ _ (.inl Z) q,⟨o,k _ _ (.inl Z) e⟩,st⟩
def bM.lt(x:bM P w H h)(e:H a=some o):a<h.objs.size:=(x a o e).lt
def bM.fresh(x:bM P w H h)(e:h.objs.size<=a):H a=none:=by
 cases q:H a with
 | none=>rfl
 | some u=>exact Ya (Vd (x.lt q) e) (VJ _)
def bM.kept(x:bM P w H h)(k:∀b u,h.get? b=some u->h'.get? b=some u):bM P w H h':=λa o e =>
 (x a o e).stay (λb u _ q=>k b u q) (λ_ q=>q) λ_ _ q=>q
def bM.laid(x:bM P w H h)(k:∀b u,h.get? b=some u->h'.get? b=some u)(f:h.objs.size<=a)(new:bK P w (upd H a o) h' a o):bM P w (upd H a o) h':=λb u e=>by
 have d:=x.fresh f;by_cases hb:b=a
 ·subst hb;rw[aX]at e;cases e;exact new
 ·rw[au hb]at e;exact (x b u e).stay (λc v _ q=>k c v q) (λc q=>by rw[au (aO q d)];exact q) λc xs q=>by rw[au (aO q d)];exact q
end
def Rd(H:Hp)(a:Addr)(u:HO):Prop:=H a=some u\/∃o,H a=some (.frz o u)
def Rd.of{H:Hp}{a:Addr}{u:HO}(h:H a=some u):Rd H a u:=.inl h
def Rd.ok{P:Program}{w:World}{H:Hp}{h:Heap}{a:Addr}{u:HO}(r:Rd H a u)(x:bM P w H h):bK P w H h a u:=by
 rcases r with r|⟨o,r⟩
 ·exact x a u r
 ·obtain⟨_,q⟩:=x a _ r;exact q
def pH:Option HO->Prop
 | some (.lst _)=>True
 | some (.dK _)=>True
 | some (.dT _)=>True
 | some (.set _ _)=>True
 | some (.ins _ _ _)=>True
 | some (.ext _)=>True
 | _=>False
section
variable {P:Program}{w:World}{H:Hp}{h h':Heap}{x e:Addr}{o':HO}
def bM.write(ok:bM P w H h)(f:pH (H x))(j:e=x\/H e=some (.own x))(k:∀b u,b≠e->h.get? b=some u->h'.get? b=some u)(i:∃u,h'.get? e=some u)
 (new:bK P w (upd H x o') h' x o'):bM P w (upd H x o') h':=λb u q=>by
 have a:∀c y,H c=some (.own y)->c≠x:=λc y r z=>by subst z;rw[r]at f;exact f
 have d:∀c xs,H c=some (.tup xs)->c≠x:=λc xs r z=>by subst z;rw[r]at f;exact f
 by_cases hb:b=x
 ·subst hb;rw[aX]at q;cases q;exact new
 ·rw[au hb]at q;by_cases hbe:b=e
  ·have l:H b=some (.own x):=by
    rcases j with z|z
    ·exact Ya (hbe.trans z) hb
    ·rw[hbe];exact z
   rw[q]at l;cases l;obtain⟨v,m⟩:=i;exact⟨v,by rw[hbe];exact m⟩
  ·refine (ok b u q).stay (λc v g r=>k c v ?_ r) (λc r=>by rw[au (a c b r)];exact r) λc xs r=>by rw[au (d c xs r)];exact r
   rcases g with rfl|g
   ·exact hbe
   ·rintro rfl;rcases j with z|z
    ·exact a c b g z
    ·rw[g]at z;cases z;exact hb Z
end
structure Un (fs ex:List Addr) (H H':Hp) (h h':Heap):Prop where
 keep:∀b o,h.get? b=some o->H b=none->b∉fs->b∉ex->h'.get? b=some o
 slot:∀b o,h.get? b=some o->H b=none->b∈fs->b∉ex->∃sl,h'.get? b=some { o with slots:=sl }
 free:∀b o,h.get? b=some o->H b=none->b∉ex->H' b=none
 there:∀b o,h.get? b=some o->b∉ex->∃o',h'.get? b=some o'
 tups:∀b xs,H b=some (.tup xs)->H' b=some (.tup xs)
 frzs:∀b o u,H b=some (.frz o u)->H' b=some (.frz o u)
 tbls:∀b ps,H b=some (.tbl ps)->∃more,H' b=some (.tbl (ps++more))
section
variable {fs fs' ex ex':List Addr}{H H1 H2:Hp}{h h1 h2 h':Heap}{a x e:Addr}{o:HO}
def Un.any(u:Un fs ex H H1 h h1){b:Addr}{a:Obj}(q:h.get? b=some a)(n:H b=none)(hx:b∉ex):∃sl,h1.get? b=some { a with slots:=sl }:=by
 by_cases hb:b∈fs
 ·exact u.slot b a q n hb hx
 ·exact⟨a.slots,u.keep b a q n hb hx⟩
def Un.kept(k:∀b u,h.get? b=some u->h'.get? b=some u):Un fs ex H H h h' :=
 ⟨λb a q _ _ _=>k b a q,λb a q _ _ _=>⟨a.slots,k b a q⟩,λ_ _ _ n _=>n,λb a q _=>⟨a,k b a q⟩,λ_ _ q=>q,λ_ _ _ q=>q,λ_ ps q=>⟨#[],by rw[q];simp⟩⟩
def Un.refl:Un fs ex H H h h:=Un.kept λ_ _ q=>q
def Un.laid(k:∀b u,h.get? b=some u->h'.get? b=some u)(d:h.objs.size<=a)(c:H a=none):Un fs ex H (upd H a o) h h' where
 keep:=λb u q _ _ _=>k b u q
 slot:=λb u q _ _ _=>⟨u.slots,k b u q⟩
 free:=λb u q n _=>by rw[au (Vi (Vd (Vb q) d))];exact n
 there:=λb u q _=>⟨u,k b u q⟩
 tups:=λb xs q=>by rw[au (aO q c)];exact q
 frzs:=λb u xs q=>by rw[au (aO q c)];exact q
 tbls:=λb ps q=>⟨#[],by rw[au (aO q c),q];simp⟩
def Un.write(a:pH (H x))(f:e=x\/H e=some (.own x))(k:∀b u,b≠e->h.get? b=some u->h'.get? b=some u)(d:∃u,h'.get? e=some u):Un fs ex H (upd H x o) h h':=by
 have hx:∀b,H b=none->b≠x:=λb n z=>by subst z;rw[n]at a;exact a
 have hb:∀b,H b=none->b≠e:=λb n z=>by
  subst z;rcases f with r|r
  ·exact hx b n r
  ·rw[n]at r;cases r
 have c:∀b u,H b=some u->¬pH (some u)->b≠x:=λb u q g z=>by subst z;rw[q]at a;exact g a
 refine⟨λb u q n _ _=>k b u (hb b n) q,λb u q n _ _=>⟨u.slots,k b u (hb b n) q⟩,λb u q n _=>by rw[au (hx b n)];exact n,λb u q _=>?_,
  λb xs q=>by rw[au (c b _ q λz=>z)];exact q,λb u xs q=>by rw[au (c b _ q λz=>z)];exact q,λb ps q=>⟨#[],by rw[au (c b _ q λz=>z),q];simp⟩⟩
 by_cases hbe:b=e
 ·subst hbe;exact d
 ·exact⟨u,k b u hbe q⟩
end
def pQ(h:Heap)(H:Hp):List Addr:=(List.range h.objs.size).filter λa=>(H a).isSome
def iR(h:Heap)(H:Hp):Heap:=W.hideAll h (pQ h H)
def NZ(h:Heap)(H:Hp):(iR h H).objs.size=h.objs.size:=W.hideAll_size _ _
def N0{h:Heap}{H:Hp}{b:Addr}{o:Obj}(e:h.get? b=some o)(n:H b=none):(iR h H).get? b=some o :=
 W.hideAll_get _ e λa=>by
  have q:(H b).isSome=true:=(List.mem_filter.mp a).2;rw[n]at q;simp at q
def LX{h:Heap}{H:Hp}{b:Addr}{o:Obj}(e:(iR h H).get? b=some o):h.get? b=some o/\H b=none:=by
 have a:h.get? b=some o:=W.of_hideAll (pQ h H) e;refine⟨a,?_⟩;cases q:H b with
 | none=>rfl
 | some x =>
  have c:b∈pQ h H:=List.mem_filter.mpr ⟨V5.mpr (Vb a),by simp[q]⟩;have z:(iR h H).get? b=none:=W.hideAll_none (pQ h H) c;rw[z]at e;cases e
def Tx(g h:Heap)(L:Addr):List (Addr × Obj):=(List.range h.objs.size).filterMap λa=>if a=L\/(g.get? a).isSome=true then none else (h.get? a).map λo=>(a,o)
def bQ(g h:Heap)(L d:Addr):List (Addr × Obj):=(Tx g h L).filter λp=>decide (p.1≠d)
structure Mod (K:W.Frag) (mg:Str->Option Value) (base:Heap):Prop where
 kin:K.In base
 glob:base.Ns mainGlobals mg
 blt:∃mb,base.Ns builtinsNs mb/\∀x:Str,x ≠ "__name__"->mb x=bootBuiltins x
 nolimit:base.NoLimit
structure Cx where
 prog:Program
 w:World
 K:W.Frag
 mg:Str->Option Value
 base:Heap
 A:Around
 N:List Str
 s₀:fy
 H₀:Hp
 env:Env
 outer:List Env
 stack:List Env
 ex:List Addr
 fn:Str->Bool
 calm:Bool
 pn:List (Addr × Obj)
 xe:Value->fy->Prop
def cJ(l:List Env):List Addr:=l.filterMap (·.frame)
abbrev Cx.fs(X:Cx):List Addr:=cJ X.outer
def pA(a:Scope)(x:Str):Prop:=a.names.lookup x=some .local\/a.names.lookup x=some .cell\/a.names.lookup x=some .free
def js(a:Scope)(x:Str):Prop:=a.names.lookup x=some .local\/a.names.lookup x=some .cell
def TH(env:Env)(h:Heap)(m:Str->Option Value)(x:Str)(u:Value):Prop :=
 (env.kindOf x=some .local/\m x=some u)\/((env.kindOf x=some .cell\/env.kindOf x=some .free)/\∃c,env.cells.lookup x=some c/\h.IsCell c (some u))
structure Cx.Ok (X:Cx):Prop where
 mod:Mod X.K X.mg X.base
 kind:X.env.scope.kind=.function
 glob:X.env.globals=mainGlobals
 blt:X.env.builtins=builtinsNs
 above:X.s₀.heap.objs.size<=X.env.locals
 inj:∀x y c,X.env.cells.lookup x=some c->X.env.cells.lookup y=some c->x=y
 has:∀x,(X.env.kindOf x=some .cell\/X.env.kindOf x=some .free)->∃c,X.env.cells.lookup x=some c
 cab:∀x c,X.fn x=true->X.env.cells.lookup x=some c->X.s₀.heap.objs.size<=c
 hd:X.calm=true->X.A.handled=none
 frames:X.A.frames=some X.stack
 stk:X.stack=X.outer\/(X.stack=X.env::X.outer/\X.env.frame=some X.env.locals)
 exf:∀b∈X.ex,b≠X.env.locals/\∀x c,X.env.cells.lookup x=some c->c≠b
 bs:∀b o,X.base.get? b=some o->X.s₀.heap.get? b=some o/\X.H₀ b=none
 bsz:X.base.objs.size<=X.s₀.heap.objs.size
 noex:∀b o,X.base.get? b=some o->b∉X.ex
 exfs:∀b∈X.ex,b∉X.fs
 funs:X.s₀.heap.FunFrames X.base X.outer
 frf:∀b∈X.fs,X.H₀ b=none
structure af (X:Cx) (pins:List (Addr × Obj)) (σ:List (Option V)) (H:Hp) (s:fy):Prop where
 ok:X.Ok
 os:s.os=X.s₀.os
 bare:AllBare s.gens
 base:Un X.fs X.ex X.H₀ H X.s₀.heap s.heap
 loc:∃m,s.heap.Ns X.env.locals m/\∀(i:Nat) (x:Str) (v:V),X.N[i]? = some x->σ[i]? = some (some v)->pA X.env.scope x->∃u,aR v u/\TH X.env s.heap m x u
 cell:∀x c,X.env.cells.lookup x=some c->∃v,s.heap.IsCell c v
 free:H X.env.locals=none
 freeC:∀x c,X.env.cells.lookup x=some c->H c=none
 pin:∀p∈X.pn++pins,s.heap.get? p.1=some p.2/\H p.1=none/\p.1≠X.env.locals/\p.1∉X.fs/\∀v,p.2.data ≠ .cell v
 hok:bM X.prog X.w H s.heap
 len:σ.length=X.N.length
section
variable {X:Cx}{pins:List (Addr × Obj)}{σ:List (Option V)}{H H':Hp}{s:fy}{h':Heap}
def Cx.Ok.nofr(ok:X.Ok){b:Addr}{o:Obj}(e:X.base.get? b=some o):b∉X.fs:=λhb=>by
 have:=(ok.funs.mem hb).1;rw[e]at this;cases this
def af.bs(I:af X pins σ H s):∀b o,X.base.get? b=some o->s.heap.get? b=some o/\H b=none:=λb o e =>
 ⟨I.base.keep b o (I.ok.bs b o e).1 (I.ok.bs b o e).2 (I.ok.nofr e) (I.ok.noex b o e),I.base.free b o (I.ok.bs b o e).1 (I.ok.bs b o e).2 (I.ok.noex b o e)⟩
def af.bk(I:af X pins σ H s):∀b o,X.base.get? b=some o->s.heap.get? b=some o:=λb o e=>(I.bs b o e).1
def af.mod(I:af X pins σ H s):Mod X.K X.mg X.base:=I.ok.mod
def af.kIn(I:af X pins σ H s):X.K.In s.heap:=I.ok.mod.kin.keeps I.bk
def af.lt(I:af X pins σ H s):X.env.locals<s.heap.objs.size:=let ⟨_,hn,_⟩:=I.loc;hn.lt
def af.sz(I:af X pins σ H s):X.s₀.heap.objs.size<=s.heap.objs.size:=Vs I.ok.above (Xf I.lt)
def af.nofs(I:af X pins σ H s){a:Addr}(h:s.heap.objs.size<=a):a∉X.fs:=λhb=>by
 obtain⟨_,o,ho,_⟩:=I.ok.funs.mem hb;exact Ya (Vd (Vb ho) (Vs I.sz h)) (VJ _)
def af.cne(I:af X pins σ H s):∀x c,X.env.cells.lookup x=some c->c≠X.env.locals:=λx c e z=>by
 obtain⟨v,o,ho,hd⟩:=I.cell x c e;obtain⟨m,⟨d,es,f,b,a,_⟩,_⟩:=I.loc;rw[z,b]at ho;cases ho;rw[a]at hd;cases hd
def af.funs(I:af X pins σ H s):s.heap.FunFrames X.base X.outer:=by
 have all:∀(l:List Env),(∀b∈cJ l,b∈X.fs)->X.s₀.heap.FunFrames X.base l->s.heap.FunFrames X.base l:=by
  intro l
  induction l with
  | nil=>intro _ _;trivial
  | cons env r ih =>
   intro hs d;obtain⟨a,⟨L,o,hf,f,ho,hd⟩,c⟩:=d;have hL:L∈X.fs:=hs L (by unfold cJ;rw[WS,hf];exact Vz);obtain⟨g,e⟩:=I.base.slot L o ho (I.ok.frf L hL) hL λz=>I.ok.exfs L z hL;exact⟨a,⟨L,_,hf,f,e,hd⟩,ih (λb hb=>hs b (by unfold cJ;rw[WS,hf];exact Vx _ hb)) c⟩
 exact all X.outer (λ_ hb=>hb) I.ok.funs
def af.stack(I:af X pins σ H s):s.heap.FunFrames X.base X.stack:=by
 rcases I.ok.stk with e|⟨e,hf⟩
 ·rw[e];exact I.funs
 ·rw[e];obtain⟨m,a,_⟩:=I.loc;refine .cons (by rw[I.ok.kind];decide) hf a ?_ I.funs;exact Wu (Vs I.ok.bsz I.ok.above)
def af.stkSub(I:af X pins σ H s):∀b∈cJ X.stack,b∈X.env.locals::X.fs:=λb hb=>by
 rcases I.ok.stk with e|⟨e,hf⟩
 ·rw[e]at hb;exact Vx _ hb
 ·rw[e]at hb;unfold cJ at hb;rw[WS,hf]at hb;exact hb
def af.stkFree(I:af X pins σ H s):∀b∈cJ X.stack,H b=none:=λb hb=>by
 rcases Vr.mp (I.stkSub b hb) with e|hb
 ·rw[e];exact I.free
 ·obtain⟨_,o,ho,_⟩:=I.ok.funs.mem hb;exact I.base.free b o ho (I.ok.frf b hb) λz=>I.ok.exfs b z hb
def af.step{g':Array GenState}{t':Nat}{d':Drawn}{ch:List Addr}(I:af X pins σ H s)
 (a:∀b∈ch,(b∈X.ex\/X.s₀.heap.objs.size<=b)/\b≠X.env.locals/\(∀x c,X.env.cells.lookup x=some c->c≠b)/\∀p∈X.pn++pins,p.1≠b)
 (keep:∀b o,b≠X.env.locals->b∉X.fs->b∉ch->s.heap.get? b=some o->H b=none->h'.get? b=some o)
 (slot:∀b o,b≠X.env.locals->b∈X.fs->b∉ch->s.heap.get? b=some o->H b=none->∃y,h'.get? b=some { o with slots:=y }) (free:∀b o,b∉ch->s.heap.get? b=some o->H b=none->H' b=none)
 (there:∀b o,b∉ch->s.heap.get? b=some o->∃h,h'.get? b=some h)
 (tups:∀b xs,H b=some (.tup xs)->H' b=some (.tup xs)) (frzs:∀b o u,H b=some (.frz o u)->H' b=some (.frz o u)) (tbls:∀b ps,H b=some (.tbl ps)->∃more,H' b=some (.tbl (ps++more)))
 (ns:∀m,s.heap.Ns X.env.locals m->h'.Ns X.env.locals m) (hok:bM X.prog X.w H' h') (G:AllBare g') :
 af X pins σ H' { s with heap:=h',gens:=g',drawn:=d',toks:=t' }:=by
 have neL:∀b o,X.s₀.heap.get? b=some o->b≠X.env.locals:=λb o e=>Vi (Vd (Vb e) I.ok.above);have neC:∀b o,X.s₀.heap.get? b=some o->b∉X.ex->b∉ch:=λb o e hx hb=>by
  rcases (a b hb).1 with z|z
  ·exact hx z
  ·exact Ya (Vd (Vb e) z) (VJ _)
 have cellK:∀x c,X.env.cells.lookup x=some c->∀v,s.heap.IsCell c v->h'.IsCell c v:=λx c e v ⟨o,ho,hd⟩=>by
  have f:c∉ch:=λz=>(a c z).2.2.1 x c e rfl;by_cases hc:c∈X.fs
  ·obtain⟨y,q⟩:=slot c o (I.cne x c e) hc f ho (I.freeC x c e);exact⟨_,q,hd⟩
  ·exact⟨o,keep c o (I.cne x c e) hc f ho (I.freeC x c e),hd⟩
 refine⟨I.ok,I.os,G,⟨λb o e n hb hx=>?_,λb o e n hb hx=>?_,λb o e n hx=>?_,λb o e hx=>?_,λb xs e=>tups b xs (I.base.tups b xs e),λb o xs e=>frzs b o xs (I.base.frzs b o xs e),λb ps e=>?_⟩,?_,λx c e=>?_,?_,λx c e=>?_,λp C=>?_,hok,I.len⟩
 ·exact keep b o (neL b o e) hb (neC b o e hx) (I.base.keep b o e n hb hx) (I.base.free b o e n hx)
 ·obtain⟨y,g⟩:=I.base.slot b o e n hb hx;obtain⟨B,j⟩:=slot b _ (neL b o e) hb (neC b o e hx) g (I.base.free b o e n hx);exact⟨B,j⟩
 ·obtain⟨h,g⟩:=I.base.there b o e hx;exact free b h (neC b o e hx) g (I.base.free b o e n hx)
 ·obtain⟨h,g⟩:=I.base.there b o e hx;exact there b h (neC b o e hx) g
 ·obtain⟨M,g⟩:=I.base.tbls b ps e;obtain⟨N,j⟩:=tbls b _ g;exact⟨M++N,by rw[j,Array.append_assoc]⟩
 ·obtain⟨m,L,J⟩:=I.loc;refine⟨m,ns m L,λi x v g j F=>?_⟩;obtain⟨u,r,l⟩:=J i x v g j F;refine⟨u,r,?_⟩;rcases l with l|⟨k,c,e,z⟩
  ·exact .inl l
  ·exact .inr ⟨k,c,e,cellK x c e _ z⟩
 ·obtain⟨v,z⟩:=I.cell x c e;exact⟨v,cellK x c e v z⟩
 ·obtain⟨m,⟨o,_,_,ho,_⟩,_⟩:=I.loc;exact free _ o (λz=>(a _ z).2.1 Z) ho I.free
 ·obtain⟨v,o,ho,hd⟩:=I.cell x c e;exact free c o (λz=>(a c z).2.2.1 x c e Z) ho (I.freeC x c e)
 ·obtain⟨e,n,ne,D,d⟩:=I.pin p C;have f:p.1∉ch:=λz=>(a p.1 z).2.2.2 p C rfl;exact⟨keep p.1 p.2 ne D f e n,free p.1 p.2 f e n,ne,D,d⟩
def af.un{t':Nat}(I:af X pins σ H s)(u:Un X.fs [] H H' s.heap h')(hok:bM X.prog X.w H' h'):af X pins σ H' { s with heap:=h',toks:=t' }:=by
 obtain⟨m,⟨o,es,g,ho,r⟩,_⟩:=id I.loc;obtain⟨h,hL⟩:=u.any ho I.free (by simp);exact I.step (g':=s.gens) (d':=s.drawn) (ch:=[]) (λ_ z=>nomatch z) (λb o _ hb _ e n=>u.keep b o e n hb (by simp)) (λb o _ hb _ e n=>u.slot b o e n hb (by simp)) (λb o _ e n=>u.free b o e n (by simp)) (λb o _ e=>u.there b o e (by simp)) u.tups u.frzs u.tbls (λj d=>by
  obtain⟨i,es',c,a,f⟩:=d;rw[ho]at a;cases a;exact⟨_,es',c,hL,f⟩) hok I.bare
def af.call{g':Array GenState}{t':Nat}{d':Drawn}{ch:List Addr}(I:af X pins σ H s)(u:Un (cJ X.stack) ch H H' s.heap h')(hok:bM X.prog X.w H' h')(h:AllBare g')
 (d:∀b∈ch,(b∈X.ex\/X.s₀.heap.objs.size<=b)/\b≠X.env.locals/\(∀x c,X.env.cells.lookup x=some c->c≠b)/\∀p∈X.pn++pins,p.1≠b) :
 af X pins σ H' { s with heap:=h',gens:=g',drawn:=d',toks:=t' }:=by
 obtain⟨m,⟨o,es,k,ho,r⟩,_⟩:=id I.loc;obtain⟨l,hL⟩:=u.any ho I.free λz=>(d _ z).2.1 rfl;exact I.step (ch:=ch) d (λb o hL hb a e n=>u.keep b o e n (λz=>(Vr.mp (I.stkSub b z)).elim hL hb) a) (λb o _ _ a e n=>u.any e n a) (λb o a e n=>u.free b o e n a) (λb o a e=>u.there b o e a) u.tups u.frzs u.tbls (λv i=>by
  obtain⟨q,es',g,f,j⟩:=i;rw[ho]at f;cases f;exact⟨_,es',g,hL,j⟩) hok h
def af.turned{t':Nat}{it:Addr}(I:af X pins σ H s)(k:∀b o,b≠it->s.heap.get? b=some o->h'.get? b=some o)(j:H it=none)(hL:it≠X.env.locals)
 (l:it∈X.ex\/X.s₀.heap.objs.size<=it) (f:∀x c,X.env.cells.lookup x=some c->c≠it) (i:∀p∈X.pn++pins,p.1≠it):af X pins σ H { s with heap:=h',toks:=t' }:=by
 have d:∀b u,H b=some u->b≠it:=λb u e z=>by rw[z,j]at e;cases e
 refine I.step (g':=s.gens) (d':=s.drawn) (ch:=[it]) (λb hb=>?_) (λb o _ _ a e _=>k b o (λz=>a (by simp[z])) e) (λb o _ _ a e _=>⟨o.slots,k b o (λz=>a (by simp[z])) e⟩) (λ_ _ _ _ n=>n)
  (λb o a e=>⟨o,k b o (λz=>a (by simp[z])) e⟩) (λ_ _ e=>e) (λ_ _ _ e=>e) (λb ps e=>⟨#[],by rw[e];simp⟩) (λm g=>?_) (λb u e=>?_) I.bare
 ·have e:b=it:=by simpa using hb
  subst e;exact⟨l,hL,f,i⟩
 ·obtain⟨o,es,h,ho,r⟩:=g;exact⟨o,es,h,k _ o (Ne.symm hL) ho,r⟩
 ·refine (I.hok b u e).stay (λc v a q=>k c v ?_ q) (λ_ q=>q) λ_ _ q=>q;rcases a with z|z
  ·rw[z];exact d b u e
  ·exact d c _ z
def af.tok(I:af X pins σ H s)(t:Nat):af X pins σ H { s with toks:=t }:=I.un (h':=s.heap) (t':=t) Un.refl I.hok
def af.kept{t':Nat}(I:af X pins σ H s)(k:∀b u,s.heap.get? b=some u->h'.get? b=some u):af X pins σ H { s with heap:=h',toks:=t' }:=I.un (Un.kept k) (I.hok.kept k)
def af.laid{a:Addr}{o:HO}{t':Nat}(I:af X pins σ H s)(k:∀b u,s.heap.get? b=some u->h'.get? b=some u)(c:s.heap.objs.size<=a)(new:bK X.prog X.w (upd H a o) h' a o) :
 af X pins σ (upd H a o) { s with heap:=h',toks:=t' }:=I.un (Un.laid k c (I.hok.fresh c)) (I.hok.laid k c new)
def af.write{x e:Addr}{o:HO}{t':Nat}(I:af X pins σ H s)(d:pH (H x))(c:e=x\/H e=some (.own x))(k:∀b u,b≠e->s.heap.get? b=some u->h'.get? b=some u)(a:∃u,h'.get? e=some u)
 (new:bK X.prog X.w (upd H x o) h' x o):af X pins σ (upd H x o) { s with heap:=h',toks:=t' }:=I.un (Un.write d c k a) (I.hok.write d c k a new)
def af.pins_of{a:List (Addr × Obj)}(I:af X pins σ H s)(h:∀p∈a,s.heap.get? p.1=some p.2/\H p.1=none/\p.1≠X.env.locals/\p.1∉X.fs/\∀v,p.2.data ≠ .cell v):af X a σ H s :=
 ⟨I.ok,I.os,I.bare,I.base,I.loc,I.cell,I.free,I.freeC,λp b=>(Vm.mp b).elim (λz=>I.pin p (VQ _ z)) (h p),I.hok,I.len⟩
def uc{N:List Str}(hN:N.Nodup){i j:Nat}{x:Str}(a:N[i]? = some x)(b:N[j]? = some x):i=j:=by
 obtain⟨f,c⟩:=Vh.mp a;obtain⟨e,d⟩:=Vh.mp b;exact (List.getElem_inj hN).mp (c.trans d.symm)
def AB{M:Model}{A:Around}{E:Value->fy->Prop}{i:Nat}{x:Str}{v:V}{u:Value}{Q:Unit->fy->Prop}(I:af X pins σ H s)(hN:X.N.Nodup)(F:X.N[i]? = some x)(hx:js X.env.scope x)(r:aR v u)
 (h:∀s',af X pins (σ.set i (some v)) H s'->(∃a,Heap.SameBut a s.heap s'.heap/\(a=X.env.locals\/X.env.cells.lookup x=some a))->Q () s') (hf:X.fn x=true\/X.env.scope.names.lookup x=some .local:=by first|exact .inl rfl|exact .inr rfl|assumption):wpAny M A (storeName X.env x u) Q E s:=by
 obtain⟨m,hn,hl⟩:=id I.loc;have O:(X.env.scope.kind == .class || (X.env.scope.kind == .module && X.env.locals != X.env.globals))=false:=by rw[I.ok.kind];rfl
 have R:i<σ.length:=by rw[I.len];exact (Vh.mp F).1
 have cne:=I.cne;have f:∀ {a:Addr} {h':Heap},(∃o,s.heap.get? a=some o/\H a=none)->Heap.SameBut a s.heap h'->bM X.prog X.w H h':=λ{a h'} ha hs b ob e=>by
  obtain⟨_,_,B⟩:=ha;refine (I.hok b ob e).stay (λc S l q=>(hs.2 c ?_).trans q) (λ_ q=>q) λ_ _ q=>q;rintro rfl;rcases l with rfl|l
  ·rw[B]at e;cases e
  ·rw[B]at l;cases l
 rcases hx with hk|hk
 ·refine wpAny_storeName_local hk hn (λh' a5 hs=>?_) O;obtain⟨oL,_,_,hoL,_⟩:=id hn;refine h _ ⟨I.ok,I.os,I.bare,⟨λb o e n hb hx=>?_,λb o e n hb hx=>?_,I.base.free,λb o e hx=>?_,I.base.tups,I.base.frzs,I.base.tbls⟩,⟨_,a5,λj y Y g C U=>?_⟩,λy c e=>?_,I.free,I.freeC,λp hp=>?_,f ⟨oL,hoL,I.free⟩ hs,by simpa using I.len⟩ ⟨_,hs,.inl rfl⟩
  ·exact (hs.2 b (Vi (Vd (Vb e) I.ok.above))).trans (I.base.keep b o e n hb hx)
  ·obtain⟨sl,g⟩:=I.base.slot b o e n hb hx;exact⟨sl,(hs.2 b (Vi (Vd (Vb e) I.ok.above))).trans g⟩
  ·obtain⟨o',g⟩:=I.base.there b o e hx;exact⟨o',(hs.2 b (Vi (Vd (Vb e) I.ok.above))).trans g⟩
  ·by_cases hj:j=i
   ·subst hj;rw[F]at g;cases g;rw[WT R]at C;cases C;exact⟨u,r,.inl ⟨hk,by simp⟩⟩
   ·rw[WU (Ne.symm hj)]at C;obtain⟨W,r',q⟩:=hl j y Y g C U;refine⟨W,r',?_⟩;rcases q with ⟨k,e⟩|⟨k,c,e,z⟩
    ·refine .inl ⟨k,?_⟩;have:y≠x:=λe=>hj (uc hN g (e ▸ F));simp[this,e]
    ·exact .inr ⟨k,c,e,z.sameBut hs (cne y c e)⟩
  ·obtain⟨S,z⟩:=I.cell y c e;exact⟨S,z.sameBut hs (cne y c e)⟩
  ·obtain⟨e,n,ne,nf,d⟩:=I.pin p hp;exact⟨(hs.2 p.1 ne).trans e,n,ne,nf,d⟩
 ·have D:X.fn x=true:=by
   rcases hf with z|z
   ·exact z
   ·rw[z]at hk;cases hk
  obtain⟨c,l⟩:=I.ok.has x (.inl hk);obtain⟨S,z⟩:=I.cell x c l;refine wpAny_storeName_cell I.ok.kind hk l z (λh' L hs=>?_);obtain⟨oc,G,J⟩:=id z;refine h { s with heap:=h' } ⟨I.ok,I.os,I.bare,⟨λb o e n hb hx=>?_,λb o e n hb hx=>?_,I.base.free,λb o e hx=>?_,I.base.tups,I.base.frzs,I.base.tbls⟩,⟨m,hn.sameBut hs (Ne.symm (cne x c l)),λj y Y g C U=>?_⟩,λy c' e=>?_,I.free,I.freeC,λp hp=>?_,f ⟨oc,G,I.freeC x c l⟩ hs,by simpa using I.len⟩ ⟨c,hs,.inr l⟩
  ·exact (hs.2 b (Vi (Vd (Vb e) (I.ok.cab x c D l)))).trans (I.base.keep b o e n hb hx)
  ·obtain⟨sl,g⟩:=I.base.slot b o e n hb hx;exact⟨sl,(hs.2 b (Vi (Vd (Vb e) (I.ok.cab x c D l)))).trans g⟩
  ·obtain⟨o',g⟩:=I.base.there b o e hx;exact⟨o',(hs.2 b (Vi (Vd (Vb e) (I.ok.cab x c D l)))).trans g⟩
  ·by_cases hj:j=i
   ·subst hj;rw[F]at g;cases g;rw[WT R]at C;cases C;exact⟨u,r,.inr ⟨.inl hk,c,l,L⟩⟩
   ·rw[WU (Ne.symm hj)]at C;obtain⟨W,r',q⟩:=hl j y Y g C U;refine⟨W,r',?_⟩;rcases q with q|⟨k,c',e,z'⟩
    ·exact .inl q
    ·refine .inr ⟨k,c',e,z'.sameBut hs ?_⟩;rintro rfl;exact hj (uc hN g (I.ok.inj _ _ _ e l ▸ F))
  ·by_cases hcc:c'=c
   ·subst hcc;exact⟨_,L⟩
   ·obtain⟨w2,z2⟩:=I.cell y c' e;exact⟨w2,z2.sameBut hs hcc⟩
  ·obtain⟨e,n,ne,nf,d⟩:=I.pin p hp;refine⟨(hs.2 p.1 ?_).trans e,n,ne,nf,d⟩;intro q;rw[q,G]at e;have q':oc=p.2:=Vy e;exact d S (by rw[<- q'];exact J)
def j9{M:Model}{A:Around}{E:Value->fy->Prop}{i:Nat}{x:Str}{v:V}{u:Value}{Q:Unit->fy->Prop}(I:af X pins σ H s)(hN:X.N.Nodup)(b:X.N[i]? = some x)(hx:js X.env.scope x)(r:aR v u)
 (h:∀a,af X pins (σ.set i (some v)) H a->Q () a) (hf:X.fn x=true\/X.env.scope.names.lookup x=some .local:=by first|exact .inl rfl|exact .inr rfl|assumption):wpAny M A (storeName X.env x u) Q E s :=
 AB I hN b hx r (λa c _=>h a c) hf
def af.call'{a:fy}{ch:List Addr}(I:af X pins σ H s)(ho:a.os=s.os)(u:Un (cJ X.stack) ch H H' s.heap a.heap)(hok:bM X.prog X.w H' a.heap)(g:AllBare a.gens)
 (d:∀b∈ch,(b∈X.ex\/X.s₀.heap.objs.size<=b)/\b≠X.env.locals/\(∀x c,X.env.cells.lookup x=some c->c≠b)/\∀p∈X.pn++pins,p.1≠b):af X pins σ H' a:=by
 obtain⟨h',g',d',t',f⟩:=a;have e:f=s.os:=ho;subst e;exact I.call (g':=g') (t':=t') (d':=d') u hok g d
end
abbrev XK:=Value->Option Addr->Hp->Prop
abbrev St:=List (Option V)
abbrev VK:=V->Hp->Prop
abbrev TE:=St->Hp->VK->Prop
abbrev TT:=St->Hp->(Bool->Hp->Prop)->Prop
abbrev TA:=St->Hp->(List V->Hp->Prop)->Prop
structure ff where
 nx:St->Hp->Prop
 rt:VK
 bk:St->Hp->Prop:=λ_ _=>False
 ct:St->Hp->Prop:=λ_ _=>False
abbrev TS:=ff->St->Hp->Prop
def EP(X:Cx)(a:List (Addr × Obj))(σ:St)(Q:VK)(u:Value)(b:fy):Prop:=∃v H',af X a σ H' b/\aR v u/\Q v H'
def TP(X:Cx)(a:List (Addr × Obj))(σ:St)(Q:Bool->Hp->Prop)(b:Bool)(c:fy):Prop:=∃H',af X a σ H' c/\Q b H'
def AP(X:Cx)(a:List (Addr × Obj))(σ:St)(Q:List V->Hp->Prop)(us:List Value)(b:fy):Prop:=∃vs H',af X a σ H' b/\aJ vs us/\Q vs H'
def SP(X:Cx)(a:List (Addr × Obj))(D:ff)(f:Flow)(b:fy):Prop :=
 match f with
 | .next=>∃σ' H',af X a σ' H' b/\D.nx σ' H'
 | .brk=>∃σ' H',af X a σ' H' b/\D.bk σ' H'
 | .cont=>∃σ' H',af X a σ' H' b/\D.ct σ' H'
 | .ret u=>∃v σ' H',af X a σ' H' b/\aR v u/\D.rt v H'
def PE(X:Cx)(e:Expr)(t:TE):Prop :=
 ∀(a:List (Addr × Obj)) (s:fy) (σ:St) (H:Hp) (Q:VK),af X a σ H s->t σ H Q->wpAny (model X.prog X.w) X.A (eval e X.env) (EP X a σ Q) X.xe s
def PT(X:Cx)(e:Expr)(t:TT):Prop :=
 ∀(a:List (Addr × Obj)) (s:fy) (σ:St) (H:Hp) (Q:Bool->Hp->Prop),af X a σ H s->t σ H Q->wpAny (model X.prog X.w) X.A (isTrue e X.env (eval e X.env)) (TP X a σ Q) X.xe s
def PW(X:Cx)(e:Expr)(t:TT):Prop :=
 ∀(b:Sem Value) (a:List (Addr × Obj)) (s:fy) (σ:St) (H:Hp) (Q:Bool->Hp->Prop),af X a σ H s->t σ H Q->wpAny (model X.prog X.w) X.A (isTrue e X.env b) (TP X a σ Q) X.xe s
def PW.pt{X:Cx}{e:Expr}{t:TT}(h:PW X e t):PT X e t:=h _
def PA(X:Cx)(es:List Expr)(t:TA):Prop :=
 ∀(pos:Pos) (a:List (Addr × Obj)) (s:fy) (σ:St) (H:Hp) (Q:List V->Hp->Prop),af X a σ H s->t σ H Q->wpAny (model X.prog X.w) X.A (spliced (backTo pos (starEach es X.env))) (AP X a σ Q) X.xe s
def PS(X:Cx)(st:Stmt)(t:TS):Prop :=
 ∀(a:List (Addr × Obj)) (s:fy) (σ:St) (H:Hp) (D:ff),af X a σ H s->t D σ H->wpAny (model X.prog X.w) X.A (exec st X.env) (SP X a D) X.xe s
def gb(X:Cx)(st:List Stmt)(t:TS):Prop :=
 ∀(a:List (Addr × Obj)) (s:fy) (σ:St) (H:Hp) (D:ff),af X a σ H s->t D σ H->wpAny (model X.prog X.w) X.A (execs st X.env) (SP X a D) X.xe s
def aB{α:Type}{t:Sem α}{Q b:α->fy->Prop}{M:Model}{A:Around}{E:Value->fy->Prop}{s:fy}(h:wpAny M A t Q E s)(hQ:∀a s,Q a s->b a s):wpAny M A t b E s:=wpAny_mono h hQ λ_ _ x=>x
section
variable {X:Cx}
def Ab(i:Nat):TE:=λσ H Q=>∃v,σ[i]? = some (some v)/\Q v H
def tC(v:V):TE:=λ_ H Q=>Q v H
def BL {i:Nat} {x:Str} {pos:Pos} (hN:X.N[i]? = some x) (f:pA X.env.scope x) (hd:(x == ("__debug__" : Str))=false:=by decide) (d:(x == ("__classdict__" : Str))=false:=by decide):PE X (.Name x pos) (Ab i):=by
 intro b s σ H Q I h;obtain⟨v,e,h⟩:=h;obtain⟨m,j,g⟩:=I.loc;obtain⟨u,r,l⟩:=g i x v hN e f;have a:EP X b σ Q u s:=⟨v,H,I,r,h⟩;rcases l with ⟨hk,hm⟩|⟨hk,c,hc,hcell⟩
 ·exact wpAny_Name (wpAny_loadName_local I.ok.kind hk j hm a) hd
 ·rcases hk with hk|hk
  ·exact wpAny_Name (wpAny_loadName_cell I.ok.kind hk hc hcell a) hd
  ·exact wpAny_Name (wpAny_loadName_free I.ok.kind hk hc hcell a d) hd
def qk{i j pos}:PE X (.Constant (.int i) j pos) (tC (.int i)):=λ_ _ _ H _ I h=>wpAny_Constant_int ⟨.int i,H,I.tok _,⟨_,rfl⟩,h⟩
def BQ{b j pos}:PE X (.Constant (.bool b) j pos) (tC (.bl b)):=λ_ _ _ H _ I h=>Constant_bool ⟨.bl b,H,I,rfl,h⟩
def BN{j pos}:PE X (.Constant .none j pos) (tC .non):=λ_ _ _ H _ I h=>Constant_none ⟨.non,H,I,rfl,h⟩
def BM{x j pos}:PE X (.Constant (.str x) j pos) (tC (.str x)):=λ_ _ _ H _ I h=>Calls.Constant_str ⟨.str x,H,I.tok _,⟨_,rfl⟩,h⟩
def Gl(X:Cx)(x:Str):Prop:=X.env.kindOf x=some .globalImplicit
def jO{E:Value->fy->Prop}{a:List (Addr × Obj)}{s:fy}{σ:St}{H:Hp}{x:Str}{u:Value}{pos:Pos}{Q:Value->fy->Prop}(I:af X a σ H s)(c:Gl X x)(b:X.mg x=some u)(h:Q u s)
 (hd:(x == ("__debug__" : Str))=false:=by decide):wpAny (model X.prog X.w) X.A (eval (.Name x pos) X.env) Q E s :=
 Calls.Name_function_global I.ok.kind c (Calls.loadGlobal_global (by rw[I.ok.glob];exact I.mod.glob.keeps I.bk) b h) hd
def ia{E:Value->fy->Prop}{a:List (Addr × Obj)}{s:fy}{σ:St}{H:Hp}{x:Str}{u:Value}{pos:Pos}{Q:Value->fy->Prop}(I:af X a σ H s)(c:Gl X x)(e:X.mg x=none)(b:bootBuiltins x=some u)(h:Q u s)
 (f:x ≠ "__name__":=by decide) (hd:(x == ("__debug__" : Str))=false:=by decide):wpAny (model X.prog X.w) X.A (eval (.Name x pos) X.env) Q E s:=by
 obtain⟨i,g,d⟩:=I.mod.blt;exact Calls.Name_function_global I.ok.kind c (Calls.loadGlobal_builtin (by rw[I.ok.glob];exact I.mod.glob.keeps I.bk) e (by rw[I.ok.blt];exact g.keeps I.bk) ((d x f).trans b) h) hd
def BP {x:Str} {v:V} {u:Value} {pos:Pos} (b:Gl X x) (a:X.mg x=some u) (r:aR v u) (hd:(x == ("__debug__" : Str))=false:=by decide):PE X (.Name x pos) (tC v) :=
 λ_ _ _ H _ I h=>jO I b a ⟨v,H,I,r,h⟩ hd
def Ln {x:Str} {v:V} {u:Value} {pos:Pos} (d:Gl X x) (b:X.mg x=none) (c:bootBuiltins x=some u) (r:aR v u) (a:x ≠ "__name__":=by decide) (hd:(x == ("__debug__" : Str))=false:=by decide):PE X (.Name x pos) (tC v) :=
 λ_ _ _ H _ I h=>ia I d b c ⟨v,H,I,r,h⟩ a hd
variable {a b:Expr}{ta tb:TE}{pos:Pos}
def tB(t:TE):TT:=λσ H Q=>t σ H λx a=>∃c,x=.bl c/\Q c a
variable {tA tB':TT}{bQ:List Expr}
def Ay(t u:TT):TT:=λσ H Q=>t σ H λc a=>if c=true then u σ a Q else Q false a
def Aj(t u:TT):TT:=λσ H Q=>t σ H λc a=>if c=true then Q true a else u σ a Q
def Ak(t:TT):TT:=λσ H Q=>t σ H λc a=>Q (!c) a
def Ka(d:PT X a tA):PW X (.BoolOp .And [a] pos) tA:=by
 intro f b s σ H Q I h;refine isTrue_and (aB (d b s σ H Q I h) λc s1 e=>?_);cases c with
 | true=>exact isTrue_and_nil e
 | false=>exact e
def J8(d:PT X a tA):PW X (.BoolOp .Or [a] pos) tA:=by
 intro f b s σ H Q I h;refine isTrue_or (aB (d b s σ H Q I h) λc s1 e=>?_);cases c with
 | false=>exact isTrue_or_nil e
 | true=>exact e
def Kb(j:PT X a tA)(hb:PW X (.BoolOp .And (b::bQ) pos) tB'):PW X (.BoolOp .And (a::b::bQ) pos) (Ay tA tB'):=by
 intro i d s σ H Q I h;refine isTrue_and (aB (j d s σ H _ I h) λc s1 ζ=>?_);obtain⟨e,g,f⟩:=ζ;cases c with
 | true=>exact hb i d s1 σ e Q g f
 | false=>exact⟨e,g,f⟩
def J9(j:PT X a tA)(hb:PW X (.BoolOp .Or (b::bQ) pos) tB'):PW X (.BoolOp .Or (a::b::bQ) pos) (Aj tA tB'):=by
 intro i d s σ H Q I h;refine isTrue_or (aB (j d s σ H _ I h) λc s1 ζ=>?_);obtain⟨e,g,f⟩:=ζ;cases c with
 | true=>exact⟨e,g,f⟩
 | false=>exact hb i d s1 σ e Q g f
def Kg(d:PT X a tA):PT X (.UnaryOp .Not a pos) (Ak tA):=by
 intro b s σ H Q I h;exact isTrue_not (d b s σ H (λc e=>Q (!c) e) I h)
def K5{op}{t:TE}(h:PE X a t):PE X (.BoolOp op [a] pos) t:=λb s σ H Q I hw=>BoolOp_one (h b s σ H Q I hw)
def Aq(t:TT)(b tb:TE):TE:=λσ H Q=>t σ H λc a=>if c=true then b σ a Q else tb σ a Q
def K9{c:Expr}(j:PT X c tA)(k:PE X a ta)(hb:PE X b tb):PE X (.IfExp c a b pos) (Aq tA ta tb):=by
 intro e s σ H Q I h;refine wpAny_IfExp (aB (j e s σ H _ I h) λd s1 ζ=>?_);obtain⟨f,i,g⟩:=ζ;cases d with
 | true=>exact k e s1 σ f Q i g
 | false=>exact hb e s1 σ f Q i g
end
def aH(K:W.Frag)(H:Hp)(a:Addr)(xs:List V):Prop :=
 Rd H a (.lst xs) \/
  ∃(o:Obj) (b:Array Value) (n:Nat),K.lookup a=some o/\o.cls=.type "list"/\o.dict=none/\o.data=.seq b n/\b.size<=sizeLine/\aJ xs b.toList
def bw(K:W.Frag)(H:Hp)(a:Addr)(xs:List V):Prop :=
 Rd H a (.tup xs) \/
  ∃(o:Obj) (b:Array Value) (n:Nat),K.lookup a=some o/\o.cls=.type "tuple"/\o.data=.seq b n/\b.size<=sizeLine/\aJ xs b.toList
def Tz:Value->Option V
 | .none=>some .non
 | .bool b=>some (.bl b)
 | .int i _=>some (.int i)
 | .str x _=>some (.str x)
 | .bytes b _=>some (.byt b)
 | .float b _=>some (.flt b)
 | .ref a=>some (.ref a)
 | .type n=>some (.ty n)
 | _=>none
def aR.abs{x:V}{u:Value}(r:aR x u):Tz u=some x:=by
 cases x with
 | non=>cases r;rfl
 | bl _=>cases r;rfl
 | int _=>obtain⟨t,rfl⟩:=r;rfl
 | str _=>obtain⟨t,rfl⟩:=r;rfl
 | byt _=>obtain⟨t,rfl⟩:=r;rfl
 | flt _=>obtain⟨t,rfl⟩:=r;rfl
 | ref _=>cases r;rfl
 | ty _=>cases r;rfl
def aR.inj{x y:V}{u:Value}(r:aR x u)(q:aR y u):x=y:=Vy (r.abs.symm.trans q.abs)
theorem aJ.inj:∀ {xs ys:List V} {us:List Value},aJ xs us->aJ ys us->xs=ys
 | _,_,_,.nil,.nil=>rfl
 | _,_,_,.cons r t,.cons r' t'=>by rw[r.inj r',aJ.inj t t']
section
variable {X:Cx}{pins:List (Addr × Obj)}{σ:St}{H:Hp}{s:fy}{a:Addr}{xs ys:List V}
def aH.of{K:W.Frag}(h:H a=some (.lst xs)):aH K H a xs:=.inl (.inl h)
def bw.of{K:W.Frag}(h:H a=some (.tup xs)):bw K H a xs:=.inl (.inl h)
def af.list(I:af X pins σ H s)(h:aH X.K H a xs):∃b:List Value,aJ xs b/\PlainL s.heap a b.toArray/\xs.length<=sizeLine:=by
 rcases h with h|⟨o,b,n,hk,hc,hd,hs,hz,r⟩
 ·obtain⟨z,b,n,r,e⟩:=h.ok I.hok;exact⟨b,r,⟨_,n,e,Z,Z,Z⟩,z⟩
 ·refine⟨b.toList,r,⟨o,n,I.kIn a o hk,hc,hd,by simpa using hs⟩,?_⟩;have e:=r.length;simp only [VE]at e;omega
def af.tuple(I:af X pins σ H s)(h:bw X.K H a xs):∃b:List Value,aJ xs b/\IsTup s.heap a b.toArray/\xs.length<=sizeLine:=by
 rcases h with h|⟨o,b,n,hk,hc,hs,hz,r⟩
 ·obtain⟨z,b,r,p⟩:=h.ok I.hok;exact⟨b,r,p,z⟩
 ·refine⟨b.toList,r,⟨o,I.kIn a o hk,hc,n,by simpa using hs⟩,?_⟩;have e:=r.length;simp only [VE]at e;omega
def af.list_inj(I:af X pins σ H s)(h:aH X.K H a xs)(h':aH X.K H a ys):xs=ys:=by
 obtain⟨b,r,⟨o,n,e,_,_,d⟩,_⟩:=I.list h;obtain⟨its',f,⟨i,g,c,_,_,d'⟩,_⟩:=I.list h';rw[e]at c;cases c;rw[d]at d'
 injection d' with d1 _
 have:b=its':=by simpa using congrArg Array.toList d1
 subst this;exact r.inj f
def af.tuple_inj(I:af X pins σ H s)(h:bw X.K H a xs)(h':bw X.K H a ys):xs=ys:=by
 obtain⟨b,r,⟨o,e,_,n,d⟩,_⟩:=I.tuple h;obtain⟨its',f,⟨i,c,_,g,d'⟩,_⟩:=I.tuple h';rw[e]at c;cases c;rw[d]at d'
 injection d' with d1 _
 have:b=its':=by simpa using congrArg Array.toList d1
 subst this;exact r.inj f
end
abbrev Cx.wish(X:Cx)(E:Value->fy->Prop):Cx:={ X with xe:=E }
abbrev Cx.nox(X:Cx):Cx:=X.wish λ_ _=>False
def Cx.Ok.wish{X:Cx}(ok:X.Ok)(E:Value->fy->Prop):(X.wish E).Ok :=
 ⟨ok.mod,ok.kind,ok.glob,ok.blt,ok.above,ok.inj,ok.has,ok.cab,ok.hd,ok.frames,ok.stk,ok.exf,ok.bs,ok.bsz,ok.noex,ok.exfs,ok.funs,ok.frf⟩
def Cx.Ok.unwish{X:Cx}{E:Value->fy->Prop}(ok:(X.wish E).Ok):X.Ok :=
 ⟨ok.mod,ok.kind,ok.glob,ok.blt,ok.above,ok.inj,ok.has,ok.cab,ok.hd,ok.frames,ok.stk,ok.exf,ok.bs,ok.bsz,ok.noex,ok.exfs,ok.funs,ok.frf⟩
section
variable {X:Cx}{pins:List (Addr × Obj)}{σ:St}{H:Hp}{s:fy}{E:Value->fy->Prop}
def af.wish(I:af X pins σ H s)(E:Value->fy->Prop):af (X.wish E) pins σ H s:=⟨I.ok.wish E,I.os,I.bare,I.base,I.loc,I.cell,I.free,I.freeC,I.pin,I.hok,I.len⟩
def af.unwish(I:af (X.wish E) pins σ H s):af X pins σ H s:=⟨I.ok.unwish,I.os,I.bare,I.base,I.loc,I.cell,I.free,I.freeC,I.pin,I.hok,I.len⟩
def SP.unwish{D:ff}{f:Flow}{c:fy}(h:SP (X.wish E) pins D f c):SP X pins D f c:=by
 cases f with
 | next=>obtain⟨b,a,I,q⟩:=h;exact⟨b,a,I.unwish,q⟩
 | brk=>obtain⟨b,a,I,q⟩:=h;exact⟨b,a,I.unwish,q⟩
 | cont=>obtain⟨b,a,I,q⟩:=h;exact⟨b,a,I.unwish,q⟩
 | ret u=>obtain⟨v,b,a,I,r,q⟩:=h;exact⟨v,b,a,I.unwish,r,q⟩
def gb.nox{st:List Stmt}{t:TS}(h:gb X.nox st t):gb X st t:=λa s σ H D I hw =>
 wpAny_mono (h a s σ H D (I.wish _) hw) (λ_ _ q=>q.unwish) λ_ _ z=>False.elim z
end
section
variable {X:Cx}{st:Stmt}{bQ:List Stmt}{t u:TS}{e:Expr}{te:TE}{pos:Pos}
def jz:TS:=λD σ H=>D.nx σ H
def nj(t u:TS):TS:=λD σ H=>t { D with nx:=u D } σ H
def Ki:gb X [] jz:=λ_ _ σ H _ I h=>wpAny_execs_nil ⟨σ,H,I,h⟩
def Kj(e:PS X st t)(b:gb X bQ u):gb X (st::bQ) (nj t u):=by
 intro a s σ H D I h;refine wpAny_execs_cons (aB (e a s σ H { D with nx:=u D } I h) λf s1 q=>?_);cases f with
 | next =>
  obtain⟨c,g,d,q⟩:=q;exact b a s1 c g D d q
 | ret v=>exact q
 | brk=>exact q
 | cont=>exact q
def Kh(b:PS X st t):gb X [st] t:=by
 intro a s σ H D I h;refine wpAny_execs_cons (aB (b a s σ H D I h) λf s1 q=>?_);cases f with
 | next=>exact wpAny_execs_nil q
 | ret v=>exact q
 | brk=>exact q
 | cont=>exact q
def Aw:TS:=λD σ H=>D.bk σ H
def KA:PS X (.Break pos) Aw:=λ_ _ σ H _ I h=>wpAny_Break ⟨σ,H,I,h⟩
def af.quiet{a:List (Addr × Obj)}{σ:St}{H:Hp}{s:fy}(I:af X a σ H s):interactive X.env=false:=by simp[interactive,I.ok.kind]
def At(a:TE):TS:=λD σ H=>a σ H λ_ b=>D.nx σ b
def Kx(b:PE X e te)(hs:swapsWith e none pos.line X.env=pure false:=by rfl):PS X (.Expr e pos) (At te):=by
 intro a s σ H D I h;refine wpAny_Expr_any (aB (b a s σ H _ I h) λv s1 ζ=>?_) I.quiet hs;obtain⟨x,c,f,g,d⟩:=ζ;exact ⟨σ,c,f,d⟩
def Ag(a:TE):TS:=λD σ H=>a σ H D.rt
def Kn(c:PE X e te):PS X (.Return (some e) pos) (Ag te):=by
 intro a s σ H D I h;refine wpAny_Return_some (aB (c a s σ H _ I h) λv s1 ζ=>?_);obtain⟨x,d,g,b,f⟩:=ζ;exact ⟨x,σ,d,g,b,f⟩
def Ap(c:TT)(t u:TS):TS:=λD σ H=>c σ H λb a=>if b=true then t D σ a else u D σ a
def Kr{c:Expr}{a b:List Stmt}{f:TT}(k:PT X c f)(l:gb X a t)(hb:gb X b u):PS X (.If c a b pos) (Ap f t u):=by
 intro e s σ H D I h;refine wpAny_If (aB (k e s σ H _ I h) λd s1 ζ=>?_);obtain⟨g,j,i⟩:=ζ;cases d with
 | true=>exact l e s1 σ g D j i
 | false=>exact hb e s1 σ g D j i
def Am:TS:=λ_ _ _=>False
def Kq:PS X st Am:=λ_ _ _ _ _ _ h=>h.elim
end
abbrev TG:=V->St->Hp->(St->Hp->Prop)->Prop
abbrev iC:=List V->St->Hp->(St->Hp->Prop)->Prop
def PG(X:Cx)(a:Expr)(t:TG):Prop :=
 ∀(b:List (Addr × Obj)) (s:fy) (σ:St) (H:Hp) (v:V) (u:Value) (Q:St->Hp->Prop),af X b σ H s->aR v u->t v σ H Q ->
  wpAny (model X.prog X.w) X.A (assign a X.env u) (λ_ c=>∃σ' H',af X b σ' H' c/\Q σ' H') X.xe s
def pG(X:Cx)(b:List Expr)(t:iC):Prop :=
 ∀(a:List (Addr × Obj)) (s:fy) (σ:St) (H:Hp) (vs:List V) (us:List Value) (Q:St->Hp->Prop),af X a σ H s->aJ vs us->t vs σ H Q ->
  wpAny (model X.prog X.w) X.A (assignInOrder ((assignEach b X.env).map (·.2)) us) (λ_ c=>∃σ' H',af X a σ' H' c/\Q σ' H') X.xe s
section
variable {X:Cx}{pos:Pos}
def bU(i:Nat):TG:=λv σ H Q=>Q (σ.set i (some v)) H
def KZ{i:Nat}{x:Str}(hN:X.N.Nodup)(b:X.N[i]? = some x)(hx:js X.env.scope x)(hf:X.fn x=true\/X.env.scope.names.lookup x=some .local:=by first|exact .inl rfl|exact .inr rfl|assumption):PG X (.Name x pos) (bU i):=by
 intro a s σ H v u Q I r h;exact wpAny_assign_Name (j9 I hN b hx r (λd c=>⟨_,H,c,h⟩) hf)
def uT:iC:=λvs σ H Q=>vs=[]/\Q σ H
def qZ(t:TG)(u:iC):iC:=λvs σ H Q=>∃v r,vs=v::r/\t v σ H λb a=>u r b a Q
def KU:pG X [] uT:=by
 intro a s σ H vs us Q I r h;obtain⟨e,h⟩:=h;subst e;cases r;exact assignInOrder_nil ⟨σ,H,I,h⟩
def KW{e:Expr}{es:List Expr}{t:TG}{u:iC}(g:PG X e t)(d:pG X es u)
 (hs:(assignEach (e::es) X.env).map (·.2)=assign e X.env::(assignEach es X.env).map (·.2):=by rfl):pG X (e::es) (qZ t u):=by
 intro a s σ H vs us Q I r h;obtain⟨v,k,j,h⟩:=h;subst j;cases r with
 | cons r rr =>
  rw[hs];refine assignInOrder_cons (aB (g a s σ H _ _ _ I r h) λ_ s1 ζ=>?_);obtain⟨f,b,i,c⟩:=ζ;exact d a s1 f b _ _ Q i rr c
def qX(K:W.Frag)(n:Nat)(t:iC):TG:=λv σ H Q=>∃a xs,v=.ref a/\bw K H a xs/\xs.length=n/\t xs σ H Q
def KY{es:List Expr}{k:Nat}{t:iC}{n:Nat}(q:X.calm=true)(h:pG X es t)
 (j:(assignEach es X.env).length=n:=by rfl) (d:(assignEach es X.env).findIdx? (·.1)=none:=by rfl):PG X (.Tuple es k pos) (qX X.K n t):=by
 intro c s σ H v u Q I r hw;obtain⟨a,xs,x,g,i,hw⟩:=hw;subst x;cases r;obtain⟨p,f,l,hz⟩:=I.tuple g;refine assign_Tuple_tuple (I.ok.hd q) l (by simp[j,<- i,f.length]) d λh' hx=>?_;have m:af X c σ H { s with heap:=h' }:=I.kept (t':=s.toks) λb o e=>hx b o (Vi (Vb e)) e;exact h c _ σ H xs _ Q m (by simpa using f) hw
def j7(a:TE)(g:TG):TS:=λD σ H=>a σ H λx b=>g x σ b D.nx
def KB{b e:Expr}{c:TE}{g:TG}(f:PE X e c)(i:PG X b g)(hs:swapsWithSole [b] e pos.line X.env=pure false:=by rfl)(hw:swappedStores [b] e X.env=pure none:=by rfl)
 (l:(assignEach [b] X.env).map (·.2)=[assign b X.env]:=by rfl):PS X (.Assign [b] e pos) (j7 c g):=by
 intro a s σ H D I h;refine wpAny_Assign_stores (aB (f a s σ H _ I h) λv s1 ζ=>?_) hs hw;obtain⟨x,j,m,d,k⟩:=ζ;rw[l];exact aB (i a s1 σ j x v _ m d k) λ_ n q=>q
def Km{i:Nat}{x:Str}{e:Expr}{c:TE}{a:Pos}(hN:X.N.Nodup)(g:X.N[i]? = some x)(hx:js X.env.scope x)(f:PE X e c)(hs:swapsWith e (some (.Name x a)) pos.line X.env=pure false:=by rfl)(hf:X.fn x=true\/X.env.scope.names.lookup x=some .local:=by first|exact .inl rfl|exact .inr rfl|assumption) :
 PS X (.Assign [.Name x a] e pos) (j7 c (bU i)):=by
 intro b s σ H D I h;refine wpAny_Assign_Name (aB (f b s σ H _ I h) λv s1 ζ=>?_) hs;obtain⟨y,k,m,d,l⟩:=ζ;exact j9 m hN g hx d (λn j=>⟨_,k,j,l⟩) hf
def Ai(i j:Nat)(a:TA):TS:=λD σ H=>a σ H λvs b=>∃v w,vs=[v,w]/\D.nx ((σ.set i (some v)).set j (some w)) b
def Ko{i j:Nat}{x y:Str}{a b:Expr}{B:TA}{k l pt:Pos}{kt k2 pt2}(J:X.calm=true)(hN:X.N.Nodup)(C:X.N[i]? = some x)(U:X.N[j]? = some y)(f:i≠j)
 (hx:X.env.scope.names.lookup x=some .local) (z:X.env.scope.names.lookup y=some .local) (S:PA X [a,b] B)
 (hw:swappedStores [.Tuple [.Name x k,.Name y l] kt pt] (.Tuple [a,b] k2 pt2) X.env=pure (some [x,y]))
 (hs:swapsWithSole [.Tuple [.Name x k,.Name y l] kt pt] (.Tuple [a,b] k2 pt2) pos.line X.env=pure false:=by rfl) :
 PS X (.Assign [.Tuple [.Name x k,.Name y l] kt pt] (.Tuple [a,b] k2 pt2) pos) (Ai i j B):=by
 intro c s σ H D I h;rw[exec_Assign_arm];refine on (wpAny_standAt ?_);rw[hs];refine on (X7 ?_);rw[X8 (by decide)];refine on (Tuple_ (aB (S _ c s σ H _ I h) λus s1 ζ=>?_));obtain⟨vs,r,R,L,n⟩:=ζ;obtain⟨v,w,M,n⟩:=n;subst M;obtain⟨d,u2,rfl,G,g⟩:∃d u2,us=[d,u2]/\aR v d/\aR w u2:=by
  cases L with
  | cons p q =>
   cases q with
   | cons p' q' =>
    cases q';exact⟨_,_,Z,p,p'⟩
 refine wpAny_newObj_type ?_ (by show 2<=sizeLine;decide);have F:af X c σ r { s1 with heap:=s1.heap.push { cls:=.type "tuple",data:=.seq [d,u2].toArray } }:=R.kept (t':=s1.toks) λb o e=>Vg _ e;rw[hw];refine on (X7 ?_);show wpAny (model X.prog X.w) X.A (do rule "assign.swapped-stores"; let items <- unpackItems (.ref s1.heap.objs.size) 2 none;assignInOrder [λv=>bindName X.env y v,λv=>bindName X.env x v] items.reverse;pure Flow.next) _ _ _;refine on (wpAny_rule (on (unpackItems_tuple (items:=#[d,u2]) (I.ok.hd J) (IsTup.new s1.heap _) λh' m=>?_)));have V:=F.kept (h':=h') (t':=s1.toks) λb o e=>m b o (Vi (Vb e)) e;show wpAny _ _ (assignInOrder [λv=>bindName X.env y v,λv=>bindName X.env x v] [u2,d] >>= λ_=>pure Flow.next) _ _ _;refine on (assignInOrder_cons (wpAny_bindName (j9 V hN U (.inl z) g (λW O=>?_) (.inr z))));refine assignInOrder_cons (wpAny_bindName (j9 O hN C (.inl hx) G (λY u=>assignInOrder_nil (X7 ?_)) (.inr hx)));rw[List.set_comm _ _ (Ne.symm f)]at u;exact⟨_,r,u,n⟩
end
section
variable {X:Cx}{pos:Pos}
def Aa(c:TT)(tb:TS):TS:=λD σ H=>∃W:Nat->St->Hp->Prop,(∃m,W m σ H)/\∀m σ H,W m σ H ->
 c σ H λb a=>if b=true then ∃N:St->Hp->Prop,(∀σ' H',N σ' H'->∃m',m'<m/\W m' σ' H')/\tb { D with nx:=N,ct:=N,bk:=D.nx } σ a else D.nx σ a
def Kk{c:Expr}{body:List Stmt}{y:TT}{tb:TS}(x:PassesOwn (model X.prog X.w) X.A X.env X.xe)(G:PT X c y)(hb:gb X body tb):PS X (.While c body [] pos) (Aa y tb):=by
 intro a s σ H D I h;obtain⟨W,⟨J,C⟩,g⟩:=h;refine wpAny_While (codeAny_whileLoop (λn M=>∃σ' H',af X a σ' H' M/\W n σ' H') ?_ J ⟨σ,H,I,C⟩);rintro n s1 ⟨i,u,L,B⟩;refine wpAny_passesOwn x (aB (G a s1 i u _ L (g n i u B)) λb F ζ=>?_);obtain⟨z,r,k⟩:=ζ;cases b with
 | true =>
  obtain⟨N,hN,k⟩:=k;rw[X9 rfl];refine wpAny_passesOwn x (aB (hb a F i z _ r k) λf O j=>?_);cases f with
  | next =>
   obtain⟨e,d,q,l⟩:=j;obtain⟨p,m,o⟩:=hN e d l;exact⟨p,m,e,d,q,o⟩
  | cont =>
   obtain⟨e,d,q,l⟩:=j;obtain⟨p,m,o⟩:=hN e d l;exact⟨p,m,e,d,q,o⟩
  | brk=>exact j
  | ret v=>exact j
 | false =>
  rw[X8 Vn];exact wpAny_execs_nil ⟨i,z,r,k⟩
end
structure It where
 go:Nat->Hp->Prop
 yld:Nat->Hp->V->Hp->Prop
 stop:Nat->Hp->Prop
def gC(X:Cx)(a:List (Addr × Obj))(H:Hp)(b:Addr):Prop :=
 H b=none/\b≠X.env.locals/\b∉X.fs/\(b∈X.ex\/X.s₀.heap.objs.size<=b)/\(∀x c,X.env.cells.lookup x=some c->c≠b)/\∀p∈X.pn++a,p.1≠b
def af.fpOk{X:Cx}{a:List (Addr × Obj)}{σ:St}{H d:Hp}{s:fy}{b:Addr}(I:af X a σ H s)(hb:s.heap.objs.size<=b)(f:d b=none):gC X a d b:=by
 refine⟨f,V6 (Vd I.lt hb),I.nofs hb,.inr (Vs I.sz hb),λx c e z=>?_,λp g z=>?_⟩
 ·obtain⟨v,q⟩:=I.cell x c e;exact Ya (Vd q.lt (by rw[z];exact hb)) (VJ _)
 ·exact Ya (Vd (Vb (I.pin p g).1) (by rw[z];exact hb)) (VJ _)
structure jo (P:Program) (w:World) (K:W.Frag) (tg:Expr) (J:It) (fp:List Addr) (it:Addr) (tn:Nat->Heap->Prop):Prop where
 mem:it∈fp
 obj:∀i h,tn i h->∀b∈fp,∃o,h.get? b=some o/\∀v,o.data ≠ .cell v
 keep:∀i h h',tn i h->(∀b∈fp,∀o,h.get? b=some o->h'.get? b=some o)->tn i h'
 item:∀(X:Cx),X.prog=P->X.w=w->X.K=K->X.calm=true->∀(i:Nat) (pins:List (Addr × Obj)) (s:fy) (σ:St) (H:Hp) (E:Value->fy->Prop),af X pins σ H s->(∀b∈fp,gC X pins H b)->tn i s.heap->J.go i H ->
  wpAny (model P w) X.A (pyNext (.ref it)) (λr s1=>∃u,r=some u /\
   wpAny (model P w) X.A (letOwnedTupleGo tg (.ref it) u) (λ_ s2=>∃x H',af X pins σ H' s2/\aR x u/\J.yld i H x H'/\tn (i+1) s2.heap/\∀b∈fp,H' b=none) E s1) E s
 done:∀(X:Cx),X.prog=P->X.w=w->X.K=K->X.calm=true->∀(i:Nat) (pins:List (Addr × Obj)) (s:fy) (σ:St) (H:Hp) (E:Value->fy->Prop),af X pins σ H s->(∀b∈fp,gC X pins H b)->tn i s.heap->J.stop i H ->
  wpAny (model P w) X.A (pyNext (.ref it)) (λr s1=>r=none/\af X pins σ H s1) E s
 self:∀(A:Around) (i:Nat) (s:fy) (Q:Value->fy->Prop) (E:Value->fy->Prop),tn i s.heap->Q (.ref it) s->wpAny (model P w) A (pyIter (.ref it)) Q E s
abbrev TI:=St->Hp->(It->Hp->Prop)->Prop
def Ez(X:Cx)(a:List (Addr × Obj))(σ:St)(f:Expr)(R:It->Hp->Prop)(c:Value)(e:fy):Prop :=
 ∃(it:Addr) (fp:List Addr) (tn:Nat->Heap->Prop) (J:It) (d:Hp),c=.ref it/\af X a σ d e/\jo X.prog X.w X.K f J fp it tn/\tn 0 e.heap/\(∀b∈fp,gC X a d b)/\R J d
def PI(X:Cx)(c b:Expr)(d:TI):Prop :=
 ∀(a:List (Addr × Obj)) (s:fy) (σ:St) (H:Hp) (R:It->Hp->Prop),af X a σ H s->d σ H R ->
  wpAny (model X.prog X.w) X.A (eval b X.env) (λv s1=>wpAny (model X.prog X.w) X.A (pyIter v) (Ez X a σ c R) X.xe s1) X.xe s
def qU{M:Model}{A:Around}{E:Value->fy->Prop}{s:fy}{a:Expr}{it:Addr}{u:Value}{o:Obj}{n:String}{vs:Array Value}{Q:Unit->fy->Prop}(ho:s.heap.get? it=some o)(c:o.cls=.type n)(hd:o.data=.fields vs)
 (b:["enumerate", "zip", "dict_itemiterator", "dict_reverseitemiterator", "odict_iterator", "itertools.zip_longest", "itertools.pairwise"].contains n=false) (hQ:Q () s):wpAny M A (letOwnedTupleGo a (.ref it) u) Q E s:=by
 unfold letOwnedTupleGo;cases a<;>first
  | exact X7 hQ
  | (cases u<;>first
      | exact X7 hQ
      | (refine on (wpAny_load ho ?_)
         rw[c,hd];show wpAny M A (if (["enumerate", "zip", "dict_itemiterator", "dict_reverseitemiterator", "odict_iterator", "itertools.zip_longest", "itertools.pairwise"].contains n && vs[0]? == some (rawInt _))=true then _ else _) Q E s;rw[X8 (by intro h;rw[b,Bool.false_and]at h;cases h)];exact X7 hQ))
def iF(K:W.Frag)(a:Addr):It :=
 ⟨λi H=>∃xs x,aH K H a xs/\xs[i]? = some x,λi H x b=>b=H/\∀xs,aH K H a xs->xs[i]? = some x,λi H=>∃xs,aH K H a xs/\xs.length<=i⟩
def pI(K:W.Frag)(a:Addr):It :=
 ⟨λi H=>∃xs x,bw K H a xs/\xs[i]? = some x,λi H x b=>b=H/\∀xs,bw K H a xs->xs[i]? = some x,λi H=>∃xs,bw K H a xs/\xs.length<=i⟩
def iY(lo:Int)(n:Nat):It:=⟨λi _=>i<n,λi H x a=>a=H/\x=.int (lo+i),λi _=>n<=i⟩
def GL{P:Program}{w:World}{K:W.Frag}{G:Expr}(a it:Addr):jo P w K G (iF K a) [it] it (λi h=>h.IsListIter it a i) where
 mem:=by simp
 obj:=λi h st b hb=>by
  have e:b=it:=by simpa using hb
  subst e;obtain⟨o,e,c,d⟩:=st;exact⟨o,e,λv z=>by rw[d]at z;cases z⟩
 keep:=λi h h' st k=>st.at λo e=>k it (by simp) o e
 item:=by
  intro X hP hw hK D i f s σ H E I hf st l;subst hP hw hK;obtain⟨xs,x,j,hx⟩:=l;obtain⟨r,n,p,hz⟩:=I.list j;obtain⟨u,J,N⟩:=n.get hx;obtain⟨y,m,F,q,C,B⟩:=hf it (by simp);refine wpAny_pyNext_list_item st p.isList (x:=u) (by simpa using J) λh' g sb=>?_;have L:af X f σ H { s with heap:=h' }:=I.turned (t':=s.toks) (λb o hb e=>(sb.2 b hb).trans e) y m q C B;obtain⟨o,e,c,d⟩:=id g;exact⟨u,rfl,qU (s:={ s with heap:=h' }) e c d (by decide) ⟨x,H,L,N,⟨rfl,λys O=>by rw[I.list_inj O j];exact hx⟩,g,λb hb=>(hf b hb).1⟩⟩
 done:=by
  intro X hP hw hK D i f s σ H E I hf st l;subst hP hw hK;obtain⟨xs,j,hx⟩:=l;obtain⟨r,n,p,hz⟩:=I.list j;obtain⟨y,m,F,q,C,B⟩:=hf it (by simp);have R:=n.length;exact wpAny_pyNext_list_end (I.ok.hd D) st p.isList (by simp;omega) λh' M=>⟨rfl,I.turned (t':=s.toks) (λb o hb e=>M b o hb e) y m q C B⟩
 self:=λ_ _ _ _ _ st h=>wpAny_pyIter_listiter st h
def GI{P:Program}{w:World}{K:W.Frag}{G:Expr}(a it:Addr):jo P w K G (pI K a) [it] it (λi h=>h.IsTupleIter it a i) where
 mem:=by simp
 obj:=λi h st b hb=>by
  have e:b=it:=by simpa using hb
  subst e;obtain⟨o,e,c,d⟩:=st;exact⟨o,e,λv z=>by rw[d]at z;cases z⟩
 keep:=λi h h' st k=>st.at λo e=>k it (by simp) o e
 item:=by
  intro X hP hw hK D i f s σ H E I hf st m;subst hP hw hK;obtain⟨xs,x,l,hx⟩:=m;obtain⟨g,q,p,hz⟩:=I.tuple l;obtain⟨u,J,N⟩:=q.get hx;obtain⟨y,n,F,r,C,B⟩:=hf it (by simp);refine wpAny_pyNext_tuple_item st (show s.heap.IsTuple a g.toArray from p) (x:=u) (by simpa using J) λh' j sb=>?_;have L:af X f σ H { s with heap:=h' }:=I.turned (t':=s.toks) (λb o hb e=>(sb.2 b hb).trans e) y n r C B;obtain⟨o,e,c,d⟩:=id j;exact⟨u,rfl,qU (s:={ s with heap:=h' }) e c d (by decide) ⟨x,H,L,N,⟨rfl,λys O=>by rw[I.tuple_inj O l];exact hx⟩,j,λb hb=>(hf b hb).1⟩⟩
 done:=by
  intro X hP hw hK D i f s σ H E I hf st m;subst hP hw hK;obtain⟨xs,l,hx⟩:=m;obtain⟨g,q,p,hz⟩:=I.tuple l;obtain⟨y,n,F,r,C,B⟩:=hf it (by simp);have R:=q.length;exact wpAny_pyNext_tuple_end (I.ok.hd D) st (show s.heap.IsTuple a g.toArray from p) (by simp;omega) λh' M=>⟨rfl,I.turned (t':=s.toks) (λb o hb e=>M b o hb e) y n r C B⟩
 self:=λ_ _ _ _ _ st h=>wpAny_pyIter_tupleiter st h
def GK{P:Program}{w:World}{K:W.Frag}{r:Expr}(it:Addr)(lo:Int)(n:Nat):jo P w K r (iY lo n) [it] it (λi h=>IsRangeIter h it (lo+(i:Nat)*1) ((n:Int)-(i:Nat)) 1) where
 mem:=by simp
 obj:=λi h st b hb=>by
  have e:b=it:=by simpa using hb
  subst e;exact⟨_,st,λv z=>by
   have u:Data.fields _=Data.cell v:=z;cases u⟩
 keep:=λi h h' st k=>k it (by simp) _ st
 item:=by
  intro X hP hw hK p i a s σ H E I hf st f;subst hP hw hK;obtain⟨m,j,y,l,g,d⟩:=hf it (by simp);have W:=Walks.range (prog:=X.prog) (w:=X.w) (I.ok.hd p) it lo 1 n;refine W.item i s _ _ f st λv h' q x c D=>?_;obtain⟨t,rfl⟩:=x;have B:af X a σ H { s with heap:=h',toks:=q }:=I.turned (λb o hb e=>D b o (by simpa using hb) e) m j l g d;refine⟨_,rfl,qU (s:={ s with heap:=h',toks:=q }) (n := "range_iterator") c rfl rfl (by decide) ⟨.int (lo+i),H,B,⟨t,?_⟩,⟨rfl,rfl⟩,c,λb hb=>(hf b hb).1⟩⟩;rw[Int.mul_one]
 done:=by
  intro X hP hw hK p i a s σ H E I hf st f;subst hP hw hK;obtain⟨m,j,y,l,g,d⟩:=hf it (by simp);exact wpAny_pyNext_range_end (I.ok.hd p) st (by have:n<=i:=f;omega) λh' C=>⟨rfl,I.turned (t':=s.toks) (λb o hb e=>C b o hb e) m j l g d⟩
 self:=λ_ _ _ _ _ st h=>wpAny_pyIter_rangeiter st h
section
variable {X:Cx}{tg:Expr}
def uD(K:W.Frag)(c:TE):TI:=λσ H R=>c σ H λx b=>∃a,x=.ref a/\(∃xs,aH K b a xs)/\R (iF K a) b
def uC(K:W.Frag)(c:TE):TI:=λσ H R=>c σ H λx b=>∃a,x=.ref a/\(∃xs,bw K b a xs)/\R (pI K a) b
def KR{l:Expr}{f:TE}(m:PE X l f):PI X tg l (uD X.K f):=by
 intro c s σ H R I h;refine aB (m c s σ H _ I h) λv s1 ζ=>?_;obtain⟨x,i,d,g,j⟩:=ζ;obtain⟨a,e,⟨xs,k⟩,q⟩:=j;subst e;cases g;obtain⟨n,r,p,hz⟩:=d.list k;refine wpAny_pyIter_list p.isList ?_;refine⟨s1.heap.objs.size,[s1.heap.objs.size],_,_,i,Z,d.kept (t':=s1.toks) λb o e=>Vg _ e,GL a _,⟨_,VH _ Z,Z,Z⟩,λb hb=>?_,q⟩;have e:b=s1.heap.objs.size:=by simpa using hb
 subst e;exact d.fpOk (Va _) (d.hok.fresh (Va _))
def KN{l:Expr}{g:TE}(n:PE X l g):PI X tg l (uC X.K g):=by
 intro c s σ H R I h;refine aB (n c s σ H _ I h) λv s1 ζ=>?_;obtain⟨x,j,d,i,k⟩:=ζ;obtain⟨a,e,⟨xs,m⟩,q⟩:=k;subst e;cases i;obtain⟨f,r,p,hz⟩:=d.tuple m;refine wpAny_pyIter_tuple (show s1.heap.IsTuple a f.toArray from p) ?_;refine⟨s1.heap.objs.size,[s1.heap.objs.size],_,_,j,Z,d.kept (t':=s1.toks) λb o e=>Vg _ e,GI a _,⟨_,VH _ Z,Z,Z⟩,λb hb=>?_,q⟩;have e:b=s1.heap.objs.size:=by simpa using hb
 subst e;exact d.fpOk (Va _) (d.hok.fresh (Va _))
def Bp{c:List (Addr × Obj)}{σ:St}{H:Hp}{s:fy}{R:It->Hp->Prop}{E:Value->fy->Prop}{lo a:Int}{t u v:Tok}{d:Nat}(I:af X c σ H s)(k : -(2 ^ 62)<=lo)(h:lo<2 ^ 62)(j : -(2 ^ 62)<=a)(g:a<2 ^ 62)
 (q:R (iY lo (a-lo).toNat) H):wpAny (model X.prog X.w) X.A (pyIter (.ref s.heap.objs.size)) (Ez X c σ tg R) E { s with heap:=s.heap.push { cls:=.type "range",data:=.fields #[.int lo t,.int a u,.int 1 v] },toks:=d }:=by
 refine wpAny_pyIter_range (IsRange.new ..) (small_one k h j g) ?_;have f:af X c σ H { s with heap:=s.heap.push { cls:=.type "range",data:=.fields #[.int lo t,.int a u,.int 1 v] },toks:=d }:=I.kept λb o e=>Vg _ e;refine⟨(s.heap.push { cls:=.type "range",data:=.fields #[.int lo t,.int a u,.int 1 v] }).objs.size,[(s.heap.push { cls:=.type "range",data:=.fields #[.int lo t,.int a u,.int 1 v] }).objs.size],_,_,H,Z,
  f.kept (t':=d) λb o e=>Vg _ e,GK _ lo (a-lo).toNat,?_,λb hb=>?_,q⟩
 ·have l:lo+((0:Nat):Int)*1=lo:=by simp
  have i:(((a-lo).toNat:Nat):Int)-((0:Nat):Int)=Builtin.Range.rangeSize lo a 1:=by rw[rangeSize_one];split<;>omega
  show IsRangeIter _ _ (lo+((0:Nat):Int)*1) ((((a-lo).toNat:Nat):Int)-((0:Nat):Int)) 1;rw[l,i];exact VH _ Z
 ·have e:b=(s.heap.push { cls:=.type "range",data:=.fields #[.int lo t,.int a u,.int 1 v] }).objs.size:=by simpa using hb
  subst e;exact f.fpOk (Va _) (f.hok.fresh (Va _))
def CP(a:TA):TI:=λσ H R=>a σ H λvs b=>∃j:Int,vs=[.int j]/\-(2 ^ 62)<=j/\j<2 ^ 62/\R (iY 0 j.toNat) b
def CO(a:TA):TI:=λσ H R=>a σ H λvs b=>∃i j:Int,vs=[.int i,.int j]/\(-(2 ^ 62)<=i/\i<2 ^ 62/\-(2 ^ 62)<=j/\j<2 ^ 62)/\R (iY i (j-i).toNat) b
def KQ {a:Expr} {d:TA} {p pos:Pos} (g:Gl X "range") (i:X.mg "range" = none) (m:PA X [a] d) (hs:starEach [a] X.env=[(false,eval a X.env)]:=by rfl):PI X tg (.Call (.Name "range" p) [a] [] pos) (CP d):=by
 intro b s σ H R I h;refine Call_ (ia I g i boot_range (V7 (aB (m pos b s σ H _ I h) λus s1 ζ=>?_) hs Z));obtain⟨vs,n,l,f,c⟩:=ζ;obtain⟨j,e,c,k,q⟩:=c;subst e;cases f with
 | cons r rr =>
  cases rr;obtain⟨t,rfl⟩:=r;exact call_range_1 (Bp l (by omega) (by omega) c k (by simpa using q))
def KP {a b:Expr} {g:TA} {p pos:Pos} (m:Gl X "range") (n:X.mg "range" = none) (x:PA X [a,b] g) (hs:starEach [a,b] X.env=[(false,eval a X.env),(false,eval b X.env)]:=by rfl) (d:starEach [b] X.env=[(false,eval b X.env)]:=by rfl) :
 PI X tg (.Call (.Name "range" p) [a,b] [] pos) (CO g):=by
 intro c s σ H R I h;refine Call_ (ia I m n boot_range (V7 (aB (x pos c s σ H _ I h) λus s1 ζ=>?_) (by rw[hs,d]) (by rw[d];rfl)));obtain⟨vs,y,u,l,f⟩:=ζ;obtain⟨i,j,e,⟨f,o,v,k⟩,q⟩:=f;subst e;cases l with
 | cons r rr =>
  cases rr with
  | cons r' rr =>
   cases rr;obtain⟨t,rfl⟩:=r;obtain⟨t',rfl⟩:=r';exact call_range_2 (Bp u f o v k q)
def Ar(b:TI)(g:TG)(tb:TS):TS:=λD σ H=>b σ H λJ a=>∃W:Nat->Nat->St->Hp->Prop,(∃m,W 0 m σ a)/\∀i m σ H,W i m σ H ->
 (J.stop i H/\D.nx σ H)\/(J.go i H/\∃N:St->Hp->Prop,(∀σ' H',N σ' H'->∃m',m'<m/\W (i+1) m' σ' H')/\∀x H',J.yld i H x H'->g x σ H' λc d=>tb { D with nx:=N,ct:=N,bk:=D.nx } c d)
def nN(fp:List Addr)(h:Heap):List (Addr × Obj):=fp.filterMap λb=>(h.get? b).map λo=>(b,o)
def qB{fp:List Addr}{h:Heap}{b:Addr}{o:Obj}(hb:b∈fp)(e:h.get? b=some o):(b,o)∈nN fp h:=List.mem_filterMap.mpr ⟨b,hb,by rw[e];rfl⟩
def LW{fp:List Addr}{h:Heap}{p:Addr × Obj}(a:p∈nN fp h):p.1∈fp/\h.get? p.1=some p.2:=by
 obtain⟨b,hb,e⟩:=List.mem_filterMap.mp a;cases q:h.get? b with
 | none=>rw[q]at e;cases e
 | some o =>
  rw[q]at e;have c:(b,o)=p:=Vy e;subst c;exact⟨hb,q⟩
def af.pinned{a:List (Addr × Obj)}{σ:St}{H:Hp}{s:fy}{fp:List Addr}(I:af X a σ H s)(hf:∀b∈fp,gC X a H b)(ho:∀b∈fp,∃o,s.heap.get? b=some o/\∀v,o.data ≠ .cell v):af X (a++nN fp s.heap) σ H s :=
 I.pins_of λp h=>(Vm.mp h).elim (λz=>I.pin p (VA _ z)) λz=>by
  obtain⟨hb,e⟩:=LW z;obtain⟨i,f,g,_⟩:=hf p.1 hb;obtain⟨o,c,d⟩:=ho p.1 hb;rw[e]at c;cases c;exact⟨e,i,f,g,d⟩
def af.unpinned{a pl:List (Addr × Obj)}{σ:St}{H:Hp}{s:fy}(I:af X (a++pl) σ H s):af X a σ H s:=I.pins_of λp b=>I.pin p (VA _ (VQ _ b))
def Ks{k:Expr}{body:List Stmt}{wi:TI}{g:TG}{tb:TS}{pos:Pos}(G:PassesOwn (model X.prog X.w) X.A X.env X.xe)(hc:X.calm=true)(hi:PI X tg k wi)(hg:PG X tg g)(hb:gb X body tb)
 (hs:∀x,foldedSetIterable k X.env x=pure x:=by intro _;rfl):PS X (.For tg k body [] pos) (Ar wi g tb):=by
 intro a s σ H D I h;refine wpAny_For (aB (hi a s σ H _ I h) λv s1 h1=>aB h1 λal s2 h2=>?_) hs;obtain⟨it,fp,tn,J,H2,e,I2,T,R,f2,W,⟨m0,w0⟩,M⟩:=h2;subst e;have q:∀ {y:Hp},(∀b∈fp,y b=none)->∀b∈fp,gC X a y b:=λhn b hb=>⟨hn b hb,(f2 b hb).2⟩;refine codeAny_forLoop_any (λn s'=>∃i σ' y,af X a σ' y s'/\tn i s'.heap/\(∀b∈fp,y b=none)/\W i n σ' y) ?_ m0 ⟨0,σ,H2,I2,R,λb hb=>(f2 b hb).1,w0⟩;rintro n s3 ⟨i,L,O,I3,F,C,w3⟩;rcases M i n L O w3 with ⟨stop,qn⟩|⟨go,N,hN,step⟩
 ·refine wpAny_passesOwn G (aB (T.done X Z Z Z hc i a s3 L O X.xe I3 (q C) F stop) λr s4 ζ=>?_);obtain⟨V,I4⟩:=ζ;subst V;exact wpAny_execs_nil ⟨L,O,I4,qn⟩
 ·refine wpAny_passesOwn G (aB (T.item X Z Z Z hc i a s3 L O X.xe I3 (q C) F go) λr s4 ζ=>?_);obtain⟨u,V,h4⟩:=ζ;subst V;refine wpAny_passesOwn G (aB h4 λ_ s5 ζ=>?_);obtain⟨x,H5,I5,r5,y5,gD,S⟩:=ζ;have U:=I5.pinned (q S) (T.obj _ _ gD);refine wpAny_passesOwn G (aB (hg _ s5 L H5 x u _ U r5 (step x H5 y5)) λ_ s6 ζ=>?_);obtain⟨σ6,H6,I6,q6⟩:=ζ;refine wpAny_passesOwn G (aB (hb _ s6 σ6 H6 _ I6 q6) λf Y z=>?_);have l:∀ {p:St} {j:Hp},af X (a++nN fp s5.heap) p j Y->N p j->∃m,m<n/\∃i σ' y,af X a σ' y Y/\tn i Y.heap/\(∀b∈fp,y b=none)/\W i m σ' y:=λ{p j} c B=>by
   obtain⟨m',hm,w7⟩:=hN p j B;refine⟨m',hm,i+1,p,j,c.unpinned,T.keep _ _ _ gD λb hb o e=>(c.pin (b,o) (VA _ (VA _ (qB hb e)))).1,λb hb=>?_,w7⟩;obtain⟨o,e,d⟩:=T.obj _ _ gD b hb;exact (c.pin (b,o) (VA _ (VA _ (qB hb e)))).2.1
  cases f with
  | next=>obtain⟨p,j,c,B⟩:=z;exact l c B
  | cont=>obtain⟨p,j,c,B⟩:=z;exact l c B
  | brk=>obtain⟨p,j,c,z⟩:=z;exact⟨p,j,c.unpinned,z⟩
  | ret v=>obtain⟨x7,p,j,c,r7,z⟩:=z;exact⟨x7,p,j,c.unpinned,r7,z⟩
end
def iS{K:W.Frag}{a:Addr}{xs:List V}{g:TG}{tb:TS}{D:ff}{σ:St}{H:Hp}(b:Nat->St->Hp->Prop)(l:b 0 σ H)(n:∀i σ H,i<=xs.length->b i σ H->aH K H a xs)
 (hs:∀i x σ H,xs[i]? = some x->b i σ H->g x σ H λh d=>tb { D with nx:=b (i+1),ct:=b (i+1),bk:=D.nx } h d) (hd:∀σ H,b xs.length σ H->D.nx σ H) :
 ∃W:Nat->Nat->St->Hp->Prop,(∃m,W 0 m σ H)/\∀i m σ H,W i m σ H ->
  ((iF K a).stop i H/\D.nx σ H)\/((iF K a).go i H/\∃N:St->Hp->Prop,(∀f c,N f c->∃m',m'<m/\W (i+1) m' f c)/\∀x c,(iF K a).yld i H x c->g x σ c λh d=>tb { D with nx:=N,ct:=N,bk:=D.nx } h d):=by
 refine⟨λi m σ H=>m=xs.length-i/\i<=xs.length/\b i σ H,⟨xs.length,by simp,Vq _,l⟩,?_⟩;rintro i m σ H ⟨rfl,k,p⟩;have q:=n i σ H k p;by_cases hlt:i<xs.length
 ·refine .inr ⟨⟨xs,xs[i],q,by simp[hlt]⟩,b (i+1),λf c j=>⟨xs.length-(i+1),by omega,rfl,hlt,j⟩,λx c y=>?_⟩;obtain⟨e,y⟩:=y;subst e;exact hs i x σ _ (y xs q) p
 ·have e:i=xs.length:=by omega
  subst e;exact .inl ⟨⟨xs,q,Va _⟩,hd σ H p⟩
def Qq{K:W.Frag}{a:Addr}{xs:List V}{g:TG}{tb:TS}{D:ff}{σ:St}{H:Hp}(b:Nat->St->Hp->Prop)(l:b 0 σ H)(n:∀i σ H,i<=xs.length->b i σ H->bw K H a xs)
 (hs:∀i x σ H,xs[i]? = some x->b i σ H->g x σ H λh d=>tb { D with nx:=b (i+1),ct:=b (i+1),bk:=D.nx } h d) (hd:∀σ H,b xs.length σ H->D.nx σ H) :
 ∃W:Nat->Nat->St->Hp->Prop,(∃m,W 0 m σ H)/\∀i m σ H,W i m σ H ->
  ((pI K a).stop i H/\D.nx σ H)\/((pI K a).go i H/\∃N:St->Hp->Prop,(∀f c,N f c->∃m',m'<m/\W (i+1) m' f c)/\∀x c,(pI K a).yld i H x c->g x σ c λh d=>tb { D with nx:=N,ct:=N,bk:=D.nx } h d):=by
 refine⟨λi m σ H=>m=xs.length-i/\i<=xs.length/\b i σ H,⟨xs.length,by simp,Vq _,l⟩,?_⟩;rintro i m σ H ⟨rfl,k,p⟩;have q:=n i σ H k p;by_cases hlt:i<xs.length
 ·refine .inr ⟨⟨xs,xs[i],q,by simp[hlt]⟩,b (i+1),λf c j=>⟨xs.length-(i+1),by omega,rfl,hlt,j⟩,λx c y=>?_⟩;obtain⟨e,y⟩:=y;subst e;exact hs i x σ _ (y xs q) p
 ·have e:i=xs.length:=by omega
  subst e;exact .inl ⟨⟨xs,q,Va _⟩,hd σ H p⟩
def vf{lo:Int}{n:Nat}{g:TG}{tb:TS}{D:ff}{σ:St}{H:Hp}(a:Nat->St->Hp->Prop)(j:a 0 σ H)
 (hs:∀i σ H,i<n->a i σ H->g (.int (lo+i)) σ H λf c=>tb { D with nx:=a (i+1),ct:=a (i+1),bk:=D.nx } f c) (hd:∀σ H,a n σ H->D.nx σ H) :
 ∃W:Nat->Nat->St->Hp->Prop,(∃m,W 0 m σ H)/\∀i m σ H,W i m σ H ->
  ((iY lo n).stop i H/\D.nx σ H)\/((iY lo n).go i H/\∃N:St->Hp->Prop,(∀d b,N d b->∃m',m'<m/\W (i+1) m' d b)/\∀x b,(iY lo n).yld i H x b->g x σ b λf c=>tb { D with nx:=N,ct:=N,bk:=D.nx } f c):=by
 refine⟨λi m σ H=>m=n-i/\i<=n/\a i σ H,⟨n,by simp,Vq _,j⟩,?_⟩;rintro i m σ H ⟨rfl,k,p⟩;by_cases hlt:i<n
 ·refine .inr ⟨hlt,a (i+1),λd b h=>⟨n-(i+1),by omega,rfl,hlt,h⟩,λx b y=>?_⟩;obtain⟨e,y⟩:=y;subst e y;exact hs i σ _ hlt p
 ·have e:i=n:=by omega
  subst e;exact .inl ⟨Va _,hd σ H p⟩
abbrev R2:=V->V->Hp->VK->Prop
def be(X:Cx)(f:Value->Value->Sem Value)(r:R2):Prop :=
 ∀(a:List (Addr × Obj)) (s:fy) (σ:St) (H:Hp) (x y:V) (v u:Value) (Q:VK),af X a σ H s->aR x v->aR y u->r x y H Q ->
  wpAny (model X.prog X.w) X.A (f v u) (EP X a σ Q) X.xe s
def pB(X:Cx)(f:Value->Sem Value)(r:V->Hp->VK->Prop):Prop :=
 ∀(a:List (Addr × Obj)) (s:fy) (σ:St) (H:Hp) (x:V) (v:Value) (Q:VK),af X a σ H s->aR x v->r x H Q ->
  wpAny (model X.prog X.w) X.A (f v) (EP X a σ Q) X.xe s
def ck(X:Cx)(f:Value)(r:List V->Hp->VK->Prop):Prop :=
 ∀(a:List (Addr × Obj)) (s:fy) (σ:St) (H:Hp) (xs:List V) (us:List Value) (Q:VK),af X a σ H s->aJ xs us->r xs H Q ->
  wpAny (model X.prog X.w) X.A (call f us) (EP X a σ Q) X.xe s
def TC(X:Cx)(r:V->Hp->(Bool->Hp->Prop)->Prop):Prop :=
 ∀(a:List (Addr × Obj)) (s:fy) (σ:St) (H:Hp) (x:V) (v:Value) (Q:Bool->Hp->Prop),af X a σ H s->aR x v->r x H Q ->
  wpAny (model X.prog X.w) X.A (truthy v) (TP X a σ Q) X.xe s
def iI(r:R2)(b tb:TE):TE:=λσ H Q=>b σ H λx c=>tb σ c λy a=>r x y a Q
def Ac(r:V->Hp->VK->Prop)(a:TE):TE:=λσ H Q=>a σ H λx b=>r x b Q
def rI(C:Int->Int->Prop)(g:Int->Int->V):R2:=λx y H Q=>∃i j,x=.int i/\y=.int j/\C i j/\Q (g i j) H
def iK(g:Int->Int->V):R2:=λx y H Q=>∃i j,x=.int i/\y=.int j/\Q (g i j) H
def rU(g:Int->V):V->Hp->VK->Prop:=λx H Q=>∃i,x=.int i/\Q (g i) H
section
variable {X:Cx}{a b c:Expr}{ta tb tc:TE}{pos:Pos}
def xZ(m:PE X a ta)(hb:PE X b tb){c:List (Addr × Obj)}{s:fy}{σ:St}{H:Hp}{R:V->V->Hp->Prop}(I:af X c σ H s)
 (h:ta σ H λx g=>tb σ g λy d=>R x y d) {Q:Value->fy->Prop} {f:Value->Value->Sem Value}
 (hf:∀v u e x y d,af X c σ d e->aR x v->aR y u->R x y d->wpAny (model X.prog X.w) X.A (f v u) Q X.xe e) :
 wpAny (model X.prog X.w) X.A (eval a X.env) (λv j=>wpAny (model X.prog X.w) X.A (eval b X.env) (λu q=>wpAny (model X.prog X.w) X.A (f v u) Q X.xe q) X.xe j) X.xe s:=by
 refine aB (m c s σ H _ I h) λv s1 ζ=>?_;obtain⟨x,g,p,i,l⟩:=ζ;refine aB (hb c s1 σ g _ p l) λu e ζ=>?_;obtain⟨y,d,k,n,o⟩:=ζ;exact hf v u e x y d k i n o
def K4{d:Operator}{r:R2}(ho:be X (binaryOp d) r)(k:PE X a ta)(hb:PE X b tb):PE X (.BinOp a d b pos) (iI r ta tb):=by
 intro c s σ H Q I h;exact wpAny_BinOp (xZ k hb I h λv u j x y e f i g q=>ho c j σ e x y v u Q f i g q)
def K0{c:UnaryOp}{r:V->Hp->VK->Prop}(ho:pB X (unaryOp c) r)(i:PE X a ta):PE X (.UnaryOp c a pos) (Ac r ta):=by
 intro b s σ H Q I h;refine UnaryOp_ (aB (i b s σ H _ I h) λv s1 ζ=>?_);obtain⟨x,e,g,d,f⟩:=ζ;exact ho b s1 σ e x v Q g d f
def nP{f:Value->Value->Sem Value}{C:Int->Int->Prop}{g:Int->Int->Int}
 (a:∀(i j:Int) (t u:Tok) (s:fy) (Q:Value->fy->Prop) (E:Value->fy->Prop),C i j->Q (.int (g i j) s.toks) { s with toks:=s.toks+1 }->wpAny (model X.prog X.w) X.A (f (.int i t) (.int j u)) Q E s) :
 be X f (rI C λi j=>.int (g i j)):=by
 intro b s σ H x y v u Q I d c h;obtain⟨i,j,rfl,rfl,e,q⟩:=h;obtain⟨t,rfl⟩:=d;obtain⟨t',rfl⟩:=c;exact a i j t t' s _ _ e ⟨.int (g i j),H,I.tok _,⟨_,Z⟩,q⟩
def B1{f:Value->Value->Sem Value}{g:Int->Int->Int}
 (a:∀(i j:Int) (t u:Tok) (s:fy) (Q:Value->fy->Prop) (E:Value->fy->Prop),Q (.int (g i j) s.toks) { s with toks:=s.toks+1 }->wpAny (model X.prog X.w) X.A (f (.int i t) (.int j u)) Q E s) :
 be X f (iK λi j=>.int (g i j)):=by
 intro b s σ H x y v u Q I d c h;obtain⟨i,j,rfl,rfl,q⟩:=h;obtain⟨t,rfl⟩:=d;obtain⟨t',rfl⟩:=c;exact a i j t t' s _ _ ⟨.int (g i j),H,I.tok _,⟨_,Z⟩,q⟩
def qr{f:Value->Value->Sem Value}{g:Int->Int->Bool}
 (a:∀(i j:Int) (t u:Tok) (s:fy) (Q:Value->fy->Prop) (E:Value->fy->Prop),Q (.bool (g i j)) s->wpAny (model X.prog X.w) X.A (f (.int i t) (.int j u)) Q E s) :
 be X f (iK λi j=>.bl (g i j)):=by
 intro b s σ H x y v u Q I d c h;obtain⟨i,j,rfl,rfl,q⟩:=h;obtain⟨t,rfl⟩:=d;obtain⟨t',rfl⟩:=c;exact a i j t t' s _ _ ⟨.bl (g i j),H,I,Z,q⟩
def Uu(i j:Int):Prop:=0<j/\j<1073741824
def FA(i j:Int):Prop:=0<=j/\j<=1000000/\i.natAbs<2 ^ 64
def sY(i j:Int):Prop:=(-(2 ^ 64)<i/\i<2 ^ 64)\/(-(2 ^ 64)<j/\j<2 ^ 64)
def sY.ok{i j:Int}(h:sY i j):IntMulOk i j:=by
 rcases h with ⟨h1,h2⟩|⟨h1,h2⟩
 ·exact .of_left (intBits_le_64 h1 h2)
 ·exact .of_right (intBits_le_64 h1 h2)
def LG:be X (binaryOp .Add) (iK λi j=>.int (i+j)):=B1 λ_ _ _ _ _ _ _ q=>add_int q
def Lr:be X (binaryOp .Sub) (iK λi j=>.int (i-j)):=B1 λ_ _ _ _ _ _ _ q=>sub_int q
def Ly:be X (binaryOp .Mult) (rI sY λi j=>.int (i*j)):=nP λ_ _ _ _ _ _ _ a q=>mul_int q a.ok
def LF:be X (binaryOp .FloorDiv) (rI Uu λi j=>.int (i/j)):=nP λi j _ _ _ _ _ a q=>by
 have c:(0:Int)<j:=a.1;have b:j<1073741824:=a.2;exact floordiv_int (by omega) (by rw[Int.fdiv_eq_ediv_of_nonneg i (by omega)];exact q) (.inl (XD (by omega)))
def BZ:be X (binaryOp .Mod) (rI (λ_ j=>0<j) λi j=>.int (i%j)):=nP λi j _ _ _ _ _ a q=>by
 have b:(0:Int)<j:=a;exact mod_int' (by omega) (by rw[Int.fmod_eq_emod_of_nonneg i (by omega)];exact q)
def Lu:be X (binaryOp .Pow) (rI FA λi j=>.int (i ^ j.toNat)):=nP λ_ _ _ _ _ _ _ a q=>pow_int_small a.1 a.2.1 a.2.2 q
def Gk{f:Value->Sem Value}{g:Int->Int}
 (a:∀(i:Int) (t:Tok) (s:fy) (Q:Value->fy->Prop) (E:Value->fy->Prop),Q (.int (g i) s.toks) { s with toks:=s.toks+1 }->wpAny (model X.prog X.w) X.A (f (.int i t)) Q E s) :
 pB X f (rU λi=>.int (g i)):=by
 intro b s σ H x v Q I c h;obtain⟨i,rfl,q⟩:=h;obtain⟨t,rfl⟩:=c;exact a i t s _ _ ⟨.int (g i),H,I.tok _,⟨_,Z⟩,q⟩
def Gj:pB X (unaryOp .USub) (rU λi=>.int (-i)):=Gk λ_ _ _ _ _ q=>neg_int q
end
def AW:V->V->Bool
 | .non,.non=>true|.non,.int _=>true|.int _,.non=>true|.non,.bl _=>true|.bl _,.non=>true|.non,.str _=>true|.str _,.non=>true
 | .int _,.int _=>true|.bl _,.bl _=>true|.str _,.str _=>true|.byt _,.byt _=>true
 | .int _,.str _=>true|.str _,.int _=>true|.bl _,.str _=>true|.str _,.bl _=>true
 | _,_=>false
def JM:R2:=λx y H Q=>AW x y=true/\Q (.bl (decide (x=y))) H
def JI:R2:=λx y H Q=>AW x y=true/\Q (.bl (!decide (x=y))) H
def DR{i j:Int}:decide (V.int i=V.int j)=(i == j):=by
 rw[We];simp
def rD{i j:Bool}:decide (V.bl i=V.bl j)=(i == j):=by
 rw[We];simp
def DP{i j:Str}:decide (V.str i=V.str j)=(i == j):=by
 rw[We];simp
def DS{i j:Array UInt8}:decide (V.byt i=V.byt j)=(i.toList == j.toList):=by
 rw[We];cases i;cases j;simp
section
variable {X:Cx}{a b c:Expr}{ta tb tc:TE}{pos:Pos}
def ci{a:List (Addr × Obj)}{σ:St}{H:Hp}{s:fy}{Q:VK}{k b:Bool}(I:af X a σ H s)(q:Q (.bl k) H)(e:k=b):EP X a σ Q (.bool b) s:=by
 subst e;exact⟨.bl k,H,I,Z,q⟩
def B0:be X (compareOp .Eq) JM:=by
 intro c s σ H x y v u Q I b a h;obtain⟨hs,q⟩:=h;cases x with
 | non =>
  cases b;cases y with
  | non=>cases a;exact PySem.EqNone.eq_none_none (ci I q (by simp))
  | bl j=>cases a;exact PySem.EqNone.eq_none_bool (ci I q (by simp))
  | int j=>obtain⟨t',rfl⟩:=a;exact PySem.EqNone.eq_none_int (ci I q (by simp))
  | str j=>obtain⟨t',rfl⟩:=a;exact PySem.EqNone.eq_none_str (ci I q (by simp))
  | _=>exact Ya (show false=true from hs) Vn
 | bl i =>
  cases b;cases y with
  | non=>cases a;exact PySem.EqNone.eq_bool_none (ci I q (by simp))
  | bl j=>cases a;exact eq_bool (ci I q rD)
  | str j=>obtain⟨t',rfl⟩:=a;exact PySem.EqMixed.eq_bool_str (ci I q (by simp))
  | _=>exact Ya (show false=true from hs) Vn
 | int i =>
  obtain⟨t,rfl⟩:=b;cases y with
  | non=>cases a;exact PySem.EqNone.eq_int_none (ci I q (by simp))
  | int j=>obtain⟨t',rfl⟩:=a;exact eq_int (ci I q DR)
  | str j=>obtain⟨t',rfl⟩:=a;exact PySem.EqMixed.eq_int_str (ci I q (by simp))
  | _=>exact Ya (show false=true from hs) Vn
 | str i =>
  obtain⟨t,rfl⟩:=b;cases y with
  | non=>cases a;exact PySem.EqNone.eq_str_none (ci I q (by simp))
  | bl j=>cases a;exact PySem.EqMixed.eq_str_bool (ci I q (by simp))
  | int j=>obtain⟨t',rfl⟩:=a;exact PySem.EqMixed.eq_str_int (ci I q (by simp))
  | str j=>obtain⟨t',rfl⟩:=a;exact eq_str (ci I q DP)
  | _=>exact Ya (show false=true from hs) Vn
 | byt i =>
  obtain⟨t,rfl⟩:=b;cases y with
  | byt j=>obtain⟨t',rfl⟩:=a;exact W.eq_bytes (ci I q DS)
  | _=>exact Ya (show false=true from hs) Vn
 | _=>cases y<;>exact Ya (show false=true from hs) Vn
def BY:be X (compareOp .NotEq) JI:=by
 intro c s σ H x y v u Q I b a h;obtain⟨hs,q⟩:=h;cases x with
 | non =>
  cases b;cases y with
  | non=>cases a;exact PySem.EqNone.ne_none_none (ci I q (by simp))
  | bl j=>cases a;exact PySem.EqNone.ne_none_bool (ci I q (by simp))
  | int j=>obtain⟨t',rfl⟩:=a;exact PySem.EqNone.ne_none_int (ci I q (by simp))
  | str j=>obtain⟨t',rfl⟩:=a;exact PySem.EqNone.ne_none_str (ci I q (by simp))
  | _=>exact Ya (show false=true from hs) Vn
 | bl i =>
  cases b;cases y with
  | non=>cases a;exact PySem.EqNone.ne_bool_none (ci I q (by simp))
  | bl j=>cases a;exact ne_bool (ci I q (congrArg not rD))
  | str j=>obtain⟨t',rfl⟩:=a;exact PySem.EqMixed.ne_bool_str (ci I q (by simp))
  | _=>exact Ya (show false=true from hs) Vn
 | int i =>
  obtain⟨t,rfl⟩:=b;cases y with
  | non=>cases a;exact PySem.EqNone.ne_int_none (ci I q (by simp))
  | int j=>obtain⟨t',rfl⟩:=a;exact ne_int (ci I q (congrArg not DR))
  | str j=>obtain⟨t',rfl⟩:=a;exact PySem.EqMixed.ne_int_str (ci I q (by simp))
  | _=>exact Ya (show false=true from hs) Vn
 | str i =>
  obtain⟨t,rfl⟩:=b;cases y with
  | non=>cases a;exact PySem.EqNone.ne_str_none (ci I q (by simp))
  | bl j=>cases a;exact PySem.EqMixed.ne_str_bool (ci I q (by simp))
  | int j=>obtain⟨t',rfl⟩:=a;exact PySem.EqMixed.ne_str_int (ci I q (by simp))
  | str j=>obtain⟨t',rfl⟩:=a;exact ne_str (ci I q (congrArg not DP))
  | _=>exact Ya (show false=true from hs) Vn
 | byt i =>
  obtain⟨t,rfl⟩:=b;cases y with
  | byt j=>obtain⟨t',rfl⟩:=a;exact W.ne_bytes (ci I q (congrArg not DS))
  | _=>exact Ya (show false=true from hs) Vn
 | _=>cases y<;>exact Ya (show false=true from hs) Vn
def Lz:be X (compareOp .Lt) (iK λi j=>.bl (decide (i<j))):=qr λ_ _ _ _ _ _ _ q=>lt_int q
def LA:be X (compareOp .LtE) (iK λi j=>.bl (decide (i<=j))):=qr λ_ _ _ _ _ _ _ q=>le_int q
def LD:be X (compareOp .Gt) (iK λi j=>.bl (decide (j<i))):=qr λ_ _ _ _ _ _ _ q=>gt_int q
def LE:be X (compareOp .GtE) (iK λi j=>.bl (decide (j<=i))):=qr λ_ _ _ _ _ _ _ q=>ge_int q
def LB:be X (compareOp .Is) (λx y H Q=>y=.non/\Q (.bl (decide (x=.non))) H):=by
 intro a s σ H x y v u Q I b c h;obtain⟨rfl,q⟩:=h;cases c;refine is_none_gen (ci I q ?_);cases x<;>first
  | (cases b;rfl)
  | (obtain⟨t,rfl⟩:=b;rfl)
def Lv:be X (compareOp .IsNot) (λx y H Q=>y=.non/\Q (.bl (!decide (x=.non))) H):=by
 intro a s σ H x y v u Q I b c h;obtain⟨rfl,q⟩:=h;cases c;refine isnot_none_gen (ci I q ?_);cases x<;>first
  | (cases b;rfl)
  | (obtain⟨t,rfl⟩:=b;rfl)
def av(b:Expr){a:CmpOp}(h:a ≠ .In:=by decide)(c:a ≠ .NotIn:=by decide):behindInMarks a b=false:=by
 have e:(a == CmpOp.In)=false:=by cases a<;>first|rfl|exact Ya rfl h
 have d:(a == CmpOp.NotIn)=false:=by cases a<;>first|rfl|exact Ya rfl c
 cases b<;>simp[behindInMarks,e,d]
def Lg{d:CmpOp}{r:R2}(ho:be X (compareOp d) r)(l:PE X a ta)(hb:PE X b tb)(i:behindInMarks d b=false):PE X (.Compare a [d] [b] pos) (iI r ta tb):=by
 intro c s σ H Q I h;exact wpAny_Compare1 (xZ l hb I h λv u k x y e f j g q=>ho c k σ e x y v u Q f j g q) i
def TB(K:W.Frag)(x:V)(H:Hp)(k:Bool):Prop :=
 match x with
 | .non=>k=false
 | .bl b=>k=b
 | .int i=>k=(i != 0)
 | .str y=>y.length<=sizeLine/\k=((y.length:Int) != 0)
 | .byt y=>y.size<=sizeLine/\k=((y.size:Int) != 0)
 | .ref p=>(∃xs,aH K H p xs/\k = !xs.isEmpty)\/(∃xs,bw K H p xs/\k = !xs.isEmpty)\/∃kvs,H p=some (.dK kvs)/\k = !kvs.isEmpty
 | _=>False
def NF{κ:Type}{a:List (κ × V)}{vs:List (κ × Value)}(r:KV a vs):(!vs.isEmpty) = !a.isEmpty:=by
 cases r<;>rfl
def CI{xs:List V}{a:List Value}(r:aJ xs a):(!a.toArray.isEmpty) = !xs.isEmpty:=by
 cases r<;>simp
def qH:(sizeLine:Nat)<2 ^ 63:=by rw[sizeLine_eq];decide
def ni:TC X (λx H Q=>∃k,TB X.K x H k/\Q k H):=by
 intro g s σ H x v Q I d h;obtain⟨k,e,q⟩:=h;have l:=qH;have hs:sizeLine=16777216:=sizeLine_eq;cases x with
 | non =>
  cases d;have a:k=false:=e;subst a;exact truthy_none ⟨H,I,q⟩
 | bl b =>
  cases d;have a:k=b:=e;subst a;exact wpAny_truthy_bool ⟨H,I,q⟩
 | int i =>
  obtain⟨t,rfl⟩:=d;have a:k=(i != 0):=e;subst a;exact PySem.P.truthy_int ⟨H,I,q⟩
 | str y =>
  obtain⟨t,rfl⟩:=d;obtain⟨j,a⟩:y.length<=sizeLine/\k=((y.length:Int) != 0):=e;subst a;exact PySem.P.truthy_str (by omega) ⟨H,I.tok _,q⟩
 | byt y =>
  obtain⟨t,rfl⟩:=d;obtain⟨j,a⟩:y.size<=sizeLine/\k=((y.size:Int) != 0):=e;subst a;exact W.truthy_bytes (by omega) ⟨H,I.tok _,q⟩
 | ref p =>
  cases d;have a:(∃xs,aH X.K H p xs/\k = !xs.isEmpty)\/(∃xs,bw X.K H p xs/\k = !xs.isEmpty)\/∃kvs,H p=some (.dK kvs)/\k = !kvs.isEmpty:=e;rcases a with ⟨xs,hx,a⟩|⟨xs,hx,a⟩|⟨kvs,hx,a⟩
  ·subst a;obtain⟨f,r,pl,hz⟩:=I.list hx;have c:=r.length;exact wpAny_truthy_list pl.isList (by simp only [Vl];omega) ⟨H,I.tok _,by rw[CI r];exact q⟩
  ·subst a;obtain⟨f,r,pl,hz⟩:=I.tuple hx;have c:=r.length;exact truthy_tuple pl (by simp only [Vl];omega) ⟨H,I.tok _,by rw[CI r];exact q⟩
  ·subst a;obtain⟨hz,hS,vs,r,m⟩:kvs.length<=sizeLine/\(p == sysModules)=false/\∃vs,KV kvs vs/\s.heap.DictOf (cD X.prog X.w) p vs:=I.hok p _ hx;have c:kvs.length=vs.length:=Paired.length r;exact wpAny_truthy_dict hS m (by omega) ⟨H,I.tok _,by rw[NF r];exact q⟩
 | _=>exact (show False from e).elim
def iH{x:V}{us:List Value}(r:aJ [x] us):∃u,us=[u]/\aR x u:=by
 cases r with
 | cons r1 r2=>cases r2;exact⟨_,Z,r1⟩
def m9{x y:V}{us:List Value}(r:aJ [x,y] us):∃u w',us=[u,w']/\aR x u/\aR y w':=by
 cases r with
 | cons r1 r2 =>
  cases r2 with
  | cons r3 r4=>cases r4;exact⟨_,_,Z,r1,r3⟩
def Rq:ck X (.type "int") (λxs H Q=>(∃i,xs=[.int i]/\Q (.int i) H)\/∃k,xs=[.bl k]/\Q (.int (if k then 1 else 0)) H):=by
 intro a s σ H xs us Q I r h;rcases h with ⟨i,rfl,q⟩|⟨k,rfl,q⟩
 ·obtain⟨u,rfl,t,rfl⟩:=iH r;exact call_int_int ⟨.int i,H,I,⟨_,Z⟩,q⟩
 ·obtain⟨u,rfl,b⟩:=iH r;cases b;exact call_int_bool ⟨.int (if k then 1 else 0),H,I.tok _,⟨_,Z⟩,q⟩
end
structure jX (h:Heap) (x dx C:Addr) (mA:Str->Option Value):Prop where
 obj:h.get? x=some (W.instObj C dx)
 ns:h.Ns1 dx mA
 ne:dx≠x
def qG{h:Heap}{dx:Addr}{mA:Str->Option Value}(n:h.Ns1 dx mA):∃od,h.get? dx=some od/\∀name,W.lookIn name od=some (mA name):=by
 obtain⟨o,es,i,ho,hd,c,_,d⟩:=n;refine⟨o,ho,λname=>?_⟩;have e:=d name;unfold nsFind findBy at e;rw[<- Array.find?_toList]at e;unfold W.lookIn;rw[hd];dsimp only
 split
 ·rename_i y q;rw[q]at e;exact congrArg some e
 ·rename_i q;rw[q]at e;have a:es.toList.any (·.refKey)=false:=by
   rw[List.any_eq_false];intro y f;obtain⟨z,t,b⟩:=c y (XQ.mp f);simp[DictEntry.refKey,b]
  have g:¬es.toList.any (·.refKey)=true:=by rw[a];exact Vn
  rw[X8 g];exact congrArg some e
def jX.look{h:Heap}{x dx C:Addr}{mA:Str->Option Value}(I:jX h x dx C mA):∃od,W.InstAt h x (W.instObj C dx) C (some od)/\∀name,W.lookIn name od=some (mA name) :=
 let ⟨od,ho,hl⟩:=qG I.ns
 ⟨od,⟨I.obj,rfl,rfl,ho⟩,hl⟩
section
variable {prog:Program}{w:World}{A:Around}{E:Value->fy->Prop}{s:fy}{K:W.Frag}{x dx C f:Addr}{mA:Str->Option Value}{name:Str}{v:Value}
def O2{a:Bool}{Q:Value->fy->Prop}(X:K.In s.heap)(I:jX s.heap x dx C mA)(d:W.plainGet K C name=true)(f:W.hasDictIn K C=true)
 (g:W.findIn K (.ref C) name=some none) (c:mA name=some v) (b:W.handedIn v=true) (h:Q v { s with toks:=s.toks+1 }) :
 wpAny (model prog w) A (getAttr (.ref x) name a) Q E s:=by
 obtain⟨od,J,e⟩:=I.look;exact W.get_value X J (W.plainGet_of d).1 (W.findObj_own f g rfl (by rw[e,c])) b h
def O1{pl:Sem Bool}{Q:Value × List Value->fy->Prop}(X:K.In s.heap)(I:jX s.heap x dx C mA)(a:W.plainGet K C name=true)
 (hf:W.findIn K (.ref C) name=some (some (.ref f))) (b:W.isFn K (.ref f)=true) (d:mA name=none) (h:Q (.ref f,[.ref x]) s) :
 wpAny (model prog w) A (getMethod (.ref x) name pl) Q E s:=by
 obtain⟨od,J,c⟩:=I.look;exact W.method_fn X J (W.plainGet_of a).1 (W.plainGet_of a).2 hf (beq_iff_eq.mp b) (by show (W.lookIn name od).map (·.isSome)=some false;rw[c,d];rfl) h
def Iw{ns:List Str}{Q:Unit->fy->Prop}(X:K.In s.heap)(I:jX s.heap x dx C mA)
 (hs:W.findIn K (.ref C) "__setattr__" = some (some (.builtin "object.__setattr__"))) (j:W.plainOver K C=true) (g:W.takerIn K C name=some none) (f:W.hasDictIn K C=true)
 (hw:PySem.Within mA ns) (hsz:ns.length<=sizeLine)
 (h:∀h',jX h' x dx C (λy=>if y=name then some v else mA y)->Heap.SameBut dx s.heap h'->Q () { s with heap:=h',toks:=s.toks+2 }) :
 wpAny (model prog w) A (setAttr (.ref x) name v) Q E s:=by
 obtain⟨od,J,l⟩:=I.look;refine W.set_plain X J hs (W.osa_open (s:={ s with toks:=s.toks+1 }) (r:=none) X J j g λb=>?_);obtain⟨k,i,e⟩:=W.any_some f;have hx:s.heap.get? x=some ⟨.ref C,some dx,.plain,#[]⟩:=I.obj;refine on (X7 (on (on (wpAny_loadPart hx (on (W.Looks.here (s:={ s with toks:=s.toks+1 }) (W.looks_clsIn X i) ?_))))));rw[e];refine X7 (a:=some dx) (on (X7 (on ?_)));refine wpAny_nsSet1 (s:={ s with toks:=s.toks+1 }) I.ns λh' d c=>?_;obtain⟨oD,esD,epD,hoD,hdD,hcD⟩:=d.count (PySem.Within.cons name v hw);refine on (wpAny_lookBehind hoD (by rw[hdD];exact pastItsLine_dict (Vs hcD (by rw[Vt];omega))) ?_);exact X7 (h _ ⟨(c.2 _ (Ne.symm I.ne)).trans I.obj,d,I.ne⟩ c)
def M8{R:Result->fy->Prop}{vs:List Value}{a:List (Str × Value)}(X:K.In s.heap)(b:W.makesIn K C=true)
 (c:W.findIn K (.ref C) "__init__" = some (some (.ref f))) (hf:W.typeIn K (.ref f)=some (.type "function"))
 (h:codeAny (model prog w) (A.under (.builtin "type.__call__" ⟨.ref C::vs,a⟩)) (.call (.ref f) ⟨.ref (s.heap.objs.size+1)::vs,a⟩) (W.InitBack (s.heap.objs.size+1) R)
   { s with heap:=(s.heap.push W.emptyDict).push (W.instObj C s.heap.objs.size) }) :
 codeAny (model prog w) A (.call (.ref C) ⟨vs,a⟩) R s:=by
 obtain⟨e,g,d,t,os⟩:=s;exact W.make_core (W.makes_of X b) (W.looks_findIn X c) (λself=>W.bind_fn X self hf) (.inl Z) h
def M7{R:Result->fy->Prop}(X:K.In s.heap)(a:W.makesIn K C=true)
 (b:W.findIn K (.ref C) "__init__" = some (some (.builtin "object.__init__")))
 (hb:∀self,W.Looks (model prog w) s.heap (bindSpecial (.builtin "object.__init__") self) (.builtin "object.__init__",[self]))
 (h:codeAny (model prog w) (A.under (.builtin "type.__call__" ⟨[.ref C],[]⟩)) (.call (.builtin "object.__init__") ⟨[.ref (s.heap.objs.size+1)],[]⟩) (W.InitBack (s.heap.objs.size+1) R)
   { s with heap:=(s.heap.push W.emptyDict).push (W.instObj C s.heap.objs.size) }) :
 codeAny (model prog w) A (.call (.ref C) ⟨[],[]⟩) R s:=by
 obtain⟨c,g,d,t,os⟩:=s;exact W.make_core (W.makes_of X a) (W.looks_findIn X b) hb (.inr ⟨rfl,rfl⟩) h
end
def cI(f:Str)(v:V):List (Str × V)->List (Str × V)
 | []=>[(f,v)]
 | (g,x)::r=>if g=f then (g,v)::r else (g,x)::cI f v r
theorem uo(f g:Str)(v:V):∀fs:List (Str × V),(cI f v fs).lookup g=if g=f then some v else fs.lookup g
 | []=>by
  show List.lookup g [(f,v)]=_;by_cases h:g=f
  ·have hb:(g == f)=true:=beq_iff_eq.mpr h;simp only [List.lookup,hb,X9 h]
  ·have hb:(g == f)=false:=beq_eq_false_iff_ne.mpr h;simp only [List.lookup,hb,X8 h]
 | (k,x)::r=>by
  have ih:=uo f g v r;rw[show cI f v ((k,x)::r)=(if k=f then (k,v)::r else (k,x)::cI f v r) from rfl];by_cases hk:k=f
  ·rw[X9 hk];by_cases h:g=k
   ·have hb:(g == k)=true:=beq_iff_eq.mpr h;simp only [List.lookup,hb,X9 (h.trans hk)]
   ·have hb:(g == k)=false:=beq_eq_false_iff_ne.mpr h;simp only [List.lookup,hb,X8 (λe:g=f=>h (e.trans hk.symm))]
  ·rw[X8 hk];by_cases h:g=k
   ·have hb:(g == k)=true:=beq_iff_eq.mpr h;simp only [List.lookup,hb,X8 (λe:g=f=>hk (h.symm.trans e))]
   ·have hb:(g == k)=false:=beq_eq_false_iff_ne.mpr h;simp only [List.lookup,hb];exact ih
theorem ur(f:Str)(v:V):∀fs:List (Str × V),f∈(cI f v fs).map (·.1)/\∀g,g∈fs.map (·.1)->g∈(cI f v fs).map (·.1)
 | []=>⟨by simp[cI],λg h=>by simp at h⟩
 | (k,x)::r=>by
  obtain⟨b,a⟩:=ur f v r;rw[show cI f v ((k,x)::r)=(if k=f then (k,v)::r else (k,x)::cI f v r) from rfl];by_cases hk:k=f
  ·rw[X9 hk];subst hk;exact⟨by simp,λg h=>by simpa using h⟩
  ·rw[X8 hk];refine⟨?_,λg h=>?_⟩
   ·rw[VM];exact Vx _ b
   ·rw[VM]at h ⊢;rcases Vr.mp h with e|e
    ·exact Vr.mpr (.inl e)
    ·exact Vx _ (a g e)
theorem Cv(f:Str)(v:V):∀fs:List (Str × V),(cI f v fs).length<=fs.length+1
 | []=>by simp[cI]
 | (k,x)::r=>by
  have ih:=Cv f v r;rw[show cI f v ((k,x)::r)=(if k=f then (k,v)::r else (k,x)::cI f v r) from rfl];by_cases hk:k=f
  ·rw[X9 hk,Vt,Vt];omega
  ·rw[X8 hk,Vt,Vt];omega
def cT.some_of{v:V}{o:Option Value}(r:cT (some v) o):∃u,o=some u/\aR v u:=by
 cases o with
 | none=>exact (show False from r).elim
 | some u=>exact⟨u,rfl,r⟩
def cT.none_of{o:Option Value}(r:cT none o):o=none:=by
 cases o with
 | none=>rfl
 | some u=>exact (show False from r).elim
def N9{v:V}{u:Value}(r:aR v u):W.handedIn u=true:=by
 cases v with
 | non=>cases (show u=Value.none from r);rfl
 | bl b=>cases (show u=Value.bool b from r);rfl
 | int i=>obtain⟨t,e⟩:=(show ∃t,u=Value.int i t from r);cases e;rfl
 | str x=>obtain⟨t,e⟩:=(show ∃t,u=Value.str x t from r);cases e;rfl
 | byt b=>obtain⟨t,e⟩:=(show ∃t,u=Value.bytes b t from r);cases e;rfl
 | flt b=>obtain⟨t,e⟩:=(show ∃t,u=Value.float b t from r);cases e;rfl
 | ref a=>cases (show u=Value.ref a from r);rfl
 | ty n=>cases (show u=Value.type n from r);rfl
section
variable {P:Program}{w:World}{H H':Hp}{h h':Heap}{a C dx:Addr}{fs fs':List (Str × V)}
def qR(hok:bM P w H h)(e:H a=some (.ins C dx fs)):∃mA,jX h a dx C mA/\(∀f,cT (fs.lookup f) (mA f))/\PySem.Within mA (fs.map (·.1))/\fs.length<=1000/\H dx=some (.own a):=by
 obtain⟨d,z,ne,b,mA,n,r,q⟩:=(show bK P w H h a (.ins C dx fs) from hok a _ e);exact⟨mA,⟨b,n,ne⟩,r,q,z,d⟩
end
structure dH (K:W.Frag) (C:Addr):Prop where
 pg:W.plainGet K C Str.empty=true
 hd:W.hasDictIn K C=true
 po:W.plainOver K C=true
 sa:W.findIn K (.ref C) "__setattr__" = some (some (.builtin "object.__setattr__"))
def dH.get{K:W.Frag}{C:Addr}(c:dH K C)(f:Str):W.plainGet K C f=true:=c.pg
def cU(K:W.Frag)(C:Addr)(f:Str):Prop:=W.findIn K (.ref C) f=some none
def cU.taker{K:W.Frag}{C:Addr}{f:Str}(n:cU K C f):W.takerIn K C f=some none:=by
 unfold W.takerIn;rw[show W.findIn K (.ref C) f=some none from n]
 rfl
structure UZ (K:W.Frag) (C:Addr) (f:Str) (v:V) (u:Value):Prop where
 at_:W.findIn K (.ref C) f=some (some u)
 rel:aR v u
 get:W.specialIn K u "__get__" = some none
 cp:W.copiedNames.contains f=false
structure bE (K:W.Frag) (C:Addr) (m:Str) (f:Addr):Prop where
 at_:W.findIn K (.ref C) m=some (some (.ref f))
 fn:W.isFn K (.ref f)=true
 kp:W.keepIn K (.ref f)=true
section
variable {X:Cx}{pins:List (Addr × Obj)}{σ:St}{H:Hp}{s:fy}{a C dx:Addr}{fs:List (Str × V)}{f:Str}{v:V}{A:Around}{E:Value->fy->Prop}
def Dp{b:Bool}{Q:Value->fy->Prop}(I:af X pins σ H s)(e:H a=some (.ins C dx fs))(c:dH X.K C)(n:cU X.K C f)(l:fs.lookup f=some v)
 (h:∀u s',af X pins σ H s'->aR v u->Q u s'):wpAny (model X.prog X.w) A (getAttr (.ref a) f b) Q E s:=by
 obtain⟨mA,O,r,_,_,_⟩:=qR I.hok e;obtain⟨u,g,d⟩:=cT.some_of (v:=v) (o:=mA f) (by rw[<- l];exact r f);exact O2 I.kIn O (c.get f) c.hd n g (N9 d) (h u _ (I.tok _) d)
def Do{m:Str}{g:Addr}{pl:Sem Bool}{Q:Value × List Value->fy->Prop}(I:af X pins σ H s)(e:H a=some (.ins C dx fs))(c:dH X.K C)(k:bE X.K C m g)(l:fs.lookup m=none)
 (h:Q (.ref g,[.ref a]) s):wpAny (model X.prog X.w) A (getMethod (.ref a) m pl) Q E s:=by
 obtain⟨mA,O,r,_,_,_⟩:=qR I.hok e;have b:mA m=none:=cT.none_of (by rw[<- l];exact r m);exact O1 I.kIn O (c.get m) k.at_ k.fn b h
def AU{y:V}{u:Value}{Q:Unit->fy->Prop}(I:af X pins σ H s)(e:H a=some (.ins C dx fs))(c:dH X.K C)(n:cU X.K C f)(l:fs.length<1000)(k:aR y u)
 (h:∀s',af X pins σ (upd H a (.ins C dx (cI f y fs))) s'->Q () s'):wpAny (model X.prog X.w) A (setAttr (.ref a) f u) Q E s:=by
 obtain⟨mA,O,r,i,_,ho⟩:=qR I.hok e;have hz:(fs.map (·.1)).length<=sizeLine:=by rw[U9,sizeLine_eq];omega
 refine Iw I.kIn O c.sa c.po n.taker c.hd i hz λh' d sb=>h _ ?_;have hd:∃o,h'.get? dx=some o:=let ⟨o,_,_,e',_⟩:=d.ns;⟨o,e'⟩
 refine I.write (x:=a) (e:=dx) (by rw[e];exact True.intro) (.inr ho) (λb q hb z=>(sb.2 b hb).trans z) hd ?_;refine⟨by rw[au O.ne];exact ho,?_,O.ne,d.obj,_,d.ns,λg=>?_,λg j=>?_⟩
 ·have:=Cv f y fs;omega
 ·show cT ((cI f y fs).lookup g) (if g=f then some u else mA g);rw[uo];by_cases q:g=f
  ·rw[X9 q,X9 q];exact k
  ·rw[X8 q,X8 q];exact r g
 ·by_cases q:g=f
  ·rw[q];exact (ur f y fs).1
  ·refine (ur f y fs).2 g (i g λz=>j ?_);show (if g=f then some u else mA g)=none;rw[X8 q];exact z
def af.made(I:af X pins σ H s):af X pins σ (upd (upd H s.heap.objs.size (.own (s.heap.objs.size+1))) (s.heap.objs.size+1) (.ins C s.heap.objs.size []))
 { s with heap:=(s.heap.push W.emptyDict).push (W.instObj C s.heap.objs.size) }:=by
 have c:(s.heap.push W.emptyDict).get? s.heap.objs.size=some W.emptyDict:=VH s.heap rfl;have h:((s.heap.push W.emptyDict).push (W.instObj C s.heap.objs.size)).get? (s.heap.objs.size+1)=some (W.instObj C s.heap.objs.size):=by
  have:=VH (s.heap.push W.emptyDict) (o:=W.instObj C s.heap.objs.size) rfl
  rwa [Wf]at this
 have d:(s.heap.push W.emptyDict).Ns s.heap.objs.size (λ_=>none):=⟨W.emptyDict,#[],_,c,rfl,(λe f=>Ya f (by simp)),λ_=>rfl⟩;have i:=I.laid (a:=s.heap.objs.size) (o:=.own (s.heap.objs.size+1)) (h':=s.heap.push W.emptyDict) (t':=s.toks) (λb u q=>Vg _ q) (Va _) ⟨_,c⟩;refine i.laid (a:=s.heap.objs.size+1) (o:=.ins C s.heap.objs.size []) (t':=s.toks) (λb u q=>Vg _ q) (Wv (Wf _ _)) ?_;have ne:s.heap.objs.size≠s.heap.objs.size+1:=Vi (Vv _);refine⟨by rw[au ne,aX],Vq _,ne,h,λ_=>none,(Heap.Ns1.of_empty d).at λo q=>Vg _ q,λ_=>True.intro,λy g=>Ya rfl g⟩
def Ej{prog:Program}{w:World}{env:Env}{e:Expr}{f:Str}{pos:Pos}{s:fy}{Q:Value->fy->Prop}(hb:attributeBase e f env (eval e env)=eval e env)
 (h:wpAny (model prog w) A (eval e env) (λo a=>wpAny (model prog w) A (getAttr o f true) Q E a) E s):wpAny (model prog w) A (eval (.Attribute e f pos) env) Q E s :=
 Attribute_any_ h (by rw[arm_eval_Attribute,hb])
end
def As(K:W.Frag)(c:TE)(f:Str):TE:=λσ H Q=>c σ H λx b=>∃a C dx fs v,x=.ref a/\b a=some (.ins C dx fs)/\dH K C/\cU K C f/\fs.lookup f=some v/\Q v b
def Bj(K:W.Frag)(d e:TE)(f:Str):TS:=λD σ H=>e σ H λy c=>d σ c λx b=>∃a C dx fs,x=.ref a/\b a=some (.ins C dx fs)/\dH K C/\cU K C f/\fs.length<1000 /\
 D.nx σ (upd b a (.ins C dx (cI f y fs)))
def EC(X:Cx)(b:Operator)(rd:V->V->Hp->VK->Prop):Prop :=
 ∀(a:List (Addr × Obj)) (s:fy) (σ:St) (H:Hp) (x y:V) (u v:Value) (Q:VK),af X a σ H s->aR x u->aR y v->rd x y H Q->wpAny (model X.prog X.w) X.A (inplaceOp b u v) (EP X a σ Q) X.xe s
def Bi(K:W.Frag)(e g:TE)(rd:V->V->Hp->VK->Prop)(f:Str):TS:=λD σ H=>e σ H λx b=>∃a C dx fs v,x=.ref a/\b a=some (.ins C dx fs)/\dH K C/\cU K C f/\fs.lookup f=some v /\
 g σ b λy d=>rd v y d λz c=>∃dx' fs',c a=some (.ins C dx' fs')/\fs'.length<1000/\D.nx σ (upd c a (.ins C dx' (cI f z fs')))
section
variable {X:Cx}{o e value:Expr}{f:Str}{pos pos' tpos:Pos}{ta tv:TE}
def La(d:PE X e ta)(hb:attributeBase e f X.env (eval e X.env)=eval e X.env):PE X (.Attribute e f pos) (As X.K ta f):=by
 intro b s σ H Q I h;refine Ej hb (aB (d b s σ H _ I h) λu s1 ζ=>?_);obtain⟨x,j,m,k,a,C,dx,fs,v,ex,o,c,n,l,q⟩:=ζ;subst ex;obtain rfl:u=Value.ref a:=k;exact Dp m o c n l λp r g i=>⟨v,j,g,i,q⟩
def Kw(k:PE X o ta)(i:PE X value tv)(hs:swapsWith value (some (.Attribute o f pos')) pos.line X.env=pure false):PS X (.Assign [.Attribute o f pos'] value pos) (Bj X.K ta tv f):=by
 intro b s σ H D I h;refine plainObj_wpAny_Assign_Attribute (aB (i b s σ H _ I h) λu s1 ζ=>?_) hs;obtain⟨y,e,r,g,q⟩:=ζ;refine aB (k b s1 σ e _ r q) λv F ζ=>?_;obtain⟨x,B,d,m,a,C,dx,fs,ex,z,c,n,l,p⟩:=ζ;subst ex;obtain rfl:v=Value.ref a:=m;exact AU d z c n l g λG j=>⟨σ,_,j,p⟩
def Ku{g:Operator}{rd:V->V->Hp->VK->Prop}(S:PE X o ta)(B:PE X value tv)(e:EC X g rd):PS X (.AugAssign (.Attribute o f tpos) g value pos) (Bi X.K ta tv rd f):=by
 intro b s σ H D I h;refine wpAny_AugAssign_AttributeAny (aB (S b s σ H _ I h) λN s1 ζ=>?_);obtain⟨x,m,O,rx,a,C,dx,fs,v,ex,ea,c,n,l,q⟩:=ζ;subst ex;obtain rfl:N=Value.ref a:=rx;refine Dp O ea c n l λu r k W=>aB (B b r σ m _ k q) λG M ⟨y,U,Y,p,R⟩=>aB (e b M σ U v y u G _ Y W p R) λw4 s4 ⟨z,H3,L,rz,a0,j,d,F,i⟩=>?_;exact AU L d c n F rz λs5 J=>⟨σ,_,J,i⟩
def Bs:V->V->Hp->VK->Prop:=λx y H Q=>∃i j,x=.int i/\y=.int j/\Q (.int (i+j)) H
def NP:EC X .Add Bs:=by
 rintro a s σ H x y u v Q I c b ⟨i,j,rfl,rfl,q⟩;obtain⟨t,rfl⟩:=(show ∃t,u=Value.int i t from c);obtain⟨t',rfl⟩:=(show ∃t',v=Value.int j t' from b);exact PyProof.Rows.iadd_int ⟨.int (i+j),H,I.tok _,⟨_,Z⟩,q⟩
end
section
variable {X:Cx}{pins:List (Addr × Obj)}{σ:St}{H:Hp}{s:fy}{A:Around}{E:Value->fy->Prop}{Q:Value->fy->Prop}{c:Value}{b:Bool}
inductive c9 (K:W.Frag) (H:Hp):V->Value->Prop where
 | non:c9 K H .non (.type "NoneType")
 | bl (x:Bool):c9 K H (.bl x) (.type "bool")
 | int (i:Int):c9 K H (.int i) (.type "int")
 | str (x:Str):c9 K H (.str x) (.type "str")
 | flt (x:UInt64):c9 K H (.flt x) (.type "float")
 | lst {a:Addr} {xs:List V} (e:H a=some (.lst xs)):c9 K H (.ref a) (.type "list")
 | frz {a:Addr} {o:Obj} {xs:List V} (e:H a=some (.frz o (.lst xs))):c9 K H (.ref a) (.type "list")
 | tup {a:Addr} {xs:List V} (e:H a=some (.tup xs)):c9 K H (.ref a) (.type "tuple")
 | dK {a:Addr} {kvs:List (aV × V)} (e:H a=some (.dK kvs)):c9 K H (.ref a) (.type "dict")
 | dT {a:Addr} {kvs:List (List aV × V)} (e:H a=some (.dT kvs)):c9 K H (.ref a) (.type "dict")
 | ins {a C dx:Addr} {fs:List (Str × V)} (e:H a=some (.ins C dx fs)) (cl:dH K C) (ha:W.findIn K (.ref C) "__class__" = some (some (.builtin "object.__class__")))
  (hn:W.specialIn K (.builtin "object.__class__") "__get__" = some (some (.builtin "getset_descriptor.__get__"))) (htk:W.takesIn K (.builtin "object.__class__")=some true)
  (hm:W.mroIn K C (.type "object")=some true):c9 K H (.ref a) (.ref C)
def uv{x:V}{u t:Value}(I:af X pins σ H s)(d:aR x u)(ty:c9 X.K H x t)(e:W.kitOne X.K t c=some b)(h:∀tk,Q (.bool b) { s with toks:=tk }) :
 wpAny (model X.prog X.w) A (call (.builtin "isinstance") [u,c]) Q E s:=by
 cases ty with
 | non=>cases (show u=Value.none from d);exact W.kia_one W.kitx_none I.kIn True.intro e (λz=>nomatch z) h
 | bl y=>cases (show u=Value.bool y from d);exact W.kia_one W.kitx_bool I.kIn True.intro e (λz=>nomatch z) h
 | int i=>obtain⟨t,q⟩:=(show ∃t,u=Value.int i t from d);cases q;exact W.kia_one W.kitx_int I.kIn True.intro e (λz=>nomatch z) h
 | str y=>obtain⟨t,q⟩:=(show ∃t,u=Value.str y t from d);cases q;exact W.kia_one W.kitx_str I.kIn True.intro e (λz=>nomatch z) h
 | flt y=>obtain⟨t,q⟩:=(show ∃t,u=Value.float y t from d);cases q;exact W.kia_one W.kitx_float I.kIn True.intro e (λz=>nomatch z) h
 | @lst a xs ea =>
  cases (show u=Value.ref a from d);obtain⟨_,_,n,_,f⟩:=(show bK X.prog X.w H s.heap a (.lst xs) from I.hok a _ ea);exact W.kia_one W.kitx_list I.kIn ⟨_,f,rfl⟩ e (λz=>nomatch z) h
 | @frz a ob xs ea =>
  cases (show u=Value.ref a from d);obtain⟨_,_,_,n,_,f⟩:=(show bK X.prog X.w H s.heap a (.frz ob (.lst xs)) from I.hok a _ ea);exact W.kia_one W.kitx_list I.kIn ⟨_,f,rfl⟩ e (λz=>nomatch z) h
 | @tup a xs ea =>
  cases (show u=Value.ref a from d);obtain⟨_,_,_,p⟩:=(show bK X.prog X.w H s.heap a (.tup xs) from I.hok a _ ea);obtain⟨o,f,g,_⟩:=p;exact W.kia_one W.kitx_tuple I.kIn ⟨o,f,g⟩ e (λz=>nomatch z) h
 | @dK a kvs ea =>
  cases (show u=Value.ref a from d);obtain⟨_,_,vs,_,p⟩:=(show bK X.prog X.w H s.heap a (.dK kvs) from I.hok a _ ea);obtain⟨o,es,j,f,g,_⟩:=p;exact W.kia_one W.kitx_dict I.kIn ⟨o,f,g.1⟩ e (λz=>nomatch z) h
 | @dT a kvs ea =>
  cases (show u=Value.ref a from d);obtain⟨_,_,xs,_,o,es,j,f,g,_⟩:=(show bK X.prog X.w H s.heap a (.dT kvs) from I.hok a _ ea);exact W.kia_one W.kitx_dict I.kIn ⟨o,f,g.1⟩ e (λz=>nomatch z) h
 | @ins a C dx fs ea cl ha hn htk hm =>
  cases (show u=Value.ref a from d);obtain⟨mA,O,_⟩:=qR I.hok ea;obtain⟨od,J,_⟩:=O.look;exact W.kia_one (W.kitx_own (cl.get _) cl.hd ha hn htk hm) I.kIn J e (λz=>nomatch z) h
end
structure bV (k:Nat) (A:Around):Prop where
 hd:A.handled=none
 dp:A.depth+3*k+5<recursionLimit
 un:A.units+16*k+200<cLine
def bV.mono{j k:Nat}{A:Around}(r:bV k A)(h:j<=k):bV j A:=⟨r.hd,by have:=r.dp;omega,by have:=r.un;omega⟩
def bV.deeper{k:Nat}{A:Around}(r:bV (k+1) A)(env:Env):bV k (A.deeper env) :=
 ⟨r.hd,by have:=r.dp;show A.depth+1+3*k+5<_;omega,by have:=r.un;show A.units+3+16*k+200<_;omega⟩
def M9 {A:Around} {C:Addr} {us:List Value} {a:List (Str × Value)}:(A.under (.builtin "type.__call__" ⟨.ref C::us,a⟩)).depth=A.depth+1:=by
 first|rfl|simp[Around.under,Code.weight,Code.isCreation,Code.isGuard,Code.isCaller,Code.frames,Code.isFrame,guardIds]
def M6 {A:Around} {C:Addr} {us:List Value} {a:List (Str × Value)}:(A.under (.builtin "type.__call__" ⟨.ref C::us,a⟩)).units=A.units+1:=by
 first|rfl|simp[Around.under,Code.cUnits,Code.frames,Code.isFrame]
def bV.make {k:Nat} {A:Around} (r:bV (k+1) A) (C:Addr) (us:List Value) (a:List (Str × Value)):bV k (A.under (.builtin "type.__call__" ⟨.ref C::us,a⟩)) :=
 ⟨r.hd,by have:=r.dp;rw[M9];omega,by have:=r.un;rw[M6];omega⟩
def bV.depth{k:Nat}{A:Around}(r:bV k A):A.depth<recursionLimit:=by have:=r.dp;omega
def bV.units{k:Nat}{A:Around}(r:bV k A):A.units+64<cLine:=by have:=r.un;omega
def i4:TA:=λ_ H Q=>Q [] H
def j5(c:TE)(a:TA):TA:=λσ H Q=>c σ H λx d=>a σ d λxs b=>Q (x::xs) b
section
variable {X:Cx}{e:Expr}{es:List Expr}{te:TE}{t:TA}{pos:Pos}
def BS:PA X [] i4:=λ_ _ _ _ H Q I h=>Calls.spliced_nil ⟨[],H,I,.nil,h⟩
def Lp(j:PE X e te)(g:PA X es t)(hs:starEach (e::es) X.env=(false,eval e X.env)::starEach es X.env:=by rfl):PA X (e::es) (j5 te t):=by
 intro pos a s σ H Q I h;rw[hs];show wpAny _ _ (spliced ((false,eval e X.env)::backTo pos (starEach es X.env))) _ _ s;refine Calls.spliced_cons (aB (j a s σ H _ I h) λu s1 ζ=>?_);obtain⟨x,f,m,b,i⟩:=ζ;refine aB (g pos a s1 σ f _ m i) λus n ζ=>?_;obtain⟨xs,c,d,k,l⟩:=ζ;exact ⟨x::xs,c,d,.cons b k,l⟩
end
abbrev Sp:=List V->Hp->VK->XK->Prop
abbrev gQ:=List Env->Hp->fy->XK->Value->fy->Prop
structure ju (P:Program) (w:World) (K:W.Frag) (mg:Str->Option Value) (base:Heap) (A:Around) (outer:List Env) (s:fy) (H:Hp):Prop where
 frames:A.frames=some outer
 mod:Mod K mg base
 bs:∀b o,base.get? b=some o->s.heap.get? b=some o/\H b=none
 bsz:base.objs.size<=s.heap.objs.size
 funs:s.heap.FunFrames base outer
 frf:∀b∈cJ outer,H b=none
 hok:bM P w H s.heap
 bare:AllBare s.gens
def CE(outer:List Env)(P:Program)(w:World)(H:Hp)(s:fy)(Q:VK)(u:Value)(a:fy):Prop :=
 ∃v H',a.os=s.os/\AllBare a.gens/\Un (cJ outer) [] H H' s.heap a.heap/\bM P w H' a.heap/\aR v u/\Q v H'
def CR(CX:gQ)(outer:List Env)(P:Program)(w:World)(H:Hp)(s:fy)(Q:VK)(E:XK)(r:Result)(a:fy):Prop :=
 match r with
 | .ok (.ret u)=>CE outer P w H s Q u a
 | .ok _=>False
 | .error e=>CX outer H s E e a
structure bN (P:Program) (w:World) (K:W.Frag) (mg:Str->Option Value) (base:Heap) (CX:gQ) (k:Nat) (f:Addr) (fd:FuncData) (ps:List Str) (sp:Sp):Prop where
 len:∀vs H Q E,sp vs H Q E->vs.length=ps.length
 run:∀(A:Around) (outer:List Env) (s:fy) (H:Hp) (args:Args) (us:List Value) (vs:List V) (Q:VK) (E:XK),bV k A->ju P w K mg base A outer s H->BindsTo s fd args (ps.zip us)->aJ vs us->sp vs H Q E ->
  codeAny (model P w) A (.call (.ref f) args) (CR CX outer P w H s Q E) s
def ju.make{P:Program}{w:World}{K:W.Frag}{mg:Str->Option Value}{base:Heap}{A:Around}{outer:List Env}{s:fy}{H:Hp}(e:ju P w K mg base A outer s H)(C:Addr)(us:List Value)(a:List (Str × Value)) :
 ju P w K mg base (A.under (.builtin "type.__call__" ⟨.ref C::us,a⟩)) outer s H:=⟨by first|exact e.frames|(simpa [Around.under,Code.envs,Code.isFrame,pushEnvs] using e.frames),e.mod,e.bs,e.bsz,e.funs,e.frf,e.hok,e.bare⟩
section
variable {X:Cx}{pins:List (Addr × Obj)}{σ:St}{H:Hp}{s s':fy}
def af.env0(I:af X pins σ H s):ju X.prog X.w X.K X.mg X.base X.A X.stack s H :=
 ⟨I.ok.frames,I.ok.mod,I.bs,Vs I.ok.bsz I.sz,I.stack,I.stkFree,I.hok,I.bare⟩
def af.after{Q:VK}{u:Value}(I:af X pins σ H s)(h:CE X.stack X.prog X.w H s Q u s'):EP X pins σ Q u s':=by
 obtain⟨v,c,os,bare,un,hok,r,q⟩:=h;obtain⟨e,g,d,t,a⟩:=s';obtain rfl:a=s.os:=os;exact⟨v,c,I.call (h':=e) (g':=g) (d':=d) (t':=t) (ch:=[]) un hok bare (λb z=>Ya z (by simp)),r,q⟩
end
def tF(sp:Sp)(a:List V)(E:XK)(t:TA):TE:=λσ H Q=>t σ H λvs b=>sp (vs++a) b Q E
def ny(C:Addr)(m:Str)(sp:Sp)(b:List V)(E:XK)(e:TE)(t:TA):TE:=λσ H Q=>e σ H λx c=>∃a dx fs,x=.ref a/\c a=some (.ins C dx fs)/\fs.lookup m=none /\
 t σ c λvs d=>sp (x::(vs++b)) d Q E
def Ao(C:Addr)(sp:Sp)(a:List V)(E:XK)(t:TA):TE:=λσ H Q=>t σ H λvs b=>∀x dx,b x=none->b dx=none->dx≠x ->
 sp (.ref x::(vs++a)) (upd (upd b dx (.own x)) x (.ins C dx [])) (λv c=>v=.non/\Q (.ref x) c) E
def ax(K:W.Frag)(a:FuncData)(ps:List Str)(ds:List Value):Prop :=
 ∀(s:fy) (us:List Value),K.In s.heap->(us++ds).length=ps.length->BindsTo s a ⟨us,[]⟩ (ps.zip (us++ds))
def ax.all{K:W.Frag}{a:FuncData}{ps:List Str}(h:∀us:List Value,us.length=ps.length->bindArgs a ⟨us,[]⟩=pure (ps.zip us)):ax K a ps []:=λs us _ b=>by
 rw[VI]at b ⊢;exact .of_eq (h us b)
def jr(CX:gQ)(X:Cx)(E:XK):Prop:=∀(a:List (Addr × Obj)) (σ:St) (H:Hp) (s:fy) (e:Value) (b:fy),af X a σ H s->CX X.stack H s E e b->X.xe e b
section
variable {X:Cx}{CX:gQ}{k:Nat}{f C:Addr}{fd:FuncData}{ps:List Str}{sp:Sp}{dvs:List V}{ds:List Value}{E:XK}{x m:Str}{p pos apos:Pos}{e o:Expr}{es:List Expr}{ta:TE}{t:TA}
def tU{a:List (Addr × Obj)}{σ:St}{H:Hp}{s:fy}{Q:VK}{us:List Value}{vs:List V}(F:bN X.prog X.w X.K X.mg X.base CX k f fd ps sp)(d:bV k X.A)(hb:ax X.K fd ps ds)(hd:aJ dvs ds)(hx:jr CX X E)
 (I:af X a σ H s) (r:aJ vs us) (h:sp (vs++dvs) H Q E):wpAny (model X.prog X.w) X.A (call (.ref f) us) (EP X a σ Q) X.xe s:=by
 have c:aJ (vs++dvs) (us++ds):=r.append hd;have g:(us++ds).length=ps.length:=by rw[<- c.length];exact F.len _ _ _ _ h
 refine wpAny_call (codeAny_mono (F.run X.A X.stack s H ⟨us,[]⟩ (us++ds) (vs++dvs) Q E d I.env0 (hb s us I.kIn g) c h) λr i b=>?_);cases r with
 | error e=>exact hx a σ H s e i I b
 | ok fl =>
  cases fl with
  | ret u=>exact I.after b
  | next=>exact False.elim b
  | brk=>exact False.elim b
  | cont=>exact False.elim b
def Lj(F:bN X.prog X.w X.K X.mg X.base CX k f fd ps sp)(l:bV k X.A)(j:Gl X x)(m:X.mg x=some (.ref f))(i:W.keepIn X.K (.ref f)=true)(hb:ax X.K fd ps ds)(hd:aJ dvs ds)(hx:jr CX X E)
 (n:PA X (e::es) t) (c:(x == ("__debug__" : Str))=false:=by decide) (g:starEach (e::es) X.env=(false,eval e X.env)::starEach es X.env:=by rfl) (b:(backTo pos (starEach es X.env)).any (·.1)=false:=by rfl) :
 PE X (.Call (.Name x p) (e::es) [] pos) (tF sp dvs E t):=by
 intro a s σ H Q I h;refine wpAny_Call_Name_kw (jO I j m ?_ c);refine W.callWith_K (h₀:=X.base) I.ok.mod.kin i (aB (n pos a s σ H _ I h) λus s1 ζ=>?_) g b;obtain⟨vs,o,d,r,q⟩:=ζ;refine ⟨d.kIn,?_⟩;exact tU F l hb hd hx d r q
def BO{pl:Sem Bool}(p:PE X o ta)(c:dH X.K C)(j:bE X.K C m f)(F:bN X.prog X.w X.K X.mg X.base CX k f fd ps sp)(y:bV k X.A)(hb:ax X.K fd ps ds)(hd:aJ dvs ds)(hx:jr CX X E)(B:PA X (e::es) t)
 (d:starEach (e::es) X.env=(false,eval e X.env)::starEach es X.env:=by rfl) (g:(backTo pos (starEach es X.env)).any (·.1)=false:=by rfl)
 (D:eval (.Call (.Attribute o m apos) (e::es) [] pos) X.env=(do
   let ov <- eval o X.env
   standAt apos.atName
   let (f,first) <- holding [ov] (getMethod ov m pl)
   callWith pos f first (backTo pos (starEach (e::es) X.env)) (backToKw pos (keywordEach [] X.env))):=by rfl) :
 PE X (.Call (.Attribute o m apos) (e::es) [] pos) (ny C m sp dvs E ta t):=by
 intro b s σ H Q I h;refine W.methodCall_KW (pl:=pl) (aB (p b s σ H _ I h) λu s1 ζ=>?_) D;obtain⟨x,v,n,z,a,dx,fs,ex,J,l,q⟩:=ζ;subst ex;obtain rfl:u=Value.ref a:=z;refine Do n J c j l ?_;refine W.callWith_K (first:=[.ref a]) (h₀:=X.base) I.ok.mod.kin j.kp (aB (B pos b s1 σ v _ n q) λus M ζ=>?_) d g;obtain⟨vs,L,i,r,G⟩:=ζ;refine ⟨i.kIn,?_⟩;exact tU (us:=.ref a::us) (vs:=.ref a::vs) F y hb hd hx i (.cons Z r) G
def K6{pl:Sem Bool}(g:PE X o ta)(c:dH X.K C)(e:bE X.K C m f)(F:bN X.prog X.w X.K X.mg X.base CX k f fd ps sp)(i:bV k X.A)(hb:ax X.K fd ps ds)(hd:aJ dvs ds)(hx:jr CX X E)
 (n:eval (.Call (.Attribute o m apos) [] [] pos) X.env=(do
   let ov <- eval o X.env
   standAt apos.atName
   let (f,first) <- holding [ov] (getMethod ov m pl)
   callWith pos f first (backTo pos (starEach [] X.env)) (backToKw pos (keywordEach [] X.env))):=by rfl) :
 PE X (.Call (.Attribute o m apos) [] [] pos) (ny C m sp dvs E ta i4):=by
 intro b s σ H Q I h;refine W.methodCall_KW (pl:=pl) (aB (g b s σ H _ I h) λu s1 ζ=>?_) n;obtain⟨x,r,d,j,a,dx,fs,ex,p,l,q⟩:=ζ;subst ex;obtain rfl:u=Value.ref a:=j;refine Do d p c e l ?_;exact W.callWith_K0 (first:=[.ref a]) d.kIn e.kp (tU (us:=[.ref a]) (vs:=[.ref a]) F i hb hd hx d (.cons rfl .nil) q)
structure Mk (K:W.Frag) (C f:Addr):Prop where
 makes:W.makesIn K C=true
 init:W.findIn K (.ref C) "__init__" = some (some (.ref f))
 fn:W.isFn K (.ref f)=true
 kp:W.keepIn K (.ref C)=true
def Jw{b:List (Addr × Obj)}{σ:St}{H:Hp}{s:fy}{Q:VK}{us:List Value}{vs:List V}(M:Mk X.K C f)(F:bN X.prog X.w X.K X.mg X.base CX k f fd ps sp)(j:bV (k+1) X.A)(hb:ax X.K fd ps ds)(hd:aJ dvs ds)
 (hx:jr CX X E) (I:af X b σ H s) (r:aJ vs us)
 (h:∀x dx,H x=none->H dx=none->dx≠x->sp (.ref x::(vs++dvs)) (upd (upd H dx (.own x)) x (.ins C dx [])) (λv i=>v=.non/\Q (.ref x) i) E) :
 wpAny (model X.prog X.w) X.A (call (.ref C) us) (EP X b σ Q) X.xe s:=by
 have d:=h (s.heap.objs.size+1) s.heap.objs.size (I.hok.fresh (Wg _)) (I.hok.fresh (Va _)) (Vi (Vv _));have c:=af.made (C:=C) I;have g:aJ (V.ref (s.heap.objs.size+1)::(vs++dvs)) (Value.ref (s.heap.objs.size+1)::(us++ds)):=.cons rfl (r.append hd);have m:(Value.ref (s.heap.objs.size+1)::us++ds).length=ps.length:=by
  have e:=g.length;rw[F.len _ _ _ _ d]at e;exact e.symm
 refine wpAny_call (M8 (f:=f) I.kIn M.makes M.init (beq_iff_eq.mp M.fn) (codeAny_mono (F.run _ X.stack _ _ ⟨Value.ref (s.heap.objs.size+1)::us,[]⟩ (Value.ref (s.heap.objs.size+1)::(us++ds)) _ _ E (j.make C us [])
  (c.env0.make C us []) (hb _ (Value.ref (s.heap.objs.size+1)::us) c.kIn m) g d) λr o a=>?_))
 cases r with
 | error e=>exact hx b σ _ _ e o c a
 | ok fl =>
  cases fl with
  | ret u =>
   obtain⟨v,q,l,y,n,p⟩:=c.after a;subst n;exact⟨y,⟨V.ref (s.heap.objs.size+1),q,l,Z,p⟩⟩
  | next=>exact False.elim a
  | brk=>exact False.elim a
  | cont=>exact False.elim a
def K7(M:Mk X.K C f)(F:bN X.prog X.w X.K X.mg X.base CX k f fd ps sp)(j:bV (k+1) X.A)(i:Gl X x)(l:X.mg x=some (.ref C))(hb:ax X.K fd ps ds)(hd:aJ dvs ds)(hx:jr CX X E)
 (m:PA X (e::es) t) (c:(x == ("__debug__" : Str))=false:=by decide) (g:starEach (e::es) X.env=(false,eval e X.env)::starEach es X.env:=by rfl) (b:(backTo pos (starEach es X.env)).any (·.1)=false:=by rfl) :
 PE X (.Call (.Name x p) (e::es) [] pos) (Ao C sp dvs E t):=by
 intro a s σ H Q I h;refine wpAny_Call_Name_kw (jO I i l ?_ c);refine W.callWith_K (h₀:=X.base) I.ok.mod.kin M.kp (aB (m pos a s σ H _ I h) λus s1 ζ=>?_) g b;obtain⟨vs,n,d,r,q⟩:=ζ;refine ⟨d.kIn,?_⟩;exact Jw M F j hb hd hx d r q
end
section
variable {X:Cx}{CX:gQ}{k:Nat}{f C:Addr}{fd:FuncData}{ps ks:List Str}{sp:Sp}{E:XK}{x m:Str}{p pos apos kpos:Pos}{e o:Expr}{es:List Expr}{kws:List Keyword}{te ta:TE}{t tk:TA}{nm:Option Str}
structure UR (K:W.Frag) (fd:FuncData) (ps ks:List Str) (g:List Value->List Value->List Value) (gV:List V->List V->List V):Prop where
 to:∀(s:fy) (us ws:List Value),K.In s.heap->(g us ws).length=ps.length->BindsTo s fd ⟨us,ks.zip ws⟩ (ps.zip (g us ws))
 rel:∀ {vs:List V} {us:List Value} {zs:List V} {ws:List Value},aJ vs us->aJ zs ws->aJ (gV vs zs) (g us ws)
variable {g:List Value->List Value->List Value}{gV:List V->List V->List V}
end
structure aL (N P:List Str) (sc:Scope):Prop where
 kind:sc.kind=.function
 co:sc.isCoroutine=false
 gen:sc.isGenerator=false
 nd:N.Nodup
 pre:N.take P.length=P
 par:∀x∈P,sc.names.lookup x=some .local\/sc.names.lookup x=some .cell
 nofree:∀y∈sc.names,y.2 ≠ .free
theorem Ee{kindOf:Str->Option NameKind}{x:Str}:∀ {binds:List (Str × Value)} {m:Str->Option Value},(∀v,(x,v)∉binds)->bindL kindOf binds m x=m x
 | [],_,_=>rfl
 | (n,v)::r,m,h=>by
  unfold bindL;rw[Ee λw hw=>h w (Vx _ hw)]
  split
  ·have:x≠n:=by rintro rfl;exact h v Vz
   simp[this]
  ·rfl
theorem Eg{kindOf:Str->Option NameKind}{x:Str}:∀ {binds:List (Str × Value)} {m:Str->Option Value},(∀v,(x,v)∉binds)->bindC kindOf binds m x=m x
 | [],_,_=>rfl
 | (n,v)::r,m,h=>by
  unfold bindC;rw[Eg λw hw=>h w (Vx _ hw)]
  split
  ·rfl
  ·have:x≠n:=by rintro rfl;exact h v Vz
   simp[this]
theorem Ef{kindOf:Str->Option NameKind}{x:Str}{v:Value}:∀ {P:List Str} {vs:List Value} {i:Nat} {m:Str->Option Value},P.Nodup->P[i]? = some x->vs[i]? = some v->kindOf x=some .local ->
 bindL kindOf (P.zip vs) m x=some v
 | [],_,_,_,_,h,_,_=>by simp at h
 | _::_,[],_,_,_,_,h,_=>by simp at h
 | p::P,w::vs,0,m,nd,h1,h2,hk=>by
  simp at h1 h2;subst h1;subst h2;show bindL kindOf ((p,w)::P.zip vs) m p=_;unfold bindL;rw[Ee λv a=>(Ww.mp nd).1 (Xg a).1,X9 hk];simp
 | p::P,w::vs,i+1,m,nd,h1,h2,hk=>by
  show bindL kindOf ((p,w)::P.zip vs) m x=_;unfold bindL;exact Ef (i:=i) (Ww.mp nd).2 (by simpa using h1) (by simpa using h2) hk
theorem Eh{kindOf:Str->Option NameKind}{x:Str}{v:Value}:∀ {P:List Str} {vs:List Value} {i:Nat} {m:Str->Option Value},P.Nodup->P[i]? = some x->vs[i]? = some v->kindOf x≠some .local ->
 bindC kindOf (P.zip vs) m x=some v
 | [],_,_,_,_,h,_,_=>by simp at h
 | _::_,[],_,_,_,_,h,_=>by simp at h
 | p::P,w::vs,0,m,nd,h1,h2,hk=>by
  simp at h1 h2;subst h1;subst h2;show bindC kindOf ((p,w)::P.zip vs) m p=_;unfold bindC;rw[Eg λv a=>(Ww.mp nd).1 (Xg a).1,X8 hk];simp
 | p::P,w::vs,i+1,m,nd,h1,h2,hk=>by
  show bindC kindOf ((p,w)::P.zip vs) m x=_;unfold bindC;exact Eh (i:=i) (Ww.mp nd).2 (by simpa using h1) (by simpa using h2) hk
def gX(N:List Str)(vs:List V):St:=vs.map some++List.replicate (N.length-vs.length) none
def gp(CX:gQ)(P:Program)(w:World)(K:W.Frag)(mg:Str->Option Value)(base:Heap)(N:List Str)(qual:Str)(scope:Scope)(f:Addr)(b:Value)(A:Around)(outer:List Env)(s:fy)(H:Hp)(E:XK):Cx where
 prog:=P
 w:=w
 K:=K
 mg:=mg
 base:=base
 A:=A.deeper (envOfC qual scope s.heap.objs.size f b)
 N:=N
 s₀:=s
 H₀:=H
 env:=envOfC qual scope s.heap.objs.size f b
 outer:=outer
 stack:=envOfC qual scope s.heap.objs.size f b::outer
 ex:=[]
 calm:=true
 fn:=λ_=>true
 pn:=[]
 xe:=λe d=>wpAny (model P w) (A.deeper (envOfC qual scope s.heap.objs.size f b)) (leaving (envOfC qual scope s.heap.objs.size f b) e) (λ_ a=>CX outer H s E e a) (λc a=>CX outer H s E c a) d
def D5{a:Scope}{n:Nat}{x:Str}(h:a.names.lookup x=some .cell):∃c,(cellsFrom n a.names []).lookup x=some c:=by
 have q:=W.cellsFrom_some a.names n [] (.inl h);exact Xh.mp q
def NH{CX:gQ}{P:Program}{w:World}{K:W.Frag}{mg:Str->Option Value}{base:Heap}{N ps:List Str}{qual:Str}{scope:Scope}{f:Addr}{o:Value}{A:Around}{outer:List Env}{s s1:fy}{H:Hp}{E:XK}{us:List Value}{vs:List V}
 (S:aL N ps scope) (hd:A.handled=none) (g:ju P w K mg base A outer s H) (J:vs.length=ps.length) (r:aJ vs us)
 (x:InCallC s s.heap.objs.size (bindL (envOfC qual scope s.heap.objs.size f o).kindOf (ps.zip us) λ_=>none) (cellsFrom (s.heap.objs.size+1) scope.names []) (bindC (envOfC qual scope s.heap.objs.size f o).kindOf (ps.zip us) λ_=>none) s1) :
 af (gp CX P w K mg base N qual scope f o A outer s H E) [] (gX N vs) H s1:=by
 have F:ps.length<=N.length:=by have:=congrArg List.length S.pre;rw[Vk]at this;omega
 obtain⟨B,M,rfl,C⟩:=x.done;have noA:∀b:Addr,b∉(gp CX P w K mg base N qual scope f o A outer s H E).ex:=λb z=>Ya (show b∈([]:List Addr) from z) (by simp);refine⟨⟨g.mod,S.kind,rfl,rfl,Va _,λy z c B d=>?_,λy j=>?_,λy c _ h=>?_,λ_=>hd,Around.frames_deeper g.frames,.inr ⟨rfl,rfl⟩,λb z=>Ya z (noA b),g.bs,g.bsz,λb _ _=>noA b,λb z=>Ya z (noA b),g.funs,g.frf⟩,
  rfl,g.bare,Un.kept C,⟨_,x.toInCall.ns,λi y v B d L=>?_⟩,λy c h=>⟨_,x.cell y c h⟩,g.hok.fresh (Va _),λy c h=>?_,λp l=>Ya (show p∈([]:List (Addr × Obj)) from l) (by simp),g.hok.kept C,?_⟩
 ·exact name_of_addr x.apart (Wx B) (Wx d)
 ·have j:scope.names.lookup y=some .cell\/scope.names.lookup y=some .free:=j;rcases j with j|j
  ·exact D5 j
  ·exact Ya Z (S.nofree _ (Wx j))
 ·exact Xf (x.above y c (Wx h))
 ·have m:i<vs.length:=by
   unfold gX at d;by_cases m:i<vs.length
   ·exact m
   ·rw[VZ (by simpa using m)]at d;rw[XE]at d
    split at d<;>cases d
  have I:vs[i]? = some v:=by
   unfold gX at d;rw[V2 (by simpa using m),Vf]at d;cases e:vs[i]? with
   | none=>rw[e]at d;cases d
   | some a=>rw[e]at d;cases d;rfl
  obtain⟨u,D,G⟩:=r.get I;have l:ps[i]? = some y:=by
   rw[<- S.pre,Wz (by omega)];exact B
  have ndP:ps.Nodup:=by rw[<- S.pre];exact S.nd.sublist (List.take_sublist _ _)
  refine⟨u,G,?_⟩;rcases S.par y (Vo l) with k|k
  ·exact .inl ⟨k,Ef ndP l D k⟩
  ·obtain⟨c,e⟩:=D5 (n:=s.heap.objs.size+1) k;refine .inr ⟨.inl k,c,e,?_⟩;have q:=x.cell y c e;rw[Eh ndP l D (by show scope.names.lookup y≠_;rw[k];decide)]at q;exact q
 ·exact g.hok.fresh (Xf (x.above y c (Wx h)))
 ·unfold gX;show _=N.length;rw[Vc,U9,Xi];omega
def vg{CX:gQ}{P:Program}{w:World}{K:W.Frag}{mg:Str->Option Value}{base:Heap}{k:Nat}{f:Addr}{name qual:Str}{params:Arguments}{body:List Stmt}{scope:Scope}{dV kV j G a ct O:Value}{L od:Option Addr}
 {z:Array (Option Value)} {N ps:List Str} {sp:Sp} (R:K.lookup f=some ⟨O,od,.func (W.fnOf name qual params body scope dV kV j G L a ct),z⟩) (p:W.codeIn K a qual=true) (S:aL N ps scope)
 (len:∀vs H Q E,sp vs H Q E->vs.length=ps.length)
 (g:∀(A:Around) (outer:List Env) (s:fy) (H:Hp) (vs:List V) (Q:VK) (E:XK),bV k (A.deeper (envOfC qual scope s.heap.objs.size f a))->sp vs H Q E ->
   ∃t,gb (gp CX P w K mg base N qual scope f a A outer s H E) body t/\t { nx:=λ_ c=>Q .non c,rt:=Q } (gX N vs) H) :
 bN P w K mg base CX (k+1) f (W.fnOf name qual params body scope dV kV j G L a ct) ps sp:=by
 refine⟨len,λA outer s H args us vs Q E D h hb r i=>?_⟩;have hl:=len _ _ _ _ i;have M:K.In s.heap:=h.mod.kin.keeps λb o e=>(h.bs b o e).1;have C:s.heap.NoLimit:=h.mod.nolimit.keeps λb o e=>(h.bs b o e).1;have d:∀y∈ps.zip us,scope.names.lookup y.1=some .local\/(scope.names.lookup y.1=some .cell/\((cellsFrom (s.heap.objs.size+1) scope.names []).lookup y.1).isSome=true):=λ⟨n,v⟩ hy=>by
  rcases S.par n (Xg hy).1 with q|q
  ·exact .inl q
  ·exact .inr ⟨q,W.cellsFrom_some _ _ _ (.inl q)⟩
 refine codeAny_call_function D.depth (M _ _ R) Z S.co S.gen Z (W.codeRec_of M p) (hb _ _ _ _ ?_);refine wpAny_newFunctionEnv_cells S.kind d λenv Y s1 x=>?_;subst Y;refine⟨C.keeps x.toInCall.keep,codeAny_func ?_⟩;obtain⟨t,ht,U⟩:=g A outer s H vs Q E (D.deeper _) i;have I:af (gp CX P w K mg base N qual scope f a A outer s H E) [] (gX N vs) H s1:=NH S D.hd h hl r x;refine wpAny_mono (ht [] s1 (gX N vs) H _ I U) (λfl F hs=>?_) λe F hs=>hs;have l:∀ {m:St} {c:Hp} {v:V} {u:Value},af (gp CX P w K mg base N qual scope f a A outer s H E) [] m c F->aR v u->Q v c->CE outer P w H s Q u F :=
  λ{m c v u} J B q=>⟨v,c,J.os,J.bare,J.base,J.hok,B,q⟩
 cases fl with
 | ret u =>
  obtain⟨v,m,c,J,B,q⟩:=hs;exact l J B q
 | next =>
  obtain⟨m,c,J,q⟩:=hs;exact l (v:=V.non) (u:=Value.none) J Z q
 | brk =>
  obtain⟨_,_,_,q⟩:=hs;exact False.elim q
 | cont =>
  obtain⟨_,_,_,q⟩:=hs;exact False.elim q
section
variable {X:Cx}{x:Str}{p pos:Pos}{e:Expr}{es:List Expr}{t:TA}{id T:String}{r:List V->Hp->VK->Prop}
def j6(r:List V->Hp->VK->Prop)(t:TA):TE:=λσ H Q=>t σ H λvs a=>r vs a Q
def Li (o:ck X (.builtin id) r) (i:Gl X x) (l:X.mg x=none) (g:bootBuiltins x=some (.builtin id)) (q:PA X (e::es) t) (m:x ≠ "__name__":=by decide) (c:(x == ("__debug__" : Str))=false:=by decide)
 (f:starEach (e::es) X.env=(false,eval e X.env)::starEach es X.env:=by rfl) (b:(backTo pos (starEach es X.env)).any (·.1)=false:=by rfl):PE X (.Call (.Name x p) (e::es) [] pos) (j6 r t):=by
 intro a s σ H Q I h;refine wpAny_Call_Name_kw (ia I i l g ?_ m c);refine XF (aB (q pos a s σ H _ I h) λus s1 ζ=>?_) f b;obtain⟨vs,j,n,d,k⟩:=ζ;exact o a s1 σ j vs us Q n d k
def Lh (o:ck X (.type T) r) (i:Gl X x) (l:X.mg x=none) (g:bootBuiltins x=some (.type T)) (q:PA X (e::es) t) (m:x ≠ "__name__":=by decide) (c:(x == ("__debug__" : Str))=false:=by decide)
 (f:starEach (e::es) X.env=(false,eval e X.env)::starEach es X.env:=by rfl) (b:(backTo pos (starEach es X.env)).any (·.1)=false:=by rfl):PE X (.Call (.Name x p) (e::es) [] pos) (j6 r t):=by
 intro a s σ H Q I h;refine wpAny_Call_Name_kw (ia I i l g ?_ m c);refine V7 (aB (q pos a s σ H _ I h) λus s1 ζ=>?_) f b;obtain⟨vs,j,n,d,k⟩:=ζ;exact o a s1 σ j vs us Q n d k
end
section
variable {κ:Type}[DecidableEq κ]
def bJ(a:List (κ × V))(k:κ):Option V:=(a.find? λb=>decide (b.1=k)).map (·.2)
def cH(a:List (κ × V))(k:κ)(v:V):List (κ × V) :=
 if (a.any λb=>decide (b.1=k))=true then a.map (λb=>if b.1=k then (b.1,v) else b) else a++[(k,v)]
def gT{p:κ × V}{r:List (κ × V)}{k:κ}(e:p.1=k):bJ (p::r) k=some p.2:=by simp[bJ,VS,e]
def gU{p:κ × V}{r:List (κ × V)}{k:κ}(e:¬p.1=k):bJ (p::r) k=bJ r k:=by simp[bJ,VS,e]
theorem nh(k:κ):∀kvs:List (κ × V),(kvs.any λa=>decide (a.1=k))=(bJ kvs k).isSome
 | []=>rfl
 | p::r=>by
  rw[Wh];by_cases e:p.1=k
  ·simp only [gT e,Yc e,Bool.true_or,Option.isSome_some]
  ·rw[gU e,Yd e,Bool.false_or];exact nh k r
theorem zR(k j:κ)(y:V):∀kvs:List (κ × V),bJ (kvs.map λa=>if a.1=k then (a.1,y) else a) j=(bJ kvs j).map λx=>if j=k then y else x
 | []=>rfl
 | p::r=>by
  have ih:=zR k j y r;rw[VM];by_cases h:p.1=k
  ·rw[X9 h];by_cases e:p.1=j
   ·rw[gT (p:=(p.1,y)) e,gT e,Wi,X9 (e.symm.trans h)]
   ·rw[gU (p:=(p.1,y)) e,gU e,ih]
  ·rw[X8 h];by_cases e:p.1=j
   ·rw[gT (p:=p) e,gT e,Wi,X8 (λz=>h (e.trans z))]
   ·rw[gU (p:=p) e,gU e,ih]
theorem zQ(k j:κ)(y:V):∀kvs:List (κ × V),bJ kvs k=none->bJ (kvs++[(k,y)]) j=if j=k then some y else bJ kvs j
 | [],_=>by
  by_cases e:k=j
  ·rw[X9 e.symm];exact gT (p:=(k,y)) e
  ·rw[X8 (λz=>e z.symm)];exact gU (p:=(k,y)) e
 | p::r,hn=>by
  rw[WV];have a:¬p.1=k:=λz=>by rw[gT z]at hn;cases hn
  rw[gU a]at hn;have ih:=zQ k j y r hn;by_cases e:p.1=j
  ·rw[gT e,gT e,X8 (λz=>a (e.trans z))]
  ·rw[gU e,gU e,ih]
def ij(b:List (κ × V))(k j:κ)(y:V):bJ (cH b k y) j=if j=k then some y else bJ b j:=by
 unfold cH;by_cases a:(b.any λc=>decide (c.1=k))=true
 ·rw[X9 a,zR];rw[nh]at a;by_cases e:j=k
  ·obtain⟨x,hx⟩:=Xh.mp a;rw[X9 e,e,hx,Wi,X9 rfl]
  ·rw[X8 e];cases bJ b j with
   | none=>rfl
   | some x=>rw[Wi,X8 e]
 ·rw[X8 a];refine zQ k j y b ?_;rw[nh]at a;cases q:bJ b k with
  | none=>rfl
  | some x=>rw[q]at a;exact (a Z).elim
def nX(a:List (κ × V))(k:κ)(v:V):(cH a k v).length<=a.length+1:=by
 unfold cH
 split
 ·rw[U9];omega
 ·rw[Vc,Vt,WW];omega
def Kc{a:List (κ × V)}{k:κ}(v:V)(h:bJ a k=none):cH a k v=a++[(k,v)]:=by
 unfold cH;rw[nh,h];exact X8 (by decide)
def cT.isSome_eq{o:Option V}{u:Option Value}(r:cT o u):o.isSome=u.isSome:=by
 cases o with
 | none=>cases u with
  | none=>rfl
  | some _=>exact (show False from r).elim
 | some _=>cases u with
  | none=>exact (show False from r).elim
  | some _=>rfl
def cT.getD{o:Option V}{u:Option Value}{d:V}{d':Value}(r:cT o u)(rd:aR d d'):aR (o.getD d) (u.getD d'):=by
 cases o with
 | none=>cases u with
  | none=>exact rd
  | some _=>exact (show False from r).elim
 | some _=>cases u with
  | none=>exact (show False from r).elim
  | some _=>exact r
def KV.val{a:List (κ × V)}{vs:List (κ × Value)}(r:KV a vs)(k:κ):cT (bJ a k) (valueAt vs k):=by
 unfold KV at r
 induction r with
 | nil=>exact True.intro
 | @cons p q ps qs h t ih =>
  obtain⟨d,f⟩:=h;by_cases e:p.1=k
  ·have c:q.1=k:=d.symm.trans e;have b:valueAt (q::qs) k=some q.2:=by simp[valueAt,VS,c]
   rw[gT e,b];exact f
  ·have c:¬q.1=k:=λz=>e (d.trans z);have b:valueAt (q::qs) k=valueAt qs k:=by simp[valueAt,VS,c]
   rw[gU e,b];exact ih
def KV.any{a:List (κ × V)}{vs:List (κ × Value)}(r:KV a vs)(k:κ):(a.any λb=>decide (b.1=k))=vs.any λb=>decide (b.1=k):=by
 unfold KV at r
 induction r with
 | nil=>rfl
 | cons h t ih=>rw[Wh,Wh,ih,h.1]
def KV.repl{b:List (κ × V)}{vs:List (κ × Value)}(r:KV b vs)(k:κ){y:V}{u:Value}(d:aR y u) :
 KV (b.map λa=>if a.1=k then (a.1,y) else a) (vs.map λa=>if a.1=k then (a.1,u) else a):=by
 unfold KV at r ⊢
 induction r with
 | nil=>exact .nil
 | @cons p q ps qs h t ih =>
  rw[VM,VM];refine .cons ?_ ih;obtain⟨c,f⟩:=h;by_cases e:p.1=k
  ·rw[X9 e,X9 (c.symm.trans e)];exact⟨c,d⟩
  ·rw[X8 e,X8 (λz=>e (c.trans z))];exact⟨c,f⟩
def KV.put{a:List (κ × V)}{vs:List (κ × Value)}(r:KV a vs)(k:κ){y:V}{u:Value}(b:aR y u):KV (cH a k y) (stored vs k u):=by
 unfold cH stored;rw[r.any k];by_cases e:(vs.any λc=>decide (c.1=k))=true
 ·rw[X9 e,X9 e];exact r.repl k b
 ·rw[X8 e,X8 e];exact Paired.snoc r ⟨rfl,b⟩
def KV.length{a:List (κ × V)}{vs:List (κ × Value)}(r:KV a vs):a.length=vs.length:=Paired.length r
end
def jf{P:Program}{w:World}{k:aV}{u:Value}(r:aR (kV k) u):(cD P w).is k u=true:=by
 cases k with
 | inl i=>obtain⟨t,e⟩:=(show ∃t,u=Value.int i t from r);subst e;exact Cf P w i t
 | inr x=>obtain⟨t,e⟩:=(show ∃t,u=Value.str x t from r);subst e;exact Ce P w x t
theorem CD{P:Program}{w:World}:∀ {ks:List aV} {us:List Value},aJ (ks.map kV) us->ItemsAre (cD P w) ks us
 | [],_,r=>by rw[WX]at r;cases r;exact .nil
 | k::ks,_,r=>by
  rw[VM]at r;cases r with
  | cons h t=>exact .cons (jf h) (CD t)
abbrev KT(H:Hp):List (List aV × V)->List (List aV × Addr × Value)->Prop:=Paired λp q=>p.1=q.1/\H q.2.1=some (.tup (p.1.map kV))/\aR p.2 q.2.2
def KT.val{H:Hp}{a:List (List aV × V)}{xs:List (List aV × Addr × Value)}(r:KT H a xs)(k:List aV):cT (bJ a k) ((atKey xs k).map (·.2)):=by
 induction r with
 | nil=>exact True.intro
 | @cons p q ps qs h t ih =>
  obtain⟨d,_,f⟩:=h;by_cases e:p.1=k
  ·have c:q.1=k:=d.symm.trans e;have b:atKey (q::qs) k=some q.2:=by simp[atKey,VS,c]
   rw[gT e,b];exact f
  ·have c:¬q.1=k:=λz=>e (d.trans z);have b:atKey (q::qs) k=atKey qs k:=by simp[atKey,VS,c]
   rw[gU e,b];exact ih
def KT.repl{H:Hp}{a:List (List aV × V)}{xs:List (List aV × Addr × Value)}(r:KT H a xs)(k:List aV){y:V}{u:Value}(f:aR y u) :
 KT H (a.map λc=>if c.1=k then (c.1,y) else c) (xs.map (putAt k u)):=by
 induction r with
 | nil=>exact .nil
 | @cons p q ps qs h t ih =>
  rw[VM,VM];refine .cons ?_ ih;obtain⟨b,d,g⟩:=h;unfold putAt;by_cases e:p.1=k
  ·rw[X9 e,X9 (b.symm.trans e)];exact⟨b,d,f⟩
  ·rw[X8 e,X8 (λz=>e (b.trans z))];exact⟨b,d,g⟩
def KT.put{H:Hp}{a:List (List aV × V)}{xs:List (List aV × Addr × Value)}(r:KT H a xs)(k:List aV){b:Addr}{y:V}{u:Value}(hb:H b=some (.tup (k.map kV)))(c:aR y u) :
 KT H (cH a k y) (storedH xs k b u):=by
 have e:(a.any λd=>decide (d.1=k))=(atKey xs k).isSome:=by
  rw[nh,(r.val k).isSome_eq,WY]
 unfold cH storedH;rw[e];by_cases q:(atKey xs k).isSome=true
 ·rw[X9 q,X9 q];exact r.repl k c
 ·rw[X8 q,X8 q];exact Paired.snoc r ⟨rfl,hb,c⟩
def KT.keeps{H c:Hp}{a:List (List aV × V)}{xs:List (List aV × Addr × Value)}(r:KT H a xs)(d:∀b ys,H b=some (.tup ys)->c b=some (.tup ys)):KT c a xs :=
 Paired.mapP r λ_ _ z=>⟨z.1,d _ _ z.2.1,z.2.2⟩
section
variable {P:Program}{w:World}{H:Hp}{h:Heap}{a:Addr}
def Bo{u:HO}(ok:bM P w H h)(e:Rd H a u):bK P w H h a u:=e.ok ok
def oW{b:List (aV × V)}(ok:bM P w H h)(e:Rd H a (.dK b)):b.length<=sizeLine/\(a == sysModules)=false/\∃vs,KV b vs/\h.DictOf (cD P w) a vs :=
 show bK P w H h a (.dK b) from Bo ok e
def QV{b:List (aV × V)}(ok:bM P w H h)(e:H a=some (.dK b)):b.length<=sizeLine/\(a == sysModules)=false/\∃vs,KV b vs/\h.DictOf (cD P w) a vs:=oW ok (.inl e)
def nZ{ks:List aV}(ok:bM P w H h)(e:H a=some (.tup (ks.map kV))):(tupleKind (cD P w)).is h ks a:=by
 obtain⟨_,b,r,o,f,d,n,c⟩:=(show bK P w H h a (.tup (ks.map kV)) from ok a _ e);exact⟨o,b.toArray,n,f,d,c,by simpa using CD r⟩
def oS{b:List (List aV × V)}(ok:bM P w H h)(e:Rd H a (.dT b)):b.length<=sizeLine/\(a == sysModules)=false /\
 ∃xs,KT H b xs/\h.DictOfH (tupleKind (cD P w)) a xs:=by
 obtain⟨z,y,xs,r,o,es,g,j,d,i,c,f⟩:=(show bK P w H h a (.dT b) from Bo ok e);refine⟨z,y,xs,r,o,es,g,j,d,i,c,λx hx=>?_,f⟩;have all:∀ {l:List (List aV × V)} {m:List (List aV × Addr × Value)},KT H l m->∀x∈m,(tupleKind (cD P w)).is h x.1 x.2.1:=by
  intro l m q
  induction q with
  | nil=>intro x hx;exact nomatch hx
  | @cons p q ps qs hq t ih =>
   intro x hx;rcases Vr.mp hx with e|hx
   ·subst e;exact nZ ok (by rw[<- hq.1];exact hq.2.1)
   ·exact ih x hx
 exact all r x hx
def QN{b:List (List aV × V)}(ok:bM P w H h)(e:H a=some (.dT b)):b.length<=sizeLine/\(a == sysModules)=false /\
 ∃xs,KT H b xs/\h.DictOfH (tupleKind (cD P w)) a xs:=oS ok (.inl e)
end
def fN(H:Hp)(a:Addr)(y:V)(r:Option V):Prop :=
 (∃kvs k,Rd H a (.dK kvs)/\y=kV k/\r=bJ kvs k)\/∃kvs k b,Rd H a (.dT kvs)/\y=.ref b/\H b=some (.tup (k.map kV))/\r=bJ kvs k
def iG(H:Hp)(a:Addr)(y v:V)(c:Hp):Prop :=
 (∃kvs k,H a=some (.dK kvs)/\y=kV k/\kvs.length<sizeLine/\c=upd H a (.dK (cH kvs k v))) \/
 ∃kvs k b,H a=some (.dT kvs)/\y=.ref b/\H b=some (.tup (k.map kV))/\kvs.length<sizeLine/\c=upd H a (.dT (cH kvs k v))
def fN.k{H:Hp}{a:Addr}{b:List (aV × V)}{k:aV}(e:H a=some (.dK b)):fN H a (kV k) (bJ b k):=.inl ⟨b,k,.inl e,rfl,rfl⟩
def fN.t{H:Hp}{a b:Addr}{c:List (List aV × V)}{k:List aV}(e:H a=some (.dT c))(d:H b=some (.tup (k.map kV))):fN H a (.ref b) (bJ c k):=.inr ⟨c,k,b,.inl e,rfl,d,rfl⟩
def iG.k{H:Hp}{a:Addr}{b:List (aV × V)}{k:aV}{v:V}(e:H a=some (.dK b))(c:b.length<sizeLine):iG H a (kV k) v (upd H a (.dK (cH b k v))):=.inl ⟨b,k,e,rfl,c,rfl⟩
def iG.t{H:Hp}{a b:Addr}{c:List (List aV × V)}{k:List aV}{v:V}(e:H a=some (.dT c))(d:H b=some (.tup (k.map kV)))(f:c.length<sizeLine) :
 iG H a (.ref b) v (upd H a (.dT (cH c k v))):=.inr ⟨c,k,b,e,rfl,d,f,rfl⟩
section
variable {X:Cx}{pins:List (Addr × Obj)}{σ:St}{H:Hp}{s:fy}{a:Addr}{y v:V}{u r:Value}{o:Option V}{A:Around}{E:Value->fy->Prop}
def af.big(I:af X pins σ H s):sysModules<s.heap.objs.size:=by
 have h:mainGlobals<s.heap.objs.size:=(I.mod.glob.keeps I.bk).lt;exact Nat.lt_trans (by decide) h
def Q3{Q:Value->fy->Prop}(i:A.units+1<cLine)(I:af X pins σ H s)(g:fN H a y o)(f:aR y u)(h:∀s',af X pins σ H s'->Q (.bool o.isSome) s') :
 wpAny (model X.prog X.w) A (compareOp .In u (.ref a)) Q E s:=by
 rcases g with ⟨kvs,k,e,ey,l⟩|⟨kvs,k,b,e,ey,eb,l⟩
 ·subst ey;obtain⟨z,hd,vs,c,d⟩:=oW I.hok e;refine wpAny_in_of (jf f) hd d.mapOf ?_;rw[<- (c.val k).isSome_eq,<- l];exact h _ (I.tok _)
 ·subst ey;cases (show u=Value.ref b from f);obtain⟨z,hd,xs,c,d⟩:=oS I.hok e;refine wpAny_in_heap (tupleKind_room_in1 i) (nZ I.hok eb) hd d ?_;have q:=(c.val k).isSome_eq;rw[WY]at q;rw[<- q,<- l];exact h _ (I.tok _)
def Q0{Q:Value->fy->Prop}(i:A.units+1<cLine)(I:af X pins σ H s)(g:fN H a y o)(f:aR y u)(h:∀s',af X pins σ H s'->Q (.bool (!o.isSome)) s') :
 wpAny (model X.prog X.w) A (compareOp .NotIn u (.ref a)) Q E s:=by
 rcases g with ⟨kvs,k,e,ey,l⟩|⟨kvs,k,b,e,ey,eb,l⟩
 ·subst ey;obtain⟨z,hd,vs,c,d⟩:=oW I.hok e;refine wpAny_notIn_of (jf f) hd d.mapOf ?_;rw[<- (c.val k).isSome_eq,<- l];exact h _ (I.tok _)
 ·subst ey;cases (show u=Value.ref b from f);obtain⟨z,hd,xs,c,d⟩:=oS I.hok e;refine wpAny_notIn_heap (tupleKind_room_in1 i) (nZ I.hok eb) hd d ?_;have q:=(c.val k).isSome_eq;rw[WY]at q;rw[<- q,<- l];exact h _ (I.tok _)
def DU{h':Heap}{t':Nat}{c:HO}(I:af X pins σ H s)(f:pH (H a))(hs:Heap.SameBut a s.heap h')(d:∃q,h'.get? a=some q)(new:bK X.prog X.w (upd H a c) h' a c) :
 af X pins σ (upd H a c) { s with heap:=h',toks:=t' } :=
 I.write (x:=a) (e:=a) f (.inl rfl) (λb q hb z=>(hs.2 b hb).trans z) d new
def QX{P:Program}{w:World}{d:Hp}{h':Heap}{b:List (aV × V)}{vs:List (aV × Value)}(z:b.length<=sizeLine)(hd:(a == sysModules)=false)(c:KV b vs)(e:h'.DictOf (cD P w) a vs) :
 bK P w d h' a (.dK b):=⟨z,hd,vs,c,e⟩
def QZ{p:Hp}{Q:Unit->fy->Prop}(L:A.units+1<cLine)(I:af X pins σ H s)(g:iG H a y v p)(o:aR y u)(x:aR v r)(h:∀s',af X pins σ p s'->Q () s') :
 wpAny (model X.prog X.w) A (setItem (.ref a) u r) Q E s:=by
 rcases g with ⟨kvs,k,e,ey,l,eH⟩|⟨kvs,k,b,e,ey,eb,l,eH⟩
 ·subst ey eH;obtain⟨z,hd,vs,d,j⟩:=QV I.hok e;have hz:vs.length<=sizeLine:=by rw[<- d.length];exact z
  have m:(cH kvs k v).length<=sizeLine:=by have:=nX kvs k v;omega
  refine wpAny_setItem_pairs (hsz:=hz) (jf o) j λh' f hs=>h _ ?_;have B:∃q,h'.get? a=some q:=let ⟨q,_,_,i,_⟩:=f;⟨q,i⟩
  exact DU I (by rw[e];exact True.intro) hs B (QX m hd (d.put k x) f)
 ·subst ey eH;cases (show u=Value.ref b from o);obtain⟨z,hd,xs,d,j⟩:=QN I.hok e;have hz:xs.length<=sizeLine:=by rw[<- Paired.length d];exact z
  have m:(cH kvs k v).length<=sizeLine:=by have:=nX kvs k v;omega
  refine wpAny_setItem_heap (hsz:=hz) (tupleKind_room_in1 L) (nZ I.hok eb) j λh' f hs=>h _ ?_;obtain⟨q,es,G,i,D,J,C,_,F⟩:=f;refine DU I (by rw[e];exact True.intro) hs ⟨q,i⟩ ⟨m,hd,_,(d.put k eb x).keeps λc ys n=>?_,q,es,G,i,D,J,C,F⟩;rw[au (L4 n e (λz=>nomatch z))];exact n
end
def EA(i:Expr):Prop:=∀ov iv,subscripted i false ov iv=operate [ov,iv] (getItem ov iv)
def G0{prog:Program}{w:World}{A:Around}{E:Value->fy->Prop}{s:fy}{env:Env}{value a:Expr}{pos:Pos}{T id:String}{Q:Value->fy->Prop}
 (g:typeLookup (.type T) "__getitem__" = pure (some (.builtin id))) (hs:EA a)
 (h:wpAny (model prog w) A (eval value env) (λo e=>wpAny (model prog w) A (eval a env) (λi c=>c.TypeIs o T/\wpAny (model prog w) A (getItem o i) Q E c) E e) E s) :
 wpAny (model prog w) A (eval (.Subscript value a pos) env) Q E s:=by
 refine Subscript_ (wpAny_mono h (λo e k=>wpAny_mono k (λi c d=>?_) λ_ _ x=>x) λ_ _ x=>x);obtain⟨hT,d⟩:=d;unfold subscriptTail;refine on ?_;rw[getitemInPython_of_ne hT.not_modules];refine on (wpAny_specialOf hT g ?_);have b:wpAny (model prog w) A (subscripted a false o i) (λr f=>wpAny (model prog w) A (letTemporaryGo value o r >>= λ_=>pure r) Q E f) E c:=by
  rw[hs o i];exact wpAny_operating (wpAny_mono d (λr f j=>on (wpAny_letTemporaryGo (X7 j))) λ_ _ x=>x)
 first
  | exact X7 (on b)
  | exact on (X7 (on b))
  | exact on b
def Bk(e ty f:TE):TS:=λD σ H=>f σ H λv c=>e σ c λx b=>ty σ b λy d=>∃a H4,x=.ref a/\iG d a y v H4/\D.nx σ H4
section
variable {X:Cx}{o i e value:Expr}{pos pos' tpos:Pos}{td ty tv:TE}
def Kz(p:X.A.units+1<cLine)(ho:PE X o td)(c:PE X i ty)(l:PE X value tv)(hs:swapsWith value (some (.Subscript o i pos')) pos.line X.env=pure false) :
 PS X (.Assign [.Subscript o i pos'] value pos) (Bk td ty tv):=by
 intro b s σ H D I h;refine wpAny_Assign_Subscript (aB (l b s σ H _ I h) λr s1 ζ=>?_) hs;obtain⟨v,e,q,k,C⟩:=ζ;refine aB (ho b s1 σ e _ q C) λu j ζ=>?_;obtain⟨x,B,d,G,J⟩:=ζ;refine aB (c b j σ B _ d J) λL O ζ=>?_;obtain⟨y,M,F,f,a,m,ex,g,z⟩:=ζ;subst ex;obtain rfl:u=Value.ref a:=G;exact QZ p F g f k λN n=>⟨σ,m,n,z⟩
end
def QY{P:Program}{w:World}{H:Hp}(h:Heap)(hb:sysModules<h.objs.size):bK P w H (h.push { cls:=.type "dict",data:=.dict #[] }) h.objs.size (.dK []) :=
 ⟨Vq _,beq_eq_false_iff_ne.mpr (Ne.symm (Vi hb)),[],.nil,Heap.DictOf.new h⟩
def QP{P:Program}{w:World}{H:Hp}(h:Heap)(hb:sysModules<h.objs.size):bK P w H (h.push { cls:=.type "dict",data:=.dict #[] }) h.objs.size (.dT []) :=
 ⟨Vq _,beq_eq_false_iff_ne.mpr (Ne.symm (Vi hb)),[],.nil,_,#[],0,VH _ rfl,⟨rfl,rfl,rfl⟩,rfl,rfl,List.nodup_nil⟩
def GX:TE:=λ_ H Q=>∀p,H p=none->Q (.ref p) (upd H p (.dK []))
def GW:TE:=λ_ H Q=>∀p,H p=none->Q (.ref p) (upd H p (.dT []))
section
variable {X:Cx}{pos:Pos}
def Lc:PE X (.Dict [] [] pos) GX:=λb s σ H Q I h =>
 wpAny_Dict_empty ⟨.ref s.heap.objs.size,_,I.laid (a:=s.heap.objs.size) (o:=.dK []) (t':=s.toks) (λ_ _ q=>Vg _ q) (Va _) (QY s.heap I.big),rfl,h _ (I.hok.fresh (Va _))⟩
def Lb:PE X (.Dict [] [] pos) GW:=λb s σ H Q I h =>
 wpAny_Dict_empty ⟨.ref s.heap.objs.size,_,I.laid (a:=s.heap.objs.size) (o:=.dT []) (t':=s.toks) (λ_ _ q=>Vg _ q) (Va _) (QP s.heap I.big),rfl,h _ (I.hok.fresh (Va _))⟩
end
structure M1 (X:Cx) (o:Expr) (m:Str) (apos:Pos) (e:Expr) (cpos:Pos):Prop where
 base:attributeBase o m X.env (eval o X.env)=eval o X.env
 few:((backTo cpos (starEach [e] X.env)).all (λx=>!x.1) && (backToKw cpos (keywordEach [] X.env)).all (λx=>x.1.isSome)
  && decide (([e]:List Expr).length+([]:List Keyword).length+(if ([]:List Keyword).isEmpty then 0 else 1)<30))=true
 line:(apos.endLine == cpos.line)=true
 trees:backTo cpos (starEach [e] X.env)=[(false,eval e X.env)]
structure M2 (X:Cx) (o:Expr) (m:Str) (apos:Pos) (e f:Expr) (cpos:Pos):Prop where
 base:attributeBase o m X.env (eval o X.env)=eval o X.env
 few:((backTo cpos (starEach [e,f] X.env)).all (λx=>!x.1) && (backToKw cpos (keywordEach [] X.env)).all (λx=>x.1.isSome)
  && decide (([e,f]:List Expr).length+([]:List Keyword).length+(if ([]:List Keyword).isEmpty then 0 else 1)<30))=true
 line:(apos.endLine == cpos.line)=true
 trees:backTo cpos (starEach [e,f] X.env)=[(false,eval e X.env),(false,eval f X.env)]
def EB(H:Hp)(a:Addr):Prop:=(∃kvs,Rd H a (.dK kvs))\/∃kvs,Rd H a (.dT kvs)
def NG{X:Cx}{g:List (Addr × Obj)}{σ:St}{H:Hp}{s:fy}{a:Addr}(I:af X g σ H s)(d:EB H a) :
 s.TypeIs (.ref a) "dict"/\(∀b,Value.ref a=.ref b->∃c,s.heap.get? b=some c/\c.dict=none)/\(a == sysModules)=false:=by
 rcases d with ⟨kvs,e⟩|⟨kvs,e⟩
 ·obtain⟨_,hd,vs,_,f⟩:=oW I.hok e;refine⟨f.typeIs,λb q=>?_,hd⟩;cases q;obtain⟨c,_,_,i,h,_⟩:=f;exact⟨c,i,h.2.1⟩
 ·obtain⟨_,hd,xs,_,f⟩:=oS I.hok e;refine⟨f.typeIs,λb q=>?_,hd⟩;cases q;obtain⟨c,_,_,i,h,_⟩:=f;exact⟨c,i,h.2.1⟩
section
variable {X:Cx}{pins:List (Addr × Obj)}{σ:St}{H:Hp}{s:fy}{a:Addr}{y d:V}{u r:Value}{o:Option V}{A:Around}{E:Value->fy->Prop}
def Q4{Q:Value->fy->Prop}(i:A.units+1<cLine)(I:af X pins σ H s)(g:fN H a y o)(f:aR y u)(h:∀w' s',af X pins σ H s'->aR (o.getD .non) w'->Q w' s') :
 wpAny (model X.prog X.w) A (call (.builtin "dict.get") [.ref a,u]) Q E s:=by
 rcases g with ⟨kvs,k,e,ey,l⟩|⟨kvs,k,b,e,ey,eb,l⟩
 ·subst ey;obtain⟨z,hd,vs,c,d⟩:=oW I.hok e;refine call_meetsIn WA d.typeIs Xj (XG _ _) (meets_dict_get (cD X.prog X.w) a (jf f) hd) ⟨_,d.mapOf,h _ _ (I.tok _) ?_⟩;rw[l];exact (c.val k).getD Z
 ·subst ey;cases (show u=Value.ref b from f);obtain⟨z,hd,xs,c,d⟩:=oS I.hok e;refine call_meetsIn WA d.typeIs Xj (XG _ _) (meetsH_dict_get (tupleKind (cD X.prog X.w)) a b hd) ⟨tupleKind_room_in1 i,k,xs,nZ I.hok eb,d,h _ _ (I.tok _) ?_⟩;rw[l];exact (c.val k).getD Z
end
def Av(d ty:TE):TE:=λσ H Q=>d σ H λx c=>∃a,x=.ref a/\EB c a/\ty σ c λy b=>∃o,fN b a y o/\Q (o.getD .non) b
section
variable {X:Cx}{o e f:Expr}{apos cpos:Pos}{td ty tx:TE}
def Ld (q:X.A.units+1<cLine) (ho:PE X o td) (p:PE X e ty) (m:M1 X o "get" apos e cpos):PE X (.Call (.Attribute o "get" apos) [e] [] cpos) (Av td ty):=by
 intro b s σ H Q I h;refine wpAny_Call_method m.base m.few m.line XH WA XI (aB (ho b s σ H _ I h) λu s1 ζ=>?_);obtain⟨x,j,f,B,a,ex,d,v⟩:=ζ;subst ex;obtain rfl:u=Value.ref a:=B;obtain⟨l,n,_⟩:=NG f d;refine⟨l,n,?_⟩;rw[m.trees];refine Calls.callWith_builtin Z (Calls.evalArgs_plain (Calls.spliced_cons (aB (p b s1 σ j _ f v) λD F ζ=>?_)));obtain⟨y,r,i,k,L,g,C⟩:=ζ;refine Calls.spliced_nil ?_;exact Q4 q i g k λG J z c=>⟨_,r,z,c,C⟩
end
end L2
namespace HT
open PySem PyProof.Rows
section
variable {prog:Program}{w:World}{A:Around}{E:Value->fy->Prop}{s:fy}
def sIx(n d:Nat):Option Int->Nat
 | none=>d
 | some v=>if v<0 then (v+(n:Int)).toNat else min v.toNat n
def Js(n d:Nat)(hd:d<=n)(o:Option Int):sIx n d o<=n:=by
 cases o with
 | none=>exact hd
 | some v =>
  show (if v<0 then (v+(n:Int)).toNat else min v.toNat n)<=n;by_cases hv:v<0
  ·rw[X9 hv];omega
  ·rw[X8 hv];exact Nat.min_le_right _ _
def D4(v:Int)(n d:Nat):(if v<0 then max (v+(n:Int)) 0 else min v (n:Int))=((sIx n d (some v):Nat):Int):=by
 show (if v<0 then max (v+(n:Int)) 0 else min v (n:Int))=(((if v<0 then (v+(n:Int)).toNat else min v.toNat n):Nat):Int);by_cases hv:v<0
 ·simp only [X9 hv];omega
 ·simp only [X8 hv];omega
def Ty(lo a:Option Int)(n:Nat):Builtin.Slice.sliceAdjust lo a 1 (n:Int)=(((sIx n 0 lo:Nat):Int),((sIx n n a:Nat):Int)):=by
 have b:¬((1:Int)<0):=by omega
 unfold Builtin.Slice.sliceAdjust;simp only [b,if_false];refine Prod.ext ?_ ?_
 ·cases lo with
  | none=>rfl
  | some v=>exact D4 v n 0
 ·cases a with
  | none=>rfl
  | some v=>exact D4 v n n
def KJ(i j:Nat):Builtin.Slice.slicePlaces (i:Int) (j:Int) 1=j-i:=by
 unfold Builtin.Slice.slicePlaces;have a:(1:Int) > 0:=by omega
 simp only [a,if_true,Int.ediv_one]
 split<;>omega
def AR{v:Value}{o:Option Int}{Q:Option Int->fy->Prop}(p:IsPart v o)(h:Q o s):wpAny (model prog w) A (Builtin.Slice.slicePartIndex v) Q E s:=by
 cases p with
 | none=>exact slicePart_none h
 | int i t=>exact slicePart_int h
def AS{f:Addr}{e d:Value}{lo a:Option Int}{n:Nat}{Q:Int × Int × Nat->fy->Prop}(hs:s.heap.IsSliceOf f e d .none)(pl:IsPart e lo)(g:IsPart d a)
 (h:Q (((sIx n 0 lo:Nat):Int),1,sIx n n a-sIx n 0 lo) s):wpAny (model prog w) A (Builtin.Slice.sliceApplied (.ref f) (pure (n:Int))) Q E s:=by
 obtain⟨os,c,i,b⟩:=id hs;unfold Builtin.Slice.sliceApplied Builtin.Slice.sliceFields;refine on (on (wpAny_field c b (x:=e) Z (on (wpAny_field c b (x:=d) Z (on (wpAny_field c b (x:=.none) Z (X7 ?_)))))));refine on (slicePart_none ?_);show wpAny _ _ (if ((1:Int) == 0)=true then _ else _) _ _ s;rw[X8 (by decide)];refine on (AR pl (on (AR g (on (X7 ?_)))));show wpAny _ _ (match Builtin.Slice.sliceAdjust lo a 1 (n:Int) with|(lo,a)=>pure (lo,(1:Int),Builtin.Slice.slicePlaces lo a 1)) _ _ s;rw[Ty lo a n];show wpAny _ _ (pure (((sIx n 0 lo:Nat):Int),(1:Int),Builtin.Slice.slicePlaces ((sIx n 0 lo:Nat):Int) ((sIx n n a:Nat):Int) 1)) _ _ s;rw[KJ];exact X7 h
def KK(xs:Array Value)(i k:Nat):((List.range k).filterMap λ(m:Nat)=>xs[((i:Int)+(m:Int)*1).toNat]?).toArray=((xs.toList.drop i).take k).toArray:=by
 have e:(λ(m:Nat)=>xs[((i:Int)+(m:Int)*1).toNat]?)=λm=>xs[i+m]?:=by
  funext m
  have:((i:Int)+(m:Int)*1).toNat=i+m:=by omega
  rw[this]
 rw[e];have:=pick_run xs i k;rw[List.filterMap_map]at this;have a:((λx=>xs[x]?) ∘ λx=>i+x)=λm=>xs[i+m]?:=rfl;rw[a]at this;rw[this]
def getItem_tuple_cut{t g:Addr}{items:Array Value}{j i:Value}{lo b:Option Int}{Q:Value->fy->Prop}(c:IsTup s.heap t items)(hs:s.heap.IsSliceOf g j i .none)(pl:IsPart j lo)(k:IsPart i b)
 (hw:¬(sIx items.size 0 lo=0/\sIx items.size items.size b=items.size))
 (h:Q (.ref s.heap.objs.size) { s with heap:=s.heap.push { cls:=.type "tuple",data:=.seq ((items.toList.drop (sIx items.size 0 lo)).take (sIx items.size items.size b-sIx items.size 0 lo)).toArray } })
 (hsz:items.size<=sizeLine):wpAny (model prog w) A (getItem (.ref t) (.ref g)) Q E s:=by
 have a:sizeOk (.seq ((items.toList.drop (sIx items.size 0 lo)).take (sIx items.size items.size b-sIx items.size 0 lo)).toArray):=by
  show ((items.toList.drop (sIx items.size 0 lo)).take (sIx items.size items.size b-sIx items.size 0 lo)).toArray.size<=sizeLine;rw[Vl,Vk,VT,VE];omega
 have n:sIx items.size items.size b<=items.size:=Js _ _ (Va _) b;obtain⟨os,f,e,l⟩:=id hs;have hTs:s.TypeIs (.ref g) "slice":=⟨os,f,e⟩;unfold getItem
 try with_reducible refine wpAny_holding ?_
 first|refine on (X7 ?_)|skip
 refine on (wpAny_sequenceKey c.typeIs (by decide) ?_);refine on (wpAny_callSpecial?_slot (name:=Str.ofString "__getitem__") c.typeIs Wj
  (wpAny_call_entry Wj c.typeIs entry_tuple_getitem ?_ (args_tuple_getitem _ _)))
 show wpAny _ _ (Builtin.Tuple.tupleItemsOf (.ref t) >>= _) _ _ s;refine on (tupleItemsOf_ c ?_);refine on (wpAny_typeOf hTs ?_);rw[X9 (by decide)];refine on (AS hs pl k ?_);have d:¬((((sIx items.size 0 lo:Nat):Int) == 0 && (1:Int) == 1 && (sIx items.size items.size b-sIx items.size 0 lo) == items.size)=true):=by
  intro q;rw[VB,VB]at q;have o:((sIx items.size 0 lo:Nat):Int)=0:=eq_of_beq q.1.1;have p:sIx items.size items.size b-sIx items.size 0 lo=items.size:=eq_of_beq q.2;exact hw ⟨by omega,by omega⟩
 show wpAny _ _ (if (((sIx items.size 0 lo:Nat):Int) == 0 && (1:Int) == 1 && (sIx items.size items.size b-sIx items.size 0 lo) == items.size)=true then _ else _) _ _ s;rw[X8 d,KK]
 first
  | exact on (m:=Builtin.Tuple.tupleExact _) (wpAny_newObj_type (X7 ⟨_,rfl,X7 h⟩) a)
  | exact on (m:=Builtin.Tuple.tupleExact _) (wpAny_newObj_type (on (X7 (X7 ⟨_,rfl,X7 h⟩))) a)
  | exact on (on (m:=Builtin.Tuple.tupleExact _) (wpAny_newObj_type (X7 (X7 ⟨_,rfl,X7 h⟩)) a))
  | exact on (on (m:=Builtin.Tuple.tupleExact _) (wpAny_newObj_type (X7 ⟨_,rfl,X7 h⟩) a))
end
end HT
namespace L2
open PySem PySem.Spec PyProof.Rows
abbrev TO:=St->Hp->(Option Int->Hp->Prop)->Prop
def PO(X:Cx)(e:Option Expr)(t:TO):Prop :=
 ∀(a:List (Addr × Obj)) (s:fy) (σ:St) (H:Hp) (Q:Option Int->Hp->Prop),af X a σ H s->t σ H Q ->
  wpAny (model X.prog X.w) X.A (evalPart e X.env) (λu b=>∃o H',af X a σ H' b/\IsPart u o/\Q o H') X.xe s
def Al:TO:=λ_ H Q=>Q none H
def Ah(t:TE):TO:=λσ H Q=>t σ H λx a=>∃i,x=.int i/\Q (some i) a
section
variable {X:Cx}{e:Expr}{te:TE}{lo hi:Option Expr}{tl th:TO}{pos p2:Pos}
def KI:PO X none Al:=by
 intro a s σ H Q I h;rw[evalPart_none];exact X7 ⟨none,H,I,.none,h⟩
def KH(h:PE X e te):PO X (some e) (Ah te):=by
 intro a s σ H Q I hw;rw[evalPart_some];refine aB (h a s σ H _ I hw) λu s1 ζ=>?_;obtain⟨x,c,f,b,d⟩:=ζ;obtain⟨i,rfl,q⟩:=d;obtain⟨t,rfl⟩:=b;exact⟨some i,c,f,.int i t,q⟩
def jq(X:Cx)(r:V->Option Int->Option Int->Hp->VK->Prop):Prop :=
 ∀(a:List (Addr × Obj)) (s:fy) (σ:St) (H:Hp) (x:V) (v d b:Value) (lo c:Option Int) (e:Addr) (Q:VK),af X a σ H s->aR x v->s.heap.IsSliceOf e d b .none->IsPart d lo->IsPart b c->r x lo c H Q ->
  ∃T id,typeLookup (.type T) "__getitem__" = pure (some (.builtin id))/\s.TypeIs v T/\wpAny (model X.prog X.w) X.A (getItem v (.ref e)) (EP X a σ Q) X.xe s
def Ae(r:V->Option Int->Option Int->Hp->VK->Prop)(e:TE)(f b:TO):TE:=λσ H Q=>e σ H λx d=>f σ d λl a=>b σ a λu c=>r x l u c Q
def K1{r:V->Option Int->Option Int->Hp->VK->Prop}(J:jq X r)(o:PE X e te)(z:PO X lo tl)(C:PO X hi th):PE X (.Subscript e (.Slice lo hi none p2) pos) (Ae r te tl th):=by
 intro a s σ H Q I h;refine Subscript_ (aB (o a s σ H _ I h) λv s1 ζ=>?_);obtain⟨x,j,D,n,L⟩:=ζ;refine wpAny_Slice (aB (z a s1 σ j _ D L) λf m ζ=>?_);obtain⟨l,G,k,pl,N⟩:=ζ;refine aB (C a m σ G _ k N) λd c ζ=>?_;obtain⟨u,g,M,y,F⟩:=ζ;rw[evalPart_none];refine X7 ?_;have p:af X a σ g { c with heap:=c.heap.push { cls:=.type "slice",data:=.fields #[f,d,.none] } }:=M.kept (t':=c.toks) λb O q=>Vg _ q;obtain⟨T,id,hT,B,i⟩:=J a { c with heap:=c.heap.push { cls:=.type "slice",data:=.fields #[f,d,.none] } } σ g x v f d l u c.heap.objs.size Q p n (Heap.IsSliceOf.new ..) pl y F;show wpAny (model X.prog X.w) X.A (subscriptTail e (.Slice lo hi none p2) v (.ref c.heap.objs.size)) (EP X a σ Q) X.xe { c with heap:=c.heap.push { cls:=.type "slice",data:=.fields #[f,d,.none] } };exact tail_any (ops:=[.ref c.heap.objs.size,v]) B hT i (by with_unfolding_all rfl)
def dR(xs:List V)(lo a:Option Int):List V:=(xs.drop (HT.sIx xs.length 0 lo)).take (HT.sIx xs.length xs.length a-HT.sIx xs.length 0 lo)
def DW(xs:List V)(lo a:Option Int):(dR xs lo a).length<=xs.length:=by
 unfold dR;rw[Vk,VT];omega
def JE(K:W.Frag):V->Option Int->Option Int->Hp->VK->Prop:=λx lo b H Q=>∃a xs,x=.ref a/\bw K H a xs /\
 ¬(HT.sIx xs.length 0 lo=0/\HT.sIx xs.length xs.length b=xs.length)/\∀p,H p=none->Q (.ref p) (upd H p (.tup (dR xs lo b)))
def Ik:jq X (JE X.K):=by
 intro g s σ H x v m k lo d l Q I j hs pl i h;obtain⟨a,xs,rfl,hx,hw,q⟩:=h;cases j;obtain⟨e,r,f,hz⟩:=I.tuple hx;have c:e.toArray.size=xs.length:=by rw[Vl];exact r.length.symm
 refine⟨"tuple",_,Wj.lookup,f.typeIs,?_⟩;refine HT.getItem_tuple_cut f hs pl i (by rw[c];exact hw) ?_ (by rw[c];exact hz);rw[c];refine⟨.ref s.heap.objs.size,_,I.laid (t':=s.toks) (o:=.tup (dR xs lo d)) (λb n q=>Vg _ q) (Va _) ?_,Z,q _ (I.hok.fresh (Va _))⟩;exact⟨Vs (DW xs lo d) hz,_,(r.drop (HT.sIx xs.length 0 lo)).take (HT.sIx xs.length xs.length d-HT.sIx xs.length 0 lo),IsTup.new _ _⟩
end
def mL(n:Nat)(i:Int):Option Nat:=if 0<=i then (if i<n then some i.toNat else none) else if -(n:Int)<=i then some (i+n).toNat else none
def c8{α:Type}(xs:List α)(i:Int):Option α:=(mL xs.length i).bind λj=>xs[j]?
def NB{n:Nat}{i:Int}{j:Nat}(h:mL n i=some j):seqIndex? i n=some j/\j<n/\-(n:Int)<=i/\i<n:=by
 unfold mL at h;by_cases h0:0<=i
 ·rw[X9 h0]at h;by_cases h1:i<n
  ·rw[X9 h1]at h;have e:i.toNat=j:=Vy h;exact⟨by rw[seqIndex_of h0 h1,e],by omega,by omega,h1⟩
  ·rw[X8 h1]at h;cases h
 ·rw[X8 h0]at h;by_cases h1 : -(n:Int)<=i
  ·rw[X9 h1]at h;have e:(i+n).toNat=j:=Vy h;exact⟨by rw[seqIndex_neg (by omega) h1,e],by omega,h1,by omega⟩
  ·rw[X8 h1]at h;cases h
def El{α:Type}{xs:List α}{i:Int}{v:α}(h:c8 xs i=some v):∃j,seqIndex? i xs.length=some j/\xs[j]? = some v/\j<xs.length/\-(xs.length:Int)<=i/\i<xs.length:=by
 unfold c8 at h;cases e:mL xs.length i with
 | none=>rw[e]at h;cases h
 | some j =>
  rw[e]at h;obtain⟨d,b,a,c⟩:=NB e;exact⟨j,d,h,b,a,c⟩
def aA{α:Type}{xs:List α}{j:Nat}{v:α}(h:xs[j]? = some v):c8 xs (j:Int)=some v:=by
 have a:j<xs.length:=(Vh.mp h).1;have e:mL xs.length (j:Int)=some j:=by
  unfold mL;rw[X9 (by omega),X9 (by omega)];simp
 unfold c8;rw[e];exact h
def Ey(b:Expr):Prop:=∀o i,subscripted b false o i=operate [o,i] (getItem o i)
def gA(X:Cx)(r:R2):Prop :=
 ∀(value a:Expr) (b:List (Addr × Obj)) (s:fy) (σ:St) (H:Hp) (x y:V) (v u:Value) (Q:VK),af X b σ H s->aR x v->aR y u->r x y H Q ->
  subscripted a false v u=operate [v,u] (getItem v u)->wpAny (model X.prog X.w) X.A (subscriptTail value a v u) (EP X b σ Q) X.xe s
def gz(X:Cx)(id:String)(r:V->List V->Hp->VK->Prop):Prop :=
 ∀(a:List (Addr × Obj)) (s:fy) (σ:St) (H:Hp) (x:V) (xs:List V) (v:Value) (us:List Value) (Q:VK),af X a σ H s->aR x v->aJ xs us->r x xs H Q ->
  wpAny (model X.prog X.w) X.A (call (.builtin id) (v::us)) (EP X a σ Q) X.xe s
section
variable {X:Cx}{a b:Expr}{ta tb:TE}{pos:Pos}
def gA.or{r d:R2}(h:gA X r)(h':gA X d):gA X (λx y H Q=>r x y H Q\/d x y H Q):=by
 intro value a b s σ H x y v u Q I e c q hs;rcases q with q|q
 ·exact h value a b s σ H x y v u Q I e c q hs
 ·exact h' value a b s σ H x y v u Q I e c q hs
def K8{r:R2}(g:gA X r)(k:PE X a ta)(hb:PE X b tb)(hs:Ey b):PE X (.Subscript a b pos) (iI r ta tb):=by
 intro c s σ H Q I h;exact Subscript_ (xZ k hb I h λv u j x y d e i f q=>g a b c j σ d x y v u Q e i f q (hs _ _))
def JK(K:W.Frag):R2:=λx y H Q=>∃p xs i v,x=.ref p/\y=.int i/\aH K H p xs/\c8 xs i=some v/\Q v H
def JJ(K:W.Frag):R2:=λx y H Q=>∃p xs i v,x=.ref p/\y=.int i/\bw K H p xs/\c8 xs i=some v/\Q v H
def NA:gA X (JK X.K):=by
 intro value f a s σ H x y v u Q I F m h hs;obtain⟨p,xs,i,z,rfl,rfl,o,B,q⟩:=h;cases F;obtain⟨t,rfl⟩:=m;obtain⟨e,r,pl,hz⟩:=I.list o;obtain⟨j,c,C,J,l,n⟩:=El B;obtain⟨w,k,d⟩:=r.get C;have D:=r.length;have L:=qH;have b:EP X a σ Q w s:=⟨z,H,I,d,q⟩;by_cases h0:0<=i
 ·have g:i.toNat=j:=by
   rw[seqIndex_of h0 n]at c;exact Vy c
  exact item_listR pl.isList h0 (by omega) (by rw[g];simpa using k) b hs
 ·have g:(i+(e.toArray.size:Int)).toNat=j:=by
   rw[seqIndex_neg (by omega) l]at c;rw[Vl,<- D];exact Vy c
  exact subscriptTail_builtinR (x:=w) pl.isList.typeIs slot_list_getitem.lookup
   (wpAny_getItem_list_neg (Q:=λr G=>r=w/\EP X a σ Q r G) pl.isList (by omega) (by rw[Vl]<;>omega) (by omega) (by rw[g];simpa using k) ⟨rfl,b⟩) hs
def Nz:gA X (JJ X.K):=by
 intro value d a s σ H x y v u Q I n g h hs;obtain⟨p,xs,i,z,rfl,rfl,l,f,q⟩:=h;cases n;obtain⟨t,rfl⟩:=g;obtain⟨C,r,pl,hz⟩:=I.tuple l;obtain⟨j,B,k,G,D,F⟩:=El f;obtain⟨w,e,c⟩:=r.get k;have m:=r.length;have J:=qH;have b:EP X a σ Q w s:=⟨z,H,I,c,q⟩;exact subscriptTail_builtinR (x:=w) pl.typeIs slot_tuple_getitem.lookup
  (getItem_tuple (j:=j) (Q:=λr o=>r=w/\EP X a σ Q r o) pl (by omega) (by omega) (by rw[Vl,<- m];exact B) (by simpa using e) ⟨rfl,b⟩) hs
def Ii(lo a:Option Int)(n:Nat):(sliceBounds lo a none n).1=((HT.sIx n 0 lo:Nat):Int)/\(sliceBounds lo a none n).2.1=((HT.sIx n n a:Nat):Int)/\(sliceBounds lo a none n).2.2=1:=by
 refine⟨?_,?_,Z⟩
 ·cases lo with
  | none=>simp[sliceBounds,HT.sIx]
  | some i =>
   simp only [sliceBounds,HT.sIx,Xk,show (1:Int) > 0 by decide,if_true];by_cases h:i<0
   ·simp only [h,if_true]<;>omega
   ·simp only [h,if_false]<;>omega
 ·cases a with
  | none=>simp[sliceBounds,HT.sIx]
  | some i =>
   simp only [sliceBounds,HT.sIx,Xk,show (1:Int) > 0 by decide,if_true];by_cases h:i<0
   ·simp only [h,if_true]<;>omega
   ·simp only [h,if_false]<;>omega
def Ij(a:List Value)(lo b:Option Int):slicePick a.toArray lo b none=((a.drop (HT.sIx a.length 0 lo)).take (HT.sIx a.length a.length b-HT.sIx a.length 0 lo)).toArray:=by
 obtain⟨e,c,d⟩:=Ii lo b a.toArray.size;unfold slicePick;rw[e,c,d];simp only [sliceRange_one,pick_run,Vl]<;>rfl
def JF(K:W.Frag):V->Option Int->Option Int->Hp->VK->Prop:=λx lo b H Q=>∃a xs,x=.ref a/\aH K H a xs/\∀p,H p=none->Q (.ref p) (upd H p (.lst (dR xs lo b)))
def Il:jq X (JF X.K):=by
 intro f s σ H x v m k lo d l Q I i hs pl g h;obtain⟨a,xs,rfl,hx,q⟩:=h;cases i;obtain⟨j,r,e,hz⟩:=I.list hx;have c:=r.length;refine⟨"list",_,slot_list_getitem.lookup,e.isList.typeIs,?_⟩;refine wpAny_getItem_list_slice e.isList hs pl g .none (by simp) ?_ (by rw[Vl]<;>omega);rw[Ij,<- c];refine⟨.ref s.heap.objs.size,_,I.laid (t':=s.toks) (o:=.lst (dR xs lo d)) (λb n q=>Vg _ q) (Va _) ?_,Z,q _ (I.hok.fresh (Va _))⟩;exact⟨Vs (DW xs lo d) hz,_,0,(r.drop (HT.sIx xs.length 0 lo)).take (HT.sIx xs.length xs.length d-HT.sIx xs.length 0 lo),VH _ Z⟩
def fZ:V->Bool
 | .non=>true
 | .bl _=>true
 | .int _=>true
 | .str _=>true
 | _=>false
def dh:V->V->Bool
 | .non,.non=>true
 | .bl a,.bl b=>a == b
 | .bl a,.int b=>(if a then 1 else 0) == b
 | .int a,.bl b=>a == (if b then 1 else 0)
 | .int a,.int b=>a == b
 | .str a,.str b=>a == b
 | _,_=>false
def QK{A:Around}{s:fy}{y x:V}{u v:Value}(d:aR y u)(c:aR x v)(e:fZ y=true)(fx:fZ x=true):SeqAt.EqAt A s u v (dh y x):=by
 cases y with
 | non =>
  cases d;cases x with
  | non=>cases c;exact SeqAt.EqAt.same _
  | bl b=>cases c;exact SeqAt.EqAt.none_bool b
  | int b=>obtain⟨t,rfl⟩:=c;exact SeqAt.EqAt.none_int b t
  | str b=>obtain⟨t,rfl⟩:=c;exact SeqAt.EqAt.none_str b t
  | _=>exact Ya (show false=true from fx) Vn
 | bl a =>
  cases d;cases x with
  | non=>cases c;exact SeqAt.EqAt.bool_none a
  | bl b=>cases c;exact SeqAt.EqAt.bool_bool a b
  | int b=>obtain⟨t,rfl⟩:=c;exact SeqAt.EqAt.bool_int a b t
  | str b=>obtain⟨t,rfl⟩:=c;exact SeqAt.EqAt.bool_str a b t
  | _=>exact Ya (show false=true from fx) Vn
 | int a =>
  obtain⟨t',rfl⟩:=d;cases x with
  | non=>cases c;exact SeqAt.EqAt.int_none a t'
  | bl b=>cases c;exact SeqAt.EqAt.int_bool a t' b
  | int b=>obtain⟨t,rfl⟩:=c;exact SeqAt.EqAt.int_int a t' b t
  | str b=>obtain⟨t,rfl⟩:=c;exact SeqAt.EqAt.int_str a t' b t
  | _=>exact Ya (show false=true from fx) Vn
 | str a =>
  obtain⟨t',rfl⟩:=d;cases x with
  | non=>cases c;exact SeqAt.EqAt.str_none a t'
  | bl b=>cases c;exact SeqAt.EqAt.str_bool a t' b
  | int b=>obtain⟨t,rfl⟩:=c;exact SeqAt.EqAt.str_int a t' b t
  | str b=>obtain⟨t,rfl⟩:=c;exact SeqAt.EqAt.str_str a t' b t
  | _=>exact Ya (show false=true from fx) Vn
 | _=>exact Ya (show false=true from e) Vn
def eJ(x:V)(u:Value):Bool:=match u with
 | .none=>dh .non x
 | .bool b=>dh (.bl b) x
 | .int i _=>dh (.int i) x
 | .str z _=>dh (.str z) x
 | _=>false
def wN{x y:V}{u:Value}(r:aR y u)(f:fZ y=true):eJ x u=dh y x:=by
 cases y with
 | non=>cases r;rfl
 | bl b=>cases r;rfl
 | int i=>obtain⟨t,rfl⟩:=r;rfl
 | str z=>obtain⟨t,rfl⟩:=r;rfl
 | _=>exact Ya (show false=true from f) Vn
theorem o0{x:V}:∀ {xs:List V} {us:List Value},aJ xs us->xs.all fZ=true->us.any (eJ x)=xs.any λy=>dh y x
 | _,_,.nil,_=>rfl
 | y::xs,u::us,.cons r t,f=>by
  rw[List.all_cons,VB]at f;rw[Wh,Wh,wN r f.1,o0 t f.2]
theorem mG{A:Around}{s:fy}{x:V}{v:Value}(b:aR x v)(fx:fZ x=true):∀ {xs:List V} {us:List Value},aJ xs us->xs.all fZ=true->∀u∈us,SeqAt.EqAt A s u v (eJ x u)
 | _,_,.nil,_=>λu a=>by cases a
 | y::xs,u::us,.cons r t,f=>λc a=>by
  rw[List.all_cons,VB]at f;rcases Vr.mp a with rfl|a
  ·rw[wN r f.1];exact QK r b f.1 fx
  ·exact mG b fx t f.2 c a
def bG(x:V)(xs:List V):Bool:=xs.any λy=>dh y x
def Br(K:W.Frag)(neg:Bool):R2:=λx y H Q=>∃p xs,y=.ref p/\(aH K H p xs\/bw K H p xs)/\fZ x=true/\xs.all fZ=true/\Q (.bl (if neg then !bG x xs else bG x xs)) H
def LC:be X (compareOp .In) (Br X.K false):=by
 intro d s σ H x y v u Q I c e h;obtain⟨p,xs,rfl,b,fx,fs,q⟩:=h;cases e;rcases b with b|b
 ·obtain⟨a,r,pl,hz⟩:=I.list b;refine SeqAt.in_listAt (eJ x) pl.isList (λw hw=>mG c fx r fs w (by simpa using hw)) ⟨.bl _,H,I,rfl,?_⟩;rw[show a.toArray.any (eJ x)=a.any (eJ x) by simp,o0 r fs];exact q
 ·obtain⟨a,r,pl,hz⟩:=I.tuple b;refine SeqAt.in_tupleAt (eJ x) pl (λw hw=>mG c fx r fs w (by simpa using hw)) ⟨.bl _,H,I,rfl,?_⟩;rw[show a.toArray.any (eJ x)=a.any (eJ x) by simp,o0 r fs];exact q
def Lx:be X (compareOp .NotIn) (Br X.K true):=by
 intro d s σ H x y v u Q I c e h;obtain⟨p,xs,rfl,b,fx,fs,q⟩:=h;cases e;rcases b with b|b
 ·obtain⟨a,r,pl,hz⟩:=I.list b;refine SeqAt.notIn_listAt (eJ x) pl.isList (λw hw=>mG c fx r fs w (by simpa using hw)) ⟨.bl _,H,I,rfl,?_⟩;rw[show a.toArray.any (eJ x)=a.any (eJ x) by simp,o0 r fs];exact q
 ·obtain⟨a,r,pl,hz⟩:=I.tuple b;refine SeqAt.notIn_tupleAt (eJ x) pl (λw hw=>mG c fx r fs w (by simpa using hw)) ⟨.bl _,H,I,rfl,?_⟩;rw[show a.toArray.any (eJ x)=a.any (eJ x) by simp,o0 r fs];exact q
def Ro:ck X (.builtin "len") (λxs H Q=>∃p ys,xs=[.ref p]/\(aH X.K H p ys\/bw X.K H p ys)/\Q (.int ys.length) H):=by
 intro e s σ H xs us Q I r h;obtain⟨p,ys,rfl,b,q⟩:=h;obtain⟨u,rfl,f⟩:=iH r;cases f;have g:=qH;rcases b with b|b
 ·obtain⟨d,c,pl,hz⟩:=I.list b;have a:=c.length;exact Calls.call_len_list pl.isList (by simp only [Vl]<;>omega) ⟨.int ys.length,H,I.tok _,⟨s.toks+1,by rw[Vl,a]⟩,q⟩
 ·obtain⟨d,c,pl,hz⟩:=I.tuple b;have a:=c.length;exact len_tuple pl (by simp only [Vl]<;>omega) ⟨.int ys.length,H,I.tok _,⟨s.toks+1,by rw[Vl,a]⟩,q⟩
def Rn:ck X (.type "list") (λxs H Q=>∃p ys,xs=[.ref p]/\(aH X.K H p ys\/bw X.K H p ys)/\∀l,H l=none->Q (.ref l) (upd H l (.lst ys))):=by
 intro i s σ H xs us Q I r h;obtain⟨p,ys,rfl,f,q⟩:=h;obtain⟨u,rfl,k⟩:=iH r;cases k;have d:∀(a:List Value),aJ ys a->ys.length<=sizeLine->∀(h':Heap) (c':Nat),(∀b o',s.heap.get? b=some o'->h'.get? b=some o') ->
  h'.get? s.heap.objs.size=some { cls:=.type "list",dict:=none,data:=.seq a.toArray c',slots:=#[] }->EP X i σ Q (.ref s.heap.objs.size) { s with heap:=h' }:=λa c hz h' c' kp e =>
  ⟨.ref s.heap.objs.size,_,I.laid (t':=s.toks) kp (Va _) (show bK X.prog X.w _ h' _ (.lst ys) from ⟨hz,a,c',c,e⟩),rfl,q _ (I.hok.fresh (Va _))⟩
 rcases f with f|f
 ·obtain⟨a,c,pl,hz⟩:=I.list f;have g:=c.length;obtain⟨o,ho,j,n,hd⟩:=pl.isList;exact call_list_seq p (.inl rfl) ho j hd (λh' c' kp e=>d a c hz h' c' kp e) (by simp only [Vl]<;>omega)
 ·obtain⟨a,c,pl,hz⟩:=I.tuple f;have g:=c.length;obtain⟨o,ho,j,n,hd⟩:=pl;exact call_list_seq p (.inr rfl) ho j hd (λh' c' kp e=>d a c hz h' c' kp e) (by simp only [Vl]<;>omega)
def Rm:ck X (.type "tuple") (λxs H Q=>∃p ys,xs=[.ref p]/\((aH X.K H p ys/\∀l,H l=none->Q (.ref l) (upd H l (.tup ys)))\/(bw X.K H p ys/\Q (.ref p) H))):=by
 intro a s σ H xs us Q I r h;obtain⟨p,ys,rfl,h⟩:=h;obtain⟨u,rfl,j⟩:=iH r;cases j;rcases h with ⟨hq,q⟩|⟨hq,q⟩
 ·obtain⟨c,d,pl,hz⟩:=I.list hq;have f:=d.length;refine call_tuple_list pl.isList (λh' kp=>?_) (by simp only [Vl]<;>omega);have g:af X a σ H { s with heap:=h' }:=I.kept (t':=s.toks) kp;have i:af X a σ (upd H h'.objs.size (.tup ys)) { s with heap:=h'.push { cls:=.type "tuple",data:=.seq c.toArray } } :=
   g.laid (t':=s.toks) (λb o e=>Vg _ e) (Va _) (show bK X.prog X.w _ _ _ (.tup ys) from ⟨hz,c,d,IsTup.new _ _⟩)
  exact⟨.ref h'.objs.size,_,i,Z,q _ (g.hok.fresh (Va _))⟩
 ·obtain⟨c,d,pl,hz⟩:=I.tuple hq;exact call_tuple_same pl ⟨.ref p,H,I,Z,q⟩
def tz(K:W.Frag)(T:String)(x:V)(H:Hp):Prop:=match x with
 | .str _=>T = "str"
 | .int _=>T = "int"
 | .ref p=>(T = "list"/\∃xs,aH K H p xs)\/(T = "tuple"/\∃o,K.lookup p=some o/\o.cls=.type "tuple"/\o.dict=none) \/
  (T = "dict"/\((∃kvs,H p=some (.dK kvs))\/∃kvs,H p=some (.dT kvs)))\/(T = "set"/\∃S n,H p=some (.set S n))
 | _=>False
def zX{b:List (Addr × Obj)}{σ:St}{H:Hp}{s:fy}{T:String}{x:V}{v:Value}(I:af X b σ H s)(r:aR x v)(ty:tz X.K T x H) :
 s.TypeIs v T/\∀a,v=.ref a->∃ob,s.heap.get? a=some ob/\ob.dict=none:=by
 cases x with
 | str z =>
  obtain⟨t,rfl⟩:=r;cases (show T = "str" from ty);exact⟨typeIs_str s z t,λ_ e=>nomatch e⟩
 | int i =>
  obtain⟨t,rfl⟩:=r;cases (show T = "int" from ty);exact⟨typeIs_int s i t,λ_ e=>nomatch e⟩
 | ref p =>
  cases r;rcases ty with ⟨rfl,xs,hq⟩|⟨rfl,o,hk,hc,hd⟩|⟨rfl,hk⟩|⟨rfl,S,n,hk⟩
  ·obtain⟨f,_,pl,_⟩:=I.list hq;refine⟨pl.isList.typeIs,λa e=>?_⟩;cases e;obtain⟨o,n,e,c,hd,_⟩:=pl;exact⟨o,e,hd⟩
  ·refine⟨⟨o,I.kIn p o hk,hc⟩,λa e=>?_⟩;cases e;exact⟨o,I.kIn _ o hk,hd⟩
  ·have z:∃o,s.heap.get? p=some o/\o.ExactDict:=by
    rcases hk with ⟨kvs,hk⟩|⟨kvs,hk⟩
    ·obtain⟨_,_,_,_,o,_,_,e,ex,_⟩:=I.hok p _ hk;exact⟨o,e,ex⟩
    ·obtain⟨_,_,_,_,o,_,_,e,ex,_⟩:=I.hok p _ hk;exact⟨o,e,ex⟩
   obtain⟨o,e,ex⟩:=z;refine⟨⟨o,e,ex.1⟩,λa d=>?_⟩;cases d;exact⟨o,e,ex.2.1⟩
  ·obtain⟨o,_,_,_,e,ex,_⟩:=I.hok p _ hk;refine⟨⟨o,e,ex.1⟩,λa d=>?_⟩;cases d;exact⟨o,e,ex.2.1⟩
 | _=>exact False.elim ty
def tG(K:W.Frag)(T:String)(r:V->List V->Hp->VK->Prop)(b:TE):TE:=λσ H Q=>b σ H λx a=>tz K T x a/\r x [] a Q
def tH(K:W.Frag)(T:String)(r:V->List V->Hp->VK->Prop)(c:TE)(t:TA):TE:=λσ H Q=>c σ H λx a=>tz K T x a/\t σ a λxs b=>r x xs b Q
variable {o e:Expr}{es:List Expr}{to:TE}{t:TA}{name:Str}{apos cpos:Pos}{T id:String}{r:V->List V->Hp->VK->Prop}
def Ll (l:PlainAttrs T) (slot:Slot T name id) (d:typeOf (.builtin id)=pure (.type "method_descriptor")) (k:gz X id r) (ho:PE X o to)
 (b:attributeBase o name X.env (eval o X.env)=eval o X.env:=by rfl) (c:(apos.endLine == cpos.line)=true:=by rfl):PE X (.Call (.Attribute o name apos) [] [] cpos) (tG X.K T r to):=by
 intro a s σ H Q I h;refine wpAny_Call_method0_late b c (aB (ho a s σ H _ I h) λv s1 ζ=>?_);obtain⟨x,g,f,e,ty,i⟩:=ζ;obtain⟨m,j⟩:=zX f e ty;exact⟨T,id,l,slot,d,m,j,Calls.callWith_builtin Z (PySem.evalArgs_none (k a s1 σ g x [] v [] Q f e .nil i))⟩
def Lm (y:PlainAttrs T) (slot:Slot T name id) (g:typeOf (.builtin id)=pure (.type "method_descriptor")) (n:gz X id r) (ho:PE X o to) (z:PA X (e::es) t)
 (d:attributeBase o name X.env (eval o X.env)=eval o X.env:=by rfl)
 (f:((backTo cpos (starEach (e::es) X.env)).all (λx=>!x.1) && (backToKw cpos (keywordEach [] X.env)).all (λx=>x.1.isSome)
   && decide ((e::es).length+([]:List Keyword).length+(if ([]:List Keyword).isEmpty then 0 else 1)<30))=true:=by rfl)
 (c:(apos.endLine == cpos.line)=true:=by rfl) (hs:starEach (e::es) X.env=(false,eval e X.env)::starEach es X.env:=by rfl) (b:(backTo cpos (starEach es X.env)).any (·.1)=false:=by rfl) :
 PE X (.Call (.Attribute o name apos) (e::es) [] cpos) (tH X.K T r to t):=by
 intro a s σ H Q I h;refine wpAny_Call_method_late d f c Z (aB (ho a s σ H _ I h) λv s1 ζ=>?_);obtain⟨x,l,j,i,ty,C⟩:=ζ;obtain⟨u,q⟩:=zX j i ty;refine⟨T,id,y,slot,g,u,q,?_⟩;have hA:=z cpos a s1 σ l _ j C;rw[hs]at hA ⊢;refine Calls.callWith_builtin (by show (false || (backTo cpos (starEach es X.env)).any (·.1))=false;rw[b]<;>rfl) (Calls.evalArgs_plain ?_);refine aB hA λus m ζ=>?_;obtain⟨vs,B,k,p,D⟩:=ζ;exact n a m σ B x vs v us Q k i p D
end
def sT(X:Cx)(id:String)(r:V->List V->Hp->VK->Prop):Prop :=
 ∀(a:List (Addr × Obj)) (s:fy) (σ:St) (H:Hp) (x:V) (xs:List V) (v:Value) (us:List Value) (Q:VK),af X a σ H s->aR x v->aJ xs us->r x xs H Q ->
  wpAny (model X.prog X.w) X.A (call (.builtin id) (v::us)) (EP X a σ Q) X.xe s
theorem aJ.one:∀ {x:V} {us:List Value},aJ [x] us->∃u,us=[u]/\aR x u
 | _,_,.cons r .nil=>⟨_,rfl,r⟩
theorem aJ.zero:∀ {us:List Value},aJ [] us->us=[]
 | _,.nil=>rfl
def aJ.reverse{xs:List V}{us:List Value}(h:aJ xs us):aJ xs.reverse us.reverse:=by
 induction h with
 | nil=>exact .nil
 | cons r t ih=>rw[List.reverse_cons,List.reverse_cons];exact aJ.append ih (.cons r .nil)
theorem aJ.rep{xs:List V}{us:List Value}(h:aJ xs us):∀k:Nat,aJ (List.replicate k xs).flatten (List.replicate k us).flatten
 | 0=>.nil
 | k+1=>by
  rw[Wk,Wk,WB,WB];exact aJ.append h (aJ.rep h k)
theorem DH(b:List Value):∀(k:Nat) (a:List Value),
 List.foldl (λd c=>d++c) a.toArray (List.replicate k b.toArray)=(a++(List.replicate k b).flatten).toArray
 | 0,a=>by simp
 | k+1,a=>by
  have e:a.toArray++b.toArray=(a++b).toArray:=by simp
  have f:(a++b)++(List.replicate k b).flatten=a++(List.replicate (k+1) b).flatten:=by
   rw[Wk,WB,VF]
  rw[<- f,<- DH b k (a++b),<- e,Wk,Wm]
section
variable {X:Cx}{pins:List (Addr × Obj)}{σ:St}{H:Hp}{s:fy}{l b:Addr}{xs ys zs:List V}
def af.lset{a its':List Value}{n:Nat}{f:Array Value->Array Value}{t':Nat}(I:af X pins σ H s)(hH:H l=some (.lst xs))
 (e:s.heap.get? l=some { cls:=.type "list",data:=.seq a.toArray n }) (hf:f a.toArray=its'.toArray) (c:aJ ys its') (hz:ys.length<=sizeLine) :
 af X pins σ (upd H l (.lst ys)) { s with heap:=s.heap.update l (Obj.mapSeq f),toks:=t' }:=by
 have q:=PySem.IsL.update e f;rw[hf]at q;refine I.write (x:=l) (e:=l) (by rw[hH];exact trivial) (.inl Z) (λb' u hb b=>(Wa s.heap (Obj.mapSeq f) (Ne.symm hb)).trans b) ⟨_,q⟩ ?_;exact⟨hz,its',_,c,q⟩
def af.lnew{a:List Value}{t':Nat}(I:af X pins σ H s)(b:aJ ys a)(hz:ys.length<=sizeLine) :
 af X pins σ (upd H s.heap.objs.size (.lst ys)) { s with heap:=s.heap.push { cls:=.type "list",data:=.seq a.toArray },toks:=t' } :=
 I.laid (λ_ _ q=>Vg _ q) (Va _) ⟨hz,a,0,b,VH _ rfl⟩
def af.fresh(I:af X pins σ H s):H s.heap.objs.size=none:=I.hok.fresh (Va _)
def af.lstM(I:af X pins σ H s)(hH:H l=some (.lst xs)):xs.length<=sizeLine/\∃(a:List Value) (n:Nat),aJ xs a/\xs.length=a.length/\s.heap.get? l=some { cls:=.type "list",data:=.seq a.toArray n }:=by
 obtain⟨z,a,n,r,e⟩:=I.hok l _ hH;exact⟨z,a,n,r,r.length,e⟩
def qv{n:Nat}(h:n<=sizeLine):Builtin.List.listTooLong n=false:=by
 unfold Builtin.List.listTooLong;exact Yd (by omega)
end
section
variable {X:Cx}
def JO:V->List V->Hp->VK->Prop:=λx vs H Q=>∃l xs y,x=.ref l/\vs=[y]/\H l=some (.lst xs)/\xs.length<sizeLine/\Q .non (upd H l (.lst (xs++[y])))
def Mc:sT X "list.append" JO:=by
 intro b s σ H x vs v us Q I d f h;obtain⟨l,xs,y,rfl,rfl,hH,hz,q⟩:=h;cases d;obtain⟨u,rfl,c⟩:=f.one;obtain⟨z,a,n,r,g,e⟩:=I.lstM hH;refine call_meets F.slot_list_append ⟨_,e,rfl⟩ F.entry_list_append (F.args_list_append_2 _ _) (PySem.list_append l a.toArray n u (by rw[Vl];omega)) ⟨e,?_⟩;refine⟨.non,_,I.lset (its':=a++[u]) hH e (by simp) (r.append (.cons c .nil)) ?_,rfl,q⟩;rw[Vc,List.length_singleton];omega
def JL:V->List V->Hp->VK->Prop:=λx vs H Q=>∃l b xs zs,x=.ref l/\vs=[.ref b]/\H l=some (.lst xs)/\H b=some (.lst zs)/\xs.length+zs.length<=sizeLine/\Q .non (upd H l (.lst (xs++zs)))
def L8:sT X "list.extend" JL:=by
 intro f s σ H x vs v us Q I j o h;obtain⟨l,b,xs,zs,rfl,rfl,hH,hB,hz,q⟩:=h;cases j;obtain⟨u,rfl,g⟩:=o.one;cases g;obtain⟨z,c,n,r,y,e⟩:=I.lstM hH;obtain⟨z2,a,p,k,m,i⟩:=I.lstM hB;have hsz:c.toArray.size+a.toArray.size<=sizeLine:=by rw[Vl,Vl];omega
 have d:¬(!c.toArray.isEmpty && Builtin.List.listTooLong (c.toArray.size+a.toArray.size))=true:=by
  rw[qv hsz,Xl];exact Vn
 refine call_meets F.slot_list_extend ⟨_,e,Z⟩ F.entry_list_extend (F.args_list_extend_2 _ _)
  (AutoSeq1.list_extend_list_list_0 l c.toArray n b a.toArray p d (by rw[Vl];omega) (by omega)) ⟨e,i,?_⟩
 refine⟨.non,_,I.lset (its':=c++a) hH e (by simp) (r.append k) ?_,rfl,q⟩;rw[Vc];omega
def JG:V->List V->Hp->VK->Prop:=λx vs H Q=>∃l xs,x=.ref l/\vs=[]/\H l=some (.lst xs)/\Q .non (upd H l (.lst xs.reverse))
def L7:sT X "list.reverse" JG:=by
 intro c s σ H x vs v us Q I d f h;obtain⟨l,xs,rfl,rfl,hH,q⟩:=h;cases d;have b:=f.zero;subst b;obtain⟨z,a,n,r,g,e⟩:=I.lstM hH;refine call_meets F.slot_list_reverse ⟨_,e,rfl⟩ F.entry_list_reverse (F.args_list_reverse_1 _) (AutoSeq1.list_reverse_list_0 l a.toArray n (by rw[Vl];omega)) ⟨e,?_⟩;refine⟨.non,_,I.lset (its':=a.reverse) hH e (by simp) r.reverse ?_,rfl,q⟩;rw[XJ];omega
def JN:V->List V->Hp->VK->Prop:=λx vs H Q=>∃l xs,x=.ref l/\vs=[]/\H l=some (.lst xs)/\Q .non (upd H l (.lst []))
def Ma:sT X "list.clear" JN:=by
 intro c s σ H x vs v us Q I d f h;obtain⟨l,xs,rfl,rfl,hH,q⟩:=h;cases d;have a:=f.zero;subst a;obtain⟨z,b,n,r,g,e⟩:=I.lstM hH;refine call_meets F.slot_list_clear ⟨_,e,rfl⟩ F.entry_list_clear (F.args_list_clear_1 _) (AutoSeq1.list_clear_list_0 l b.toArray n (by rw[Vl];omega)) ⟨e,?_⟩;exact⟨.non,_,I.lset (its':=[]) (ys:=[]) hH e Z .nil (Vq _),Z,q⟩
def JH:R2:=λx y H Q=>∃l k xs,x=.ref l/\y=.int k/\H l=some (.lst xs)/\-(2 ^ 63)<=k/\k<2 ^ 63/\xs.length*k.toNat<=sizeLine /\
 ∀p,H p=none->Q (.ref p) (upd H p (.lst (List.replicate k.toNat xs).flatten))
def Nk{α:Type}(xs:List α)(k:Nat):(List.replicate k xs).flatten.length=k*xs.length:=by
 induction k with
 | zero=>simp
 | succ k ih=>rw[Wk,WB,Vc,ih,Nat.succ_mul,Nat.add_comm]
def Ls:be X (binaryOp .Mult) JH:=by
 intro p s σ H x y v u Q I G B h;obtain⟨l,k,xs,rfl,rfl,hH,L,C,hz,q⟩:=h;cases G;obtain⟨t,rfl⟩:=B;obtain⟨z,b,n,r,D,e⟩:=I.lstM hH;have g:b.toArray.size*k.toNat<=sizeLine:=by rw[Vl,<- D];exact hz
 have i:¬b.toArray.size*k.toNat > (2 ^ 63-1)/8:=by
  have:(sizeLine:Nat)<=(2 ^ 63-1)/8:=by decide
  omega
 have f:¬(!Builtin.List.listFitsIndex k)=true:=by
  rw[fitsIndex_both L C];exact Vn
 have c:¬Builtin.List.listTooLong (b.toArray.size*k.toNat)=true:=by
  rw[qv g];exact Vn
 have d:List.foldl (λo j=>o++j) #[] (List.replicate (if b.toArray.isEmpty=true then 0 else k.toNat) b.toArray)=(List.replicate k.toNat b).flatten.toArray:=by
  have M:∀m:Nat,List.foldl (λo j=>o++j) #[] (List.replicate m b.toArray)=(List.replicate m b).flatten.toArray:=λm=>by
   have:=DH b m [];rw[Xm]at this;exact this
  rw[M];cases b with
  | nil=>simp
  | cons a r'=>rw[X8 (by simp)]
 refine wpAny_binaryOp_repeat_ref (T := "list") (U := "int") (by decide) ⟨_,e,rfl⟩ (λJ=>typeIs_int J k t) noFill_list_mul F.fills_int_mul F.slot_int_rmul repeat_list F.slot_int_index.lookup
  (call_meets F.slot_int_rmul (typeIs_int s k t) F.entry_int_rmul (F.args_int_rmul_2 _ _) (int___rmul___int_list k t l b.toArray n)
    ⟨e,rfl,⟨_,e,rfl⟩,call_meets F.slot_list_mul ⟨_,e,rfl⟩ F.entry_list_mul (F.args_list_mul_2 _ _) (AutoListH.list___mul___list_int_3 l b.toArray n k t f i c) ⟨e,?_⟩⟩)
 rw[d];exact⟨.ref _,_,I.lnew (t':=s.toks) (r.rep k.toNat) (by rw[Nk,Nat.mul_comm];exact hz),Z,q _ I.fresh⟩
end
section
variable {prog:Program}{w:World}{A:Around}{E:Value->fy->Prop}{s:fy}
def R0{a c n:Nat}(e:a<=c)(f:c<=n):sliceBounds (some (a:Int)) (some (c:Int)) none n=((a:Int),(c:Int),1):=by
 simp only [sliceBounds,Xk];have d:¬((a:Int)<0):=by omega
 have b:¬((c:Int)<0):=by omega
 simp only [d,b,if_false,show (1:Int) > 0 by decide,if_true]
 congr 1
 ·omega
 ·congr 1;omega
set_option maxRecDepth 100000 in
def UC{l b k:Addr}{items new:Array Value}{n D:Nat}{q o:Value}{a c:Nat}{Q:Unit->fy->Prop}
 (e:s.heap.get? l=some { cls:=.type "list",data:=.seq items n }) (z:s.heap.get? b=some { cls:=.type "list",data:=.seq new D }) (r:l≠b)
 (hs:s.heap.IsSliceOf k q o .none) (pl:IsPart q (some (a:Int))) (B:IsPart o (some (c:Int))) (v:a<=c) (C:c<=items.size)
 (hsz:items.size+new.size<=sizeLine) (h:Q () { s with heap:=s.heap.update l (Obj.mapSeq λxs=>xs.extract 0 a++new++xs.extract c xs.size) }) :
 wpAny (model prog w) A (setItem (.ref l) (.ref k) (.ref b)) Q E s:=by
 have u:s.heap.IsList l items:=PySem.IsL.isList e;have hb:s.heap.IsList b new:=PySem.IsL.isList z;obtain⟨os,f,y,i⟩:=id hs;have hTs:s.TypeIs (.ref k) "slice":=⟨os,f,y⟩;have g:¬((rawPart none == rawInt 0)=true):=Vn;have d:Builtin.List.listSameRef (.ref l) (.ref b)=false:=by
  unfold Builtin.List.listSameRef;exact beq_eq_false_iff_ne.mpr r
 have j:(max (a:Int) (c:Int)).toNat=c:=by omega
 have p:((λxs:Array Value=>xs.extract 0 a++new++xs.extract c xs.size) items).size<=sizeLine+1:=by
  simp only [Array.size_append,Xn];omega
 unfold setItem
 try with_reducible refine wpAny_holding ?_
 first|refine on (X7 ?_)|skip
 refine on (wpAny_sequenceKey u.typeIs (by decide) ?_);refine on (wpAny_callSpecial?_slot (name:=Str.ofString "__setitem__") u.typeIs slot_list_setitem
  (wpAny_call_entry slot_list_setitem u.typeIs entry_list_setitem ?_ (args_list_setitem _ _ _)))
 show wpAny _ _ (Builtin.List.listSubscript? (.ref k) >>= _) _ _ s;refine on ?_;unfold Builtin.List.listSubscript?;refine on (wpAny_specialOf hTs slice_no_index ?_);simp only [Option.isNone_none,if_true];refine X7 ?_;show wpAny _ _ (typeOf (.ref k) >>= _) _ _ s;refine on (wpAny_typeOf hTs ?_)
 first
  | rw[X8 (by decide)]
  | refine W.KFB.if_not (by decide) ?_
 rw[listSliceParts_eq];refine on (on (wpAny_field f i (x:=.none) Z (on (wpAny_listPart .none ?_))));rw[X8 g];refine on (wpAny_field f i (x:=q) Z (on (wpAny_listPart pl ?_)));refine on (wpAny_field f i (x:=o) Z (on (wpAny_listPart B (X7 ?_))))
 first
  | simp only [d,VU,if_false]
  | refine W.KFB.if_not d ?_
  | (dsimp only
     rw[X8 (by rw[d];exact Vn)])
 refine on (m:=Builtin.List.listAllItems (.ref b) "must assign iterable to extended slice") ?_;unfold Builtin.List.listAllItems;refine on (wpAny_typeOf hb.typeIs ?_)
 first
  | refine W.KFB.if_so (by decide) ?_
  | rw[X9 (by decide)]
  | simp only [beq_self_eq_true,Bool.true_or,if_true]
 unfold Builtin.List.listItems;refine on (wpAny_seqItems z Z (X7 ?_));refine on (on (wpAny_seqItems e Z (X7 ?_)));refine on (wpAny_of_eq ((sliceIndices_raw (some (a:Int)) (some (c:Int)) none items.size (by simp)).trans (congrArg (pure:Int × Int × Int->Sem (Int × Int × Int)) (R0 v C))) ?_);show wpAny _ _ (if ((1:Int) == 1)=true then _ else _) _ _ s;rw[X9 (by decide)];refine on (wpAny_rule ?_)
 first
  | simp only [qv hsz,VU,if_false]
  | refine W.KFB.if_not (qv hsz) ?_
 first|refine on (X7 ?_)|skip
 show wpAny _ _ (updateSeq l (λxs=>xs.extract 0 ((a:Int)).toNat++new++xs.extract (max (a:Int) (c:Int)).toNat xs.size) >>= _) _ _ s;rw[j,WZ];refine on (wpAny_updateSeq (hz:=Vs (Nat.le_add_right _ _) hsz) (_hz':=p) e Z ?_);refine on (wpAny_letGo ?_)
 first
  | exact on (X7 (X7 ⟨.none,rfl,X7 h⟩))
  | exact X7 ⟨.none,rfl,X7 h⟩
end
end L2
namespace Att
open PySem PySem.W PySem.Calls PyProof.Rows
def NJ{P:Params}{h:Heap}:∀(ns:e7) (vs:List Value),WellAll P h vs (ns.map WData.int)->IntsAre vs ns:=by
 intro ns
 induction ns with
 | nil =>
  intro vs w;rw[WX]at w;cases w;exact .nil
 | cons n ns ih =>
  intro vs w;rw[VM]at w;cases w with
  | cons a b =>
   cases a;exact .cons _ _ (ih _ b)
def Iy{l:OpenLaw}{n:Nat}(p:l.most=some n){P:Params}{h:Heap}{args:List WData}{vals:List Value}
 (b:l.row.toRowW.claim.pre args=true) (i:WellAll P h vals args) :
 ∃a vs ns,vals=[Value.ref a]/\args=[WData.list (ns.map WData.int)]/\h.get? a=some { cls:=.type "list",data:=.seq vs.toArray }/\IntsAre vs ns/\ns.length<=n:=by
 have g:WShape.hasAll [] args [.list .int]=true:=(pre_splitW b).1;have j:l.pre.holds [] { args:=args }=true:=(pre_splitW b).2;obtain⟨d,r,rfl,s,k⟩:=hasAllW_cons g;obtain rfl:=hasAllW_nil k;obtain⟨xs,rfl,o⟩:=hasW_list s;obtain⟨ns,rfl⟩:=items_int o;have c:ns.length<=n:=by
  unfold OpenLaw.pre at j;have e:(WTm.not (.lt (.lit (.int (n:Int))) (.len (.arg 0)))).holds [] { args:=[.list (ns.map .int)] }=true:=by
   have e:=(holds_andW j).1;rw[p]at e;exact e
  have f:=condW_of e (w_not (w_lt w_lit (w_len_list (w_arg rfl))));rw[U9]at f;refine Nat.le_of_not_lt λq=>?_;have m:(n:Int)<((ns.length:Nat):Int):=by omega
  first
   | (rw[Yc m]at f;exact Ya f (by decide))
   | (simp at f;omega)
 cases i with
 | cons w1 w2 =>
  cases w2;cases w1 with
  | list ho hall=>exact⟨_,_,ns,rfl,rfl,ho,NJ ns _ hall,c⟩
def KG(l:OpenLaw)(args:List WData):l.row.toRowW.claim.post args (.bool true) args=true :=
 postW_of (r:=l.row.toRowW) (X:=(true == true))
  (show WShape.has [] (.bool true) .bool=true by first|rfl|decide|simp[WShape.has,WShape.arms,WShape.armsAll])
  (show (WTm.eq .res (.lit (.bool true))).value [] { args:=args,res:=some (.bool true),after:=args }=some (.bool (true == true)) from w_eq_bool (w_res rfl) w_lit) rfl
def attach_call{l:OpenLaw}{n:Nat}{q:Program}{c:List Str}{B:(Str->Option Value)->Heap->Prop}{C:World->Heap->Prop}{d:DefRec}
 (S:l.most=some n) (v:d.params.defaults=[])
 (call:∀(w:World) (s₀ b:fy) (mg y:Str->Option Value) (k:Addr) (o:Obj) (x m g:Value) (a:Addr) (vs:List Value) (ns:e7),
   Ground q c [] B w s₀ mg y b.heap->C w b.heap ->
   b.heap.get? k=some o->o.data=.func (docDef d.name d.params d.body d.scope x m g)->b.heap.CodeRec m d.name->mg d.name=some (.ref k) ->
   b.heap.get? a=some { cls:=.type "list",data:=.seq vs.toArray }->IntsAre vs ns->ns.length<=n->b.gens = #[] ->
   codeAny (model l.prog w) callerA (.call (.ref k) ⟨[.ref a],[]⟩) (λr p=>r=.ok (.ret (.bool true))/\OldK b.heap p.heap/\p.os=b.os/\AllBare p.gens) b) :
 WalkO q c B C l.row.toRowW d [] (λf vs=>PySem.call f vs):=by
 intro w s₀ b mg y G Y k o x m g dV kV ho hd s hD u F args vals as i D J z N;obtain rfl:dV=.none:=Dflts.none hD v;obtain rfl:kV=.none:=Dflts.noKw hD;obtain⟨a,vs,ns,rfl,rfl,h,e,j⟩:=Iy S i z;refine enter_call (codeAny_mono (call w s₀ b mg y k o x m g a vs ns G Y ho (fd_plain hd) s u h e j F) λr p M=>?_);obtain⟨rfl,O,R,I⟩:=M;exact⟨.inl ⟨.bool true,.bool true,[],rfl,λ_=>rfl,.bool true,KG l _,λ_=>⟨List.Pairwise.nil,λ_ L=>(nomatch L)⟩⟩,O,R,I⟩
end Att
namespace L2
open PySem PySem.Spec PyProof.Rows
theorem zP:∀ {vs:List Value} {ns:e7},IntsAre vs ns->aJ (ns.map V.int) vs
 | _,_,.nil=>.nil
 | _,_,.cons n t h=>.cons ⟨t,rfl⟩ (zP h)
def zo(H:Hp):Prop:=∀b,H b=none\/∃o xs,H b=some (.frz o (.lst xs))
def Np{P:Program}{w:World}{K:W.Frag}{mg J:Str->Option Value}{CX:gQ}{k:Nat}{M a:Addr}{O:FuncData}{x:Str}{sp:Sp}{c:fy}{vs:List Value}{ns:e7}
 (Y:K.In c.heap) (l:c.heap.Ns mainGlobals mg) (hb:c.heap.Ns builtinsNs J) (L:∀x:Str,x ≠ "__name__"->J x=bootBuiltins x) (p:c.heap.NoLimit) (hg:c.gens = #[])
 (D:c.heap.get? a=some { cls:=.type "list",data:=.seq vs.toArray }) (N:IntsAre vs ns) (U:ns.length<=sizeLine) (hr:bV k callerA)
 (F:∀base:Heap,K.In base->base.Ns mainGlobals mg->bN P w K mg base CX k M O [x] sp) (j:∀(s:fy) (u:Value),BindsTo s O ⟨[u],[]⟩ [(x,u)])
 (I:∀H:Hp,zo H->aH K H a (ns.map V.int)->sp [.ref a] H (λv _=>v=.bl true) λ_ _ _=>False)
 (hCX:∀H e g,CX [] H c (λ_ _ _=>False) e g->False) :
 codeAny (model P w) callerA (.call (.ref M) ⟨[.ref a],[]⟩) (λr g=>r=.ok (.ret (.bool true))/\OldK c.heap g.heap/\g.os=c.os/\AllBare g.gens) c:=by
 have R:=zP N;have lenV:=N.length;have i:∀H:Hp,zo H->aH K H a (ns.map V.int)->bM P w H c.heap->(∀b,H b≠none->b=a)->(H a≠none->K.lookup a=none) ->
  codeAny (model P w) callerA (.call (.ref M) ⟨[.ref a],[]⟩) (λr g=>r=.ok (.ret (.bool true))/\OldK c.heap g.heap/\g.os=c.os/\AllBare g.gens) c:=by
  intro H hO hS hok hA hK;have f:∀ {b:Addr} {o:Obj},c.heap.get? b=some o->H b=none->(iR c.heap H).get? b=some o:=λe n=>N0 e n;have noA:∀ {b:Addr} {o:Obj} {es:Array DictEntry} {C:Nat},c.heap.get? b=some o->o.data=.dict es C->H b=none:=λ{b o es C} e d=>by
   cases q:H b with
   | none=>rfl
   | some u =>
    have G:b=a:=hA b (by rw[q];simp);subst G;rw[D]at e;cases e;have d':Data.seq vs.toArray _=Data.dict es C:=d;cases d'
  have nsK:∀ {b:Addr} {m:Str->Option Value},c.heap.Ns b m->(iR c.heap H).Ns b m:=λ{b m} ⟨o,es,C,e,d,r⟩=>⟨o,es,C,f e (noA e d),d,r⟩;have hKb:K.In (iR c.heap H):=λb o e=>f (Y b o e) (by
   cases q:H b with
   | none=>rfl
   | some u =>
    have G:b=a:=hA b (by rw[q];simp);subst G;rw[hK (by rw[q];simp)]at e;cases e)
  have hM:Mod K mg (iR c.heap H):=⟨hKb,nsK l,⟨J,nsK hb,L⟩,let ⟨mc,h1,h2⟩:=p;⟨mc,nsK h1,h2⟩⟩;have e0:ju P w K mg (iR c.heap H) callerA [] c H:=⟨rfl,hM,λb o e=>LX e,Wv (NZ _ _),trivial,λb hb=>Ya (show b∈([]:List Addr) from hb) (by simp),hok,.of_eq hg⟩;refine codeAny_mono ((F _ hKb (nsK l)).run callerA [] c H ⟨[.ref a],[]⟩ [.ref a] [.ref a] _ _ hr e0 (j c (.ref a)) (.cons Z .nil) (I H hO hS)) λr g h=>?_;cases r with
  | error e=>exact (hCX H e g h).elim
  | ok fl =>
   cases fl with
   | next=>exact False.elim h
   | brk=>exact False.elim h
   | cont=>exact False.elim h
   | ret u =>
    obtain⟨v,H',os,bare,un,B,r',q⟩:=h;have q':v=.bl true:=q;subst q';obtain rfl:u=Value.bool true:=r';refine⟨rfl,OldK.of_keep λb o e=>?_,os,bare⟩;cases q:H b with
    | none=>exact un.keep b o e q (by intro z;exact Ya (show b∈([]:List Addr) from z) (by simp)) (by simp)
    | some u =>
     rcases hO b with z|⟨ob,xs,z⟩
     ·rw[q]at z;cases z
     ·have z2:=un.frzs b ob _ z;obtain⟨S,_⟩:=hok b _ z;obtain⟨e2,_⟩:=B b _ z2;rw[e]at S;cases S;exact e2
 cases hk:K.lookup a with
 | some o =>
  have e:=Y a o hk;rw[D]at e;cases e;refine i (λ_=>none) (λ_=>.inl rfl) (.inr ⟨_,vs.toArray,_,hk,rfl,rfl,rfl,by rw[Vl,lenV];exact U,by simpa using R⟩) (λb u z=>by have y:(none:Option HO)=some u:=z;cases y) (λb z=>Ya rfl z) λz=>Ya rfl z
 | none =>
  refine i (λb=>if b=a then some (.frz { cls:=.type "list",data:=.seq vs.toArray } (.lst (ns.map V.int))) else none) (λb=>?_) (.inl (.inr ⟨{ cls:=.type "list",data:=.seq vs.toArray },X9 Z⟩)) (λb u z=>?_) (λb z=>?_) λ_=>hk
  ·by_cases hb:b=a
   ·exact .inr ⟨_,_,X9 hb⟩
   ·exact .inl (X8 hb)
  ·by_cases hb:b=a
   ·have y:=(X9 hb).symm.trans z;cases y;subst hb;exact⟨D,by rw[U9];exact U,vs,_,R,D⟩
   ·have y:=(X8 hb).symm.trans z;cases y
  ·by_cases hb:b=a
   ·exact hb
   ·exact Ya (X8 hb) z
abbrev KOf{K:W.Frag}{h:Heap}(_:K.In h):W.Frag:=K
def walk_of{l:W.OpenLaw}{n k:Nat}{q:Program}{j:List Str}{O:(Str->Option Value)->Heap->Prop}{I:World->Heap->Prop}{d:DefRec}{K:Params->W.Frag}{CX:World->gQ}{sp:World->Sp}{x:Str}
 (U:l.most=some n) (D:n<=sizeLine) (z:d.params.defaults=[]) (S:bV k callerA)
 (hY:∀(w:World) (h:Heap),I w h->(K w.params).In h)
 (F:∀(w:World) (mg:Str->Option Value) (p:Addr) (h:Heap),(K w.params).In h->h.Ns mainGlobals mg->mg d.name=some (.ref p) ->
   ∃r:FuncData,(∀(s:fy) (u:Value),BindsTo s r ⟨[u],[]⟩ [(x,u)]) /\
    ∀base:Heap,(K w.params).In base->base.Ns mainGlobals mg->bN l.prog w (K w.params) mg base (CX w) k p r [x] (sp w))
 (B:∀(w:World) (H:Hp) (a:Addr) (ns:e7),ns.length<=n->zo H->aH (K w.params) H a (ns.map V.int)->sp w [.ref a] H (λv _=>v=.bl true) λ_ _ _=>False)
 (hCX:∀(w:World) (H:Hp) (s:fy) (e:Value) (C:fy),CX w [] H s (λ_ _ _=>False) e C->False) :
 W.WalkO q j O I l.row.toRowW d [] (λf vs=>PySem.call f vs):=by
 refine Att.attach_call U z λw s₀ N mg mb p o pm cd R a vs ns G Y ho hd L y m i c M=>?_;have J:=hY w _ Y;obtain⟨r,hb,hF⟩:=F w mg p _ J G.T.g y;exact Np J G.T.g G.T.b G.T.builtins G.T.nolimit M m i (Vs c D) S hF hb (λH hO hS=>B w H a ns c hO hS) λH e C=>hCX w H N e C
end L2
namespace L2
open PySem PySem.Spec PyProof.Rows
def bX(s:Stmt)(j:Nat):Stmt:=match s with
 | .ClassDef _ _ _ body _ _ _ _ _ _ _=>body.getD j (.Pass ⟨0,0,0,0⟩)
 | _=>.Pass ⟨0,0,0,0⟩
def aK(s:Stmt):Arguments:=match s with
 | .FunctionDef _ a _ _ _ _ _ _ _ _=>a
 | _=>{ posonlyargs:=[],args:=[],vararg:=none,kwonlyargs:=[],kw_defaults:=[],kwarg:=none,defaults:=[] }
def aI(s:Stmt):List Stmt:=match s with
 | .FunctionDef _ _ b _ _ _ _ _ _ _=>b
 | _=>[]
def am(s:Stmt):Scope:=match s with
 | .FunctionDef _ _ _ _ _ _ sc _ _ _=>sc
 | _=>{ kind:=.function,names:=[],isGenerator:=false,isCoroutine:=false }
abbrev cn:gQ:=λ_ _ _ _ _ _=>False
abbrev E0:XK:=λ_ _ _=>False
def Lo{X:Cx}:jr cn X E0:=λ_ _ _ _ _ _ _ h=>h.elim
structure aT (K:W.Frag) (x qual:Str) (st:Stmt) (f:Addr) (fd:FuncData):Prop where
 ex:∃(oc:Value) (od:Option Addr) (kV doc pm:Value) (an:Option Addr) (cdv ct:Value) (osl:Array (Option Value)),
  fd=W.fnOf x qual (aK st) (aI st) (am st) .none kV doc pm an cdv ct/\K.lookup f=some ⟨oc,od,.func fd,osl⟩/\W.codeIn K cdv qual=true
 kp:W.keepIn K (.ref f)=true
section
variable {P:Program}{w:World}{K:W.Frag}{mg:Str->Option Value}{base:Heap}
def aT.ok{x qual:Str}{st:Stmt}{f:Addr}{e:FuncData}{N ps:List Str}{k:Nat}{sp:Sp}(F:aT K x qual st f e)(S:aL N ps (am st))(len:∀vs H Q E,sp vs H Q E->vs.length=ps.length)
 (b:∀(a:Value) (A:Around) (outer:List Env) (s:fy) (H:Hp) (vs:List V) (Q:VK) (E:XK),bV k (A.deeper (envOfC qual (am st) s.heap.objs.size f a))->sp vs H Q E ->
   ∃t,gb (gp cn P w K mg base N qual (am st) f a A outer s H E).nox (aI st) t/\t { nx:=λ_ m=>Q .non m,rt:=Q } (gX N vs) H):bN P w K mg base cn (k+1) f e ps sp:=by
 obtain⟨o,od,kV,l,n,p,a,ct,j,rfl,i,c⟩:=F.ex;refine vg i c S len λA outer s H vs Q E g d=>?_;obtain⟨t,h,q⟩:=b a A outer s H vs Q E g d;exact⟨t,h.nox,q⟩
def aT.binds{x qual:Str}{st:Stmt}{f:Addr}{e:FuncData}{ps:List Str}(F:aT K x qual st f e)
 (h:∀(kV b c:Value) (d:Option Addr) (a ct:Value) (us:List Value),us.length=ps.length->bindArgs (W.fnOf x qual (aK st) (aI st) (am st) .none kV b c d a ct) ⟨us,[]⟩=pure (ps.zip us)):ax K e ps []:=by
 obtain⟨j,od,kV,b,c,d,a,ct,i,rfl,k,g⟩:=F.ex;exact .all (h kV b c d a ct)
def aZ{x qual:Str}{st:Stmt}{f:Addr}{h:Value}{od g:Option Addr}{d:Array (Option Value)}{kV b e a ct:Value}(l:K.lookup f=some ⟨h,od,.func (W.fnOf x qual (aK st) (aI st) (am st) .none kV b e g a ct),d⟩)
 (c:W.codeIn K a qual=true) (k:W.keepIn K (.ref f)=true):aT K x qual st f (W.fnOf x qual (aK st) (aI st) (am st) .none kV b e g a ct):=⟨⟨h,od,kV,b,e,g,a,ct,d,rfl,l,c⟩,k⟩
end
section
variable {X:Cx}
def pv(i:Nat){x:Str}{pos:Pos}(hN:X.N[i]? = some x:=by rfl)(b:pA X.env.scope x:=by first|exact Or.inl rfl|exact Or.inr (Or.inl rfl)|exact Or.inr (Or.inr rfl))(hd:(x == ("__debug__" : Str))=false:=by decide)
 (a:(x == ("__classdict__" : Str))=false:=by decide):PE X (.Name x pos) (Ab i):=BL hN b hd a
end
def CF{A B:Prop}(h:B):if false=true then A else B:=by
 rw[X8 Vn];exact h
def iw{A B:Prop}(h:A):if true=true then A else B:=by
 rw[X9 rfl];exact h
def ak{c A B:Prop}[Decidable c](b:c->A)(a:¬c->B):if c then A else B:=by
 by_cases h:c
 ·rw[X9 h];exact b h
 ·rw[X8 h];exact a h
def aj(H a:Hp):Prop:=∀b o,H b=some o->a b=some o
def aj.refl(H:Hp):aj H H:=λ_ _ h=>h
def aj.trans{H e d:Hp}(a:aj H e)(b:aj e d):aj H d:=λc o h=>b c o (a c o h)
def aj.free{H a:Hp}(e:aj H a){l:Addr}(h:a l=Option.none):H l=Option.none:=by
 cases q:H l with
 | none=>rfl
 | some o =>
  rw[e l o q]at h;cases h
def aj.seq{K:W.Frag}{H b:Hp}{a:Addr}{xs:List V}(e:aj H b)(h:aH K H a xs):aH K b a xs:=by
 rcases h with (h|⟨o,h⟩)|h
 ·exact .inl (.inl (e _ _ h))
 ·exact .inl (.inr ⟨o,e _ _ h⟩)
 ·exact .inr h
end L2
set_option maxHeartbeats 4000000
namespace HT
open PySem PyProof.Rows
end HT
namespace L2
open PySem PySem.Spec PyProof.Rows
def PE.imp{X:Cx}{e:Expr}{t t':TE}(h:PE X e t)(k:∀σ H Q,t' σ H Q->t σ H Q):PE X e t':=λa s σ H Q I q=>h a s σ H Q I (k σ H Q q)
def be.imp{X:Cx}{f:Value->Value->Sem Value}{r b:R2}(h:be X f r)(k:∀x y H Q,b x y H Q->r x y H Q):be X f b:=λa s σ H x y v u Q I d c q=>h a s σ H x y v u Q I d c (k x y H Q q)
def ck.imp{X:Cx}{f:Value}{r b:List V->Hp->VK->Prop}(h:ck X f r)(k:∀xs H Q,b xs H Q->r xs H Q):ck X f b:=λa s σ H xs us Q I c q=>h a s σ H xs us Q I c (k xs H Q q)
def gA.imp{X:Cx}{r c:R2}(h:gA X r)(k:∀x y H Q,c x y H Q->r x y H Q):gA X c:=λvalue a b s σ H x y v u Q I e d q hs=>h value a b s σ H x y v u Q I e d (k x y H Q q) hs
def aj.new{H:Hp}{p:Addr}{o:HO}(h:H p=none):aj H (upd H p o):=λb u e=>by rw[au (aO e h)];exact e
structure bz (H:Hp) (p:Addr) (o:HO) (H':Hp):Prop where
 nw:H p=none
 sm:aj H H'
 at_:H' p=some o
def bz.mk'{H:Hp}{p:Addr}{o:HO}(h:H p=none):bz H p o (upd H p o):=⟨h,aj.new h,aX⟩
def bz.lst{K:W.Frag}{H a:Hp}{p:Addr}{xs:List V}(g:bz H p (.lst xs) a):aH K a p xs:=.of g.at_
def bz.tup{K:W.Frag}{H a:Hp}{p:Addr}{xs:List V}(g:bz H p (.tup xs) a):bw K a p xs:=.of g.at_
def aj.put{H a:Hp}{p:Addr}{o:HO}(s:aj H a)(h:H p=none):aj H (upd a p o):=λb u e=>by
 rw[au (aO e h)];exact s b u e
def mV(i:Nat):TE:=λσ H Q=>match σ[i]? with
 | some (some v)=>Q v H
 | _=>False
def vv(i:Nat){X:Cx}{x:Str}{pos:Pos}(hN:X.N[i]? = some x:=by rfl)(b:pA X.env.scope x:=by first|exact Or.inl rfl|exact Or.inr (Or.inl rfl)|exact Or.inr (Or.inr rfl))(hd:(x == ("__debug__" : Str))=false:=by decide)
 (a:(x == ("__classdict__" : Str))=false:=by decide):PE X (.Name x pos) (mV i):=(BL hN b hd a).imp λσ H Q q=>by
 unfold mV at q
 split at q
 ·exact⟨_,by assumption,q⟩
 ·exact q.elim
section
variable {X:Cx}{a b:Expr}{ta tb:TE}{pos:Pos}{bQ:List Expr}
def Cl(b tb:TE):TE:=λσ H Q=>b σ H λx a=>match x with
 | .bl c=>if c=true then tb σ a Q else Q (.bl false) a
 | _=>False
def Ch(b tb:TE):TE:=λσ H Q=>b σ H λx a=>match x with
 | .bl c=>if c=true then Q (.bl true) a else tb σ a Q
 | _=>False
def Ci(a:TE):TE:=λσ H Q=>a σ H λx b=>match x with
 | .bl c=>Q (.bl (!c)) b
 | _=>False
def M5(j:PE X a ta)(hb:PE X (.BoolOp .And (b::bQ) pos) tb):PE X (.BoolOp .And (a::b::bQ) pos) (Cl ta tb):=by
 intro d s σ H Q I h;refine BoolOp_and (aB (j d s σ H _ I h) λv s1 ζ=>?_);obtain⟨x,f,g,i,e⟩:=ζ;cases x with
 | bl c =>
  cases i;refine wpAny_truthy_bool ?_;cases c with
  | true=>exact hb d s1 σ f Q g e
  | false=>exact⟨.bl false,f,g,rfl,e⟩
 | _=>exact False.elim e
def MW(j:PE X a ta)(hb:PE X (.BoolOp .Or (b::bQ) pos) tb):PE X (.BoolOp .Or (a::b::bQ) pos) (Ch ta tb):=by
 intro d s σ H Q I h;refine BoolOp_or (aB (j d s σ H _ I h) λv s1 ζ=>?_);obtain⟨x,f,g,i,e⟩:=ζ;cases x with
 | bl c =>
  cases i;refine wpAny_truthy_bool ?_;cases c with
  | false=>exact hb d s1 σ f Q g e
  | true=>exact⟨.bl true,f,g,rfl,e⟩
 | _=>exact False.elim e
def MX(i:PE X a ta):PE X (.UnaryOp .Not a pos) (Ci ta):=by
 intro b s σ H Q I h;refine UnaryOp_ (aB (i b s σ H _ I h) λv s1 ζ=>?_);obtain⟨x,f,g,e,d⟩:=ζ;cases x with
 | bl c =>
  cases e;exact not_of (wpAny_truthy_bool ⟨.bl (!c),f,g,Z,d⟩)
 | _=>exact False.elim d
def mB(t:TE):TT:=λσ H Q=>t σ H λx a=>match x with
 | .bl c=>Q c a
 | _=>False
def L5{e:Expr}{t:TE}(h:PE X e t)(f:∀whole,isTrue e X.env whole=(do let v <- whole;standAt e.pos;holding [v] (truthy v)):=by intro _;rfl):PT X e (mB t):=by
 intro a s σ H Q I hw;refine isTrue_plain (aB (h a s σ H _ I hw) λv s1 ζ=>?_) (f _);obtain⟨x,g,i,d,b⟩:=ζ;cases x with
 | bl c =>
  cases d;exact wpAny_truthy_bool ⟨g,i,b⟩
 | _=>exact False.elim b
def L9{e:CmpOp}{r:R2}(ho:be X (compareOp e) r)(G:PE X a ta)(hb:PE X b tb)(p:behindInMarks e b=false):PT X (.Compare a [e] [b] pos) (mB (iI r ta tb)):=by
 intro d s σ H Q I h;refine wpAny_isTrue_Compare1 (aB (G d s σ H _ I h) λv s1 ⟨x,l,F,g,n⟩=>aB (hb d s1 σ l _ F n) λu B ⟨y,i,j,C,D⟩ =>
  aB (ho d B σ i x y v u _ j g C D) λc J ⟨z,m,o,q,f⟩=>?_) p
 cases z with
 | bl k =>
  cases q;exact wpAny_truthy_bool ⟨m,o,f⟩
 | _=>exact False.elim f
def qD(r g:R2)(h tb b:TE):TE:=λσ H Q=>h σ H λx e=>tb σ e λy c=>r x y c λz a=>match z with
 | .bl k=>if k=true then b σ a λd f=>g y d f Q else Q (.bl false) a
 | _=>False
def M4{c:Expr}{o:TE}{i f:CmpOp}{r m:R2}(ho:be X (compareOp i) r)(g:be X (compareOp f) m)(W:PE X a ta)(hb:PE X b tb)(G:PE X c o)
 (M:lastMarks [i,f] [b,c]=false:=by with_unfolding_all rfl):PE X (.Compare a [i,f] [b,c] pos) (qD r m ta tb o):=by
 intro e s σ H Q I h;refine Compare_chain (aB (W e s σ H _ I h) λv s1 ⟨x,D,V,J,q1⟩=>chain_link (aB (hb e s1 σ D _ V q1) λu F ⟨y,Y,C,n,q2⟩ =>
  aB (ho e F σ Y x y v u _ C J n q2) λd U ⟨z,l,p,r3,j⟩=>?_)) M
 cases z with
 | bl k =>
  cases r3;refine wpAny_truthy_bool ?_;cases k with
  | false=>exact ite_ff ⟨.bl false,l,p,rfl,j⟩
  | true=>exact ite_tt (chain_last (aB (G e U σ l _ p j) λL N ⟨O,R,S,B,q⟩=>g e N σ R y O u L Q S n B q))
 | _=>exact False.elim j
def Mb{c:Expr}{p:TE}{i f:CmpOp}{r n:R2}(ho:be X (compareOp i) r)(g:be X (compareOp f) n)(ha:PE X a ta)(hb:PE X b tb)(L:PE X c p)
 (O:lastMarks [i,f] [b,c]=false:=by with_unfolding_all rfl):PT X (.Compare a [i,f] [b,c] pos) (mB (qD r n ta tb p)):=by
 intro e s σ H Q I h;refine isTrue_chain (aB (ha e s σ H _ I h) λv s1 ⟨x,F,I1,M,q1⟩=>test_link (aB (hb e s1 σ F _ I1 q1) λu J ⟨y,H2,D,o,q2⟩ =>
  aB (ho e J σ H2 x y v u _ D M o q2) λd s3 ⟨z,l,q,r3,j⟩=>?_)) O
 cases z with
 | bl k =>
  cases r3;refine wpAny_truthy_bool ?_;cases k with
  | false=>exact ite_ff ⟨l,q,j⟩
  | true =>
   refine ite_tt (test_last (aB (L e s3 σ l _ q j) λN R ζ=>?_));obtain⟨U,V,W,C,B⟩:=ζ;refine aB (g e R σ V y U u N _ W o C B) λd' s5 ζ=>?_;obtain⟨z2,Y,S,G,m⟩:=ζ;cases z2 with
   | bl k2 =>
    cases G;exact wpAny_truthy_bool ⟨Y,S,m⟩
   | _=>exact False.elim m
 | _=>exact False.elim j
def um(K:W.Frag)(t:TE):TT:=λσ H Q=>t σ H λx a=>match x with
 | .non=>Q false a
 | .bl c=>Q c a
 | .int i=>Q (i != 0) a
 | .ref p=>∃xs,(aH K a p xs\/bw K a p xs)/\Q (!xs.isEmpty) a
 | _=>False
def L6{e:Expr}{t:TE}(h:PE X e t)(j:∀whole,isTrue e X.env whole=(do let v <- whole;standAt e.pos;holding [v] (truthy v)):=by intro _;rfl):PT X e (um X.K t):=by
 intro a s σ H Q I hw;refine isTrue_plain (aB (h a s σ H _ I hw) λv s1 ζ=>?_) (j _);obtain⟨x,f,g,d,b⟩:=ζ;cases x with
 | non=>exact ni a s1 σ f _ v Q g d ⟨false,rfl,b⟩
 | bl c=>exact ni a s1 σ f _ v Q g d ⟨c,rfl,b⟩
 | int i=>exact ni a s1 σ f _ v Q g d ⟨i != 0,rfl,b⟩
 | ref p =>
  obtain⟨xs,hx,b⟩:=b;rcases hx with hx|hx
  ·exact ni a s1 σ f _ v Q g d ⟨_,.inl ⟨xs,hx,Z⟩,b⟩
  ·exact ni a s1 σ f _ v Q g d ⟨_,.inr (.inl ⟨xs,hx,Z⟩),b⟩
 | _=>exact False.elim b
end
section
variable {X:Cx}{a b:Expr}{ta tb:TE}{pos:Pos}
def gI(C:Int->Int->Prop)(g:Int->Int->V):R2:=λx y H Q=>match x,y with
 | .int i,.int j=>C i j/\Q (g i j) H
 | _,_=>False
def mO(g:Int->Int->V):R2:=λx y H Q=>match x,y with
 | .int i,.int j=>Q (g i j) H
 | _,_=>False
def oq{f:Value->Value->Sem Value}{g:Int->Int->V}(h:be X f (iK g)):be X f (mO g):=h.imp λx y H Q q=>by
 cases x<;>cases y<;>first|exact False.elim q|exact⟨_,_,rfl,rfl,q⟩
def va{f:Value->Value->Sem Value}{C:Int->Int->Prop}{g:Int->Int->V}(h:be X f (rI C g)):be X f (gI C g):=h.imp λx y H Q q=>by
 cases x<;>cases y<;>first|exact False.elim q|exact⟨_,_,rfl,rfl,q.1,q.2⟩
def dB:be X (binaryOp .Sub) (mO λi j=>.int (i-j)):=oq Lr
def oo:be X (binaryOp .Mod) (gI (λ_ j=>0<j) λi j=>.int (i%j)):=va BZ
def PN:be X (binaryOp .Pow) (gI FA λi j=>.int (i ^ j.toNat)):=va Lu
def cZ:be X (compareOp .Lt) (mO λi j=>.bl (decide (i<j))):=oq Lz
def eI:be X (compareOp .LtE) (mO λi j=>.bl (decide (i<=j))):=oq LA
def fF:be X (compareOp .Gt) (mO λi j=>.bl (decide (j<i))):=oq LD
def Du:be X (compareOp .GtE) (mO λi j=>.bl (decide (j<=i))):=oq LE
def Cj(j:Int)(a:TE):TE:=λσ H Q=>a σ H λx b=>match x with
 | .int i=>Q (.int (i/j)) b
 | _=>False
def qC(j:Int)(a:TE):TE:=λσ H Q=>a σ H λx b=>match x with
 | .int i=>Q (.int (i%j)) b
 | _=>False
def M0{j:Int}{k:Nat}{p:Pos}(z:PE X a ta)(f:0<j/\j<1073741824:=by decide):PE X (.BinOp a .FloorDiv (.Constant (.int j) k p) pos) (Cj j ta):=by
 intro b s σ H Q I h;refine wpAny_BinOp (aB (z b s σ H _ I h) λv s1 ζ=>?_);obtain⟨x,d,q,g,e⟩:=ζ;refine aB (qk b s1 σ d (λy c=>y=.int j/\c=d) q ⟨rfl,rfl⟩) λu n ζ=>?_;obtain⟨y,c,l,o,r,m⟩:=ζ;subst r m;cases x with
 | int i=>exact LF b n σ c (.int i) (.int j) v u Q l g o ⟨i,j,rfl,rfl,f,e⟩
 | _=>exact False.elim e
def MY{j:Int}{k:Nat}{p:Pos}(z:PE X a ta)(f:0<j:=by decide):PE X (.BinOp a .Mod (.Constant (.int j) k p) pos) (qC j ta):=by
 intro b s σ H Q I h;refine wpAny_BinOp (aB (z b s σ H _ I h) λv s1 ζ=>?_);obtain⟨x,d,q,g,e⟩:=ζ;refine aB (qk b s1 σ d (λy c=>y=.int j/\c=d) q ⟨rfl,rfl⟩) λu n ζ=>?_;obtain⟨y,c,l,o,r,m⟩:=ζ;subst r m;cases x with
 | int i=>exact BZ b n σ c (.int i) (.int j) v u Q l g o ⟨i,j,rfl,rfl,f,e⟩
 | _=>exact False.elim e
def zV:pB X (unaryOp .USub) (λx H Q=>match x with|.int i=>Q (.int (-i)) H|_=>False):=by
 intro a s σ H x v Q I b q;cases x with
 | int i=>exact Gj a s σ H _ v Q I b ⟨i,rfl,q⟩
 | _=>exact False.elim q
end
section
variable {X:Cx}
def Rl{c:List (Addr × Obj)}{s:fy}{σ:St}{H:Hp}{l b:Addr}{xs zs:List V}{Q:VK}(I:af X c σ H s)(x:aH X.K H l xs)(hb:aH X.K H b zs)(hz:xs.length+zs.length<=sizeLine)
 (q:∀p H',bz H p (.lst (xs++zs)) H'->Q (.ref p) H'):wpAny (model X.prog X.w) X.A (binaryOp .Add (.ref l) (.ref b)) (EP X c σ Q) X.xe s:=by
 obtain⟨d,r,pl,_⟩:=I.list x;obtain⟨a,u,k,_⟩:=I.list hb;have D:=r.length;have C:=u.length;obtain⟨⟨cls,v,data,y⟩,ho,o,n,hd⟩:=pl.isList;obtain⟨⟨m,h,j,i⟩,g,f,z,e⟩:=k.isList;simp only at o hd f e;subst o hd f e;have B:d.toArray++a.toArray=(d++a).toArray:=by simp
 refine concat_meets ⟨_,ho,rfl⟩ ⟨_,g,rfl⟩ noFill_list_add seq_list_add PySem.F.slot_list_add PySem.F.entry_list_add (PySem.F.args_list_add_2 _ _) (list_addW l b d.toArray a.toArray n z v h y i (by rw[Vl,Vl];omega)) ⟨ho,g,?_⟩;rw[B];exact⟨.ref _,_,I.lnew (t':=s.toks) (r.append u) (by rw[Vc];omega),rfl,q _ _ (.mk' I.fresh)⟩
def ve(K:W.Frag):R2:=λx y H Q=>match x,y with
 | .int i,.int j=>Q (.int (i+j)) H
 | .ref l,.ref b=>∃xs zs,aH K H l xs/\aH K H b zs/\xs.length+zs.length<=sizeLine/\∀p H',bz H p (.lst (xs++zs)) H'->Q (.ref p) H'
 | _,_=>False
def Qi:be X (binaryOp .Add) (ve X.K):=by
 intro a s σ H x y v u Q I d c q;cases x with
 | int i =>
  cases y with
  | int j=>exact LG a s σ H _ _ v u Q I d c ⟨i,j,rfl,rfl,q⟩
  | _=>exact False.elim q
 | ref l =>
  cases y with
  | ref b =>
   obtain⟨xs,zs,g,e,f,q⟩:=q;cases d;cases c;exact Rl I g e f q
  | _=>exact False.elim q
 | _=>exact False.elim q
def Qk:R2:=λx y H Q=>match x,y with
 | .int i,.int j=>sY i j/\Q (.int (i*j)) H
 | .ref l,.int k=>∃xs,H l=some (.lst xs)/\-(2 ^ 63)<=k/\k<2 ^ 63/\xs.length*k.toNat<=sizeLine/\∀p H',bz H p (.lst (List.replicate k.toNat xs).flatten) H'->Q (.ref p) H'
 | _,_=>False
def eG:be X (binaryOp .Mult) Qk:=by
 intro a s σ H x y v u Q I c b q;cases x with
 | int i =>
  cases y with
  | int j=>exact Ly a s σ H _ _ v u Q I c b ⟨i,j,rfl,rfl,q.1,q.2⟩
  | _=>exact False.elim q
 | ref l =>
  cases y with
  | int k =>
   obtain⟨xs,g,e,f,d,q⟩:=q;exact Ls a s σ H _ _ v u Q I c b ⟨l,k,xs,Z,Z,g,e,f,d,λp h=>q p _ (.mk' h)⟩
  | _=>exact False.elim q
 | _=>exact False.elim q
def uA(x:V)(c:Bool):Bool:=match x with
 | .bl d=>d == c
 | _=>false
def Bn{x:V}{v:Value}{c:Bool}(r:aR x v)(hf:∀f,x ≠ .ty f):plainIs v (.bool c)=true/\(v == Value.bool c)=uA x c:=by
 cases x with
 | non=>cases r;exact⟨rfl,rfl⟩
 | bl d=>cases r;exact⟨rfl,by cases d<;>cases c<;>rfl⟩
 | int _=>obtain⟨t,rfl⟩:=r;exact⟨rfl,rfl⟩
 | str _=>obtain⟨t,rfl⟩:=r;exact⟨rfl,rfl⟩
 | byt _=>obtain⟨t,rfl⟩:=r;exact⟨rfl,rfl⟩
 | flt _=>obtain⟨t,rfl⟩:=r;exact⟨rfl,rfl⟩
 | ref _=>cases r;exact⟨rfl,rfl⟩
 | ty f=>exact Ya rfl (hf f)
def Dx(neg:Bool):R2:=λx y H Q=>match y with
 | .non=>Q (.bl (if neg then !decide (x=.non) else decide (x=.non))) H
 | .bl c=>(∀f,x ≠ .ty f)/\Q (.bl (if neg then !uA x c else uA x c)) H
 | _=>False
def gJ:be X (compareOp .Is) (Dx false):=by
 intro a s σ H x y v u Q I d b q;cases y with
 | non=>exact LB a s σ H x _ v u Q I d b ⟨rfl,q⟩
 | bl c =>
  cases b;obtain⟨f,e⟩:=Bn (c:=c) d q.1;exact wpAny_is_plain f ⟨.bl _,H,I,by rw[e];rfl,q.2⟩
 | _=>exact False.elim q
def qW:be X (compareOp .IsNot) (Dx true):=by
 intro a s σ H x y v u Q I d b q;cases y with
 | non=>exact Lv a s σ H x _ v u Q I d b ⟨rfl,q⟩
 | bl c =>
  cases b;obtain⟨f,e⟩:=Bn (c:=c) d q.1;exact wpAny_isNot_plain f ⟨.bl _,H,I,by rw[e];rfl,q.2⟩
 | _=>exact False.elim q
end
def bA(K:W.Frag)(H:Hp)(d:PyData)(x:V):Prop:=∀(X:Cx) (a:List (Addr × Obj)) (σ:St) (s:fy) (u:Value),X.K=K->af X a σ H s->aR x u->∃as,Reads s.heap u d as
def cX(K:W.Frag)(H:Hp)(ds:List PyData)(xs:List V):Prop:=∀(X:Cx) (a:List (Addr × Obj)) (σ:St) (s:fy) (us:List Value),X.K=K->af X a σ H s->aJ xs us->∃as,ReadsAll s.heap us ds as
section
variable {K:W.Frag}{H:Hp}
def bA.non:bA K H .none .non:=λ_ _ _ _ _ _ _ r=>by cases r;exact⟨_,.none⟩
def bA.bl(b:Bool):bA K H (.bool b) (.bl b):=λ_ _ _ _ _ _ _ r=>by cases r;exact⟨_,.bool b⟩
def bA.int(i:Int):bA K H (.int i) (.int i):=λ_ _ _ _ _ _ _ r=>by obtain⟨t,rfl⟩:=r;exact⟨_,.int i t⟩
def bA.str(x:Str):bA K H (.str x) (.str x):=λ_ _ _ _ _ _ _ r=>by obtain⟨t,rfl⟩:=r;exact⟨_,.str x t⟩
def cX.nil:cX K H [] []:=λ_ _ _ _ _ _ _ r=>by cases r;exact⟨_,.nil⟩
def cX.cons{d:PyData}{ds:List PyData}{x:V}{xs:List V}(a:bA K H d x)(b:cX K H ds xs):cX K H (d::ds) (x::xs):=λX c σ s us e I r=>by
 cases r with
 | cons r1 r2 =>
  obtain⟨as,f⟩:=a X c σ s _ e I r1;obtain⟨bs,hb⟩:=b X c σ s _ e I r2;exact⟨_,.cons f hb⟩
def bA.lst{ds:List PyData}{p:Addr}{xs:List V}(h:aH K H p xs)(b:cX K H ds xs):bA K H (.list ds) (.ref p):=λX a σ s u e I r=>by
 cases r;subst e;obtain⟨c,d,⟨o,n,ho,f,_,hd⟩,_⟩:=I.list h;obtain⟨as,g⟩:=b X a σ s c rfl I d;exact⟨_,.list ho f hd (by simpa using g)⟩
def bA.tup{ds:List PyData}{p:Addr}{xs:List V}(h:bw K H p xs)(b:cX K H ds xs):bA K H (.tuple ds) (.ref p):=λX a σ s u e I r=>by
 cases r;subst e;obtain⟨c,d,⟨o,ho,f,n,hd⟩,_⟩:=I.tuple h;obtain⟨as,g⟩:=b X a σ s c rfl I d;exact⟨_,.tuple ho f hd (by simpa using g)⟩
theorem cX.ints:∀ns:e7,cX K H (ns.map PyData.int) (ns.map V.int)
 | []=>.nil
 | n::ns=>.cons (.int n) (cX.ints ns)
end
open SeqAt (shaped)
def ow(K:W.Frag)(neg:Bool):R2:=λx y H Q=>match x,y with
 | .int i,.int j=>Q (.bl (if neg then !decide (i=j) else decide (i=j))) H
 | .bl a,.bl b=>Q (.bl (if neg then !(a == b) else a == b)) H
 | _,_=>∃d e,bA K H d x/\bA K H e y/\shaped d=true/\shaped e=true/\Q (.bl (if neg then !d.eqv e else d.eqv e)) H
section
variable {X:Cx}
def DM{a:List (Addr × Obj)}{s:fy}{σ:St}{H:Hp}{x y:V}{v u:Value}{Q:VK}{neg:Bool}(c:X.A.units+64<cLine)(I:af X a σ H s)(k:aR x v)(j:aR y u)
 (q:∃d e,bA X.K H d x/\bA X.K H e y/\shaped d=true/\shaped e=true/\Q (.bl (if neg then !d.eqv e else d.eqv e)) H) :
 wpAny (model X.prog X.w) X.A (compareOp (if neg then .NotEq else .Eq) v u) (EP X a σ Q) X.xe s:=by
 obtain⟨d,e,hd,i,h,b,q⟩:=q;obtain⟨as,f⟩:=hd X a σ s v rfl I k;obtain⟨bs,g⟩:=i X a σ s u rfl I j;cases neg with
 | true=>exact ne_dataH f g h b c ⟨.bl _,H,I,rfl,q⟩
 | false=>exact eq_dataH f g h b c ⟨.bl _,H,I,rfl,q⟩
def DQ{i j:Int}:decide (V.int i=V.int j)=decide (i=j):=by simp
def Qb(e:X.A.units+64<cLine):be X (compareOp .Eq) (ow X.K false):=by
 intro a s σ H x y v u Q I c b q;have D:=λd=>DM (neg:=false) (Q:=Q) e I c b d;cases x with
 | int i =>
  cases y with
  | int j=>exact B0 a s σ H _ _ v u Q I c b ⟨rfl,by rw[DQ];exact q⟩
  | _=>exact D q
 | bl i =>
  cases y with
  | bl j=>exact B0 a s σ H _ _ v u Q I c b ⟨rfl,by rw[rD];exact q⟩
  | _=>exact D q
 | _=>exact D q
def PV(e:X.A.units+64<cLine):be X (compareOp .NotEq) (ow X.K true):=by
 intro a s σ H x y v u Q I c b q;have D:=λd=>DM (neg:=true) (Q:=Q) e I c b d;cases x with
 | int i =>
  cases y with
  | int j=>exact BY a s σ H _ _ v u Q I c b ⟨rfl,by rw[DQ];exact q⟩
  | _=>exact D q
 | bl i =>
  cases y with
  | bl j=>exact BY a s σ H _ _ v u Q I c b ⟨rfl,by rw[rD];exact q⟩
  | _=>exact D q
 | _=>exact D q
def qY(K:W.Frag)(neg:Bool):R2:=λx y H Q=>match y with
 | .ref p=>∃xs,(aH K H p xs\/bw K H p xs)/\fZ x=true/\xs.all fZ=true/\Q (.bl (if neg then !bG x xs else bG x xs)) H
 | _=>False
def P9:be X (compareOp .In) (qY X.K false):=LC.imp λx y H Q q=>by
 cases y with
 | ref p=>obtain⟨xs,c,b,a,q⟩:=q;exact⟨p,xs,Z,c,b,a,q⟩
 | _=>exact False.elim q
def PU:be X (compareOp .NotIn) (qY X.K true):=Lx.imp λx y H Q q=>by
 cases y with
 | ref p=>obtain⟨xs,c,b,a,q⟩:=q;exact⟨p,xs,Z,c,b,a,q⟩
 | _=>exact False.elim q
def fG(K:W.Frag):R2:=λx y H Q=>match x,y with
 | .ref p,.int i=>∃xs v,(aH K H p xs\/bw K H p xs)/\c8 xs i=some v/\Q v H
 | _,_=>False
def PZ:gA X (fG X.K):=(NA.or Nz).imp λx y H Q q=>by
 cases x with
 | ref p =>
  cases y with
  | int i =>
   obtain⟨xs,v,a,b,q⟩:=q;rcases a with a|a
   ·exact .inl ⟨p,xs,i,v,Z,Z,a,b,q⟩
   ·exact .inr ⟨p,xs,i,v,Z,Z,a,b,q⟩
  | _=>exact False.elim q
 | _=>exact False.elim q
def sB{α:Type}{xs:List α}{i:Int}(b:0<=i)(c:i<xs.length):∃v,v∈xs/\c8 xs i=some v/\xs[i.toNat]? = some v:=by
 have a:i.toNat<xs.length:=by omega
 refine⟨xs[i.toNat],Xo a,?_,by simp[a]⟩;have e:xs[i.toNat]? = some xs[i.toNat]:=by simp[a]
 have:=aA e
 rwa [WC b]at this
def Dw(K:W.Frag):V->Option Int->Option Int->Hp->VK->Prop:=λx lo b H Q=>match x with
 | .ref a=>∃xs,aH K H a xs/\∀p H',bz H p (.lst (dR xs lo b)) H'->Q (.ref p) H'
 | _=>False
def PH:jq X (Dw X.K):=by
 intro b s σ H x v e c lo d i Q I g hs pl f q;cases x with
 | ref a=>obtain⟨xs,h,q⟩:=q;exact Il b s σ H _ v e c lo d i Q I g hs pl f ⟨a,xs,Z,h,λp j=>q p _ (.mk' j)⟩
 | _=>exact False.elim q
def uW(K:W.Frag):List V->Hp->VK->Prop:=λxs H Q=>match xs with
 | [.ref p]=>∃ys,(aH K H p ys\/bw K H p ys)/\Q (.int ys.length) H
 | _=>False
def Rz:ck X (.builtin "len") (uW X.K):=Ro.imp λxs H Q q=>by
 unfold uW at q
 split at q
 ·obtain⟨ys,a,q⟩:=q;exact⟨_,ys,Z,a,q⟩
 ·exact q.elim
def uV(K:W.Frag):List V->Hp->VK->Prop:=λxs H Q=>match xs with
 | [.ref p]=>∃ys,(aH K H p ys\/bw K H p ys)/\∀l H',bz H l (.lst ys) H'->Q (.ref l) H'
 | _=>False
def Ry:ck X (.type "list") (uV X.K):=Rn.imp λxs H Q q=>by
 unfold uV at q
 split at q
 ·obtain⟨ys,a,q⟩:=q;exact⟨_,ys,Z,a,λl b=>q l _ (.mk' b)⟩
 ·exact q.elim
def uX:List V->Hp->VK->Prop:=λxs H Q=>match xs with
 | [.int i]=>Q (.int i) H
 | [.bl k]=>Q (.int (if k then 1 else 0)) H
 | _=>False
def gN:ck X (.type "int") uX:=Rq.imp λxs H Q q=>by
 unfold uX at q
 split at q
 ·exact .inl ⟨_,Z,q⟩
 ·exact .inr ⟨_,Z,q⟩
 ·exact q.elim
def uY(K:W.Frag):List V->Hp->VK->Prop:=λxs H Q=>match xs with
 | [x,.ty T]=>∃t b,c9 K H x t/\W.kitOne K t (.type T)=some b/\Q (.bl b) H
 | [x,.ref C]=>∃t b,c9 K H x t/\W.kitOne K t (.ref C)=some b/\Q (.bl b) H
 | _=>False
def RA:ck X (.builtin "isinstance") (uY X.K):=by
 intro f s σ H xs us Q I r q;unfold uY at q
 split at q
 ·obtain⟨t,b,e,c,q⟩:=q;obtain⟨u,g,rfl,a,d⟩:=m9 r;cases d;exact uv I a e c λh=>⟨.bl b,H,I.tok _,Z,q⟩
 ·obtain⟨t,b,e,c,q⟩:=q;obtain⟨u,g,rfl,a,d⟩:=m9 r;cases d;exact uv I a e c λh=>⟨.bl b,H,I.tok _,Z,q⟩
 ·exact q.elim
def RZ {x:Str} {T:String} {pos:Pos} (d:Gl X x) (b:X.mg x=none) (c:bootBuiltins x=some (.type T)) (a:x ≠ "__name__":=by decide) (hd:(x == ("__debug__" : Str))=false:=by decide):PE X (.Name x pos) (tC (.ty T)) :=
 Ln d b c rfl a hd
end
def dg:Expr->Bool
 | .Starred _ _=>true
 | _=>false
def cv{e:Expr}{es:List Expr}{env:Env}(h:dg e=false):starEach (e::es) env=(false,eval e env)::starEach es env:=by
 cases e<;>first|rfl|cases h
def dA:List Expr->Bool
 | []=>true
 | e::r=>!dg e && dA r
theorem hZ{env:Env}{pos:Pos}:∀ {es:List Expr},dA es=true->(backTo pos (starEach es env)).any (·.1)=false
 | [],_=>rfl
 | e::r,h=>by
  have h':(!dg e && dA r)=true:=h;rw[VB]at h';have a:dg e=false:=by simpa using h'.1
  rw[cv a];show (false || (backTo pos (starEach r env)).any (·.1))=false;rw[Bool.false_or];exact hZ h'.2
def dz{e:Expr}{es:List Expr}(h:dA (e::es)=true):dg e=false/\dA es=true:=by
 have h':(!dg e && dA es)=true:=h;rw[VB]at h';exact⟨by simpa using h'.1,h'.2⟩
def BU{X:Cx}{e:Expr}{es:List Expr}{a:TE}{t:TA}(c:PE X e a)(b:PA X es t)(hs:dg e=false:=by rfl):PA X (e::es) (j5 a t):=Lp c b (cv hs)
def rT:Expr->Option V
 | .Constant (.int i) _ _=>some (.int i)
 | .Constant (.bool b) _ _=>some (.bl b)
 | .Constant .none _ _=>some .non
 | .Constant (.str x) _ _=>some (.str x)
 | _=>none
def rS:List Expr->Option (List V)
 | []=>some []
 | e::r=>match rT e,rS r with
  | some v,some vs=>some (v::vs)
  | _,_=>none
def tE(vs:List V):TA:=λ_ H Q=>Q vs H
def Le{X:Cx}{e:Expr}{v:V}(h:rT e=some v):PE X e (tC v):=by
 unfold rT at h
 split at h
 ·cases h;exact qk
 ·cases h;exact BQ
 ·cases h;exact BN
 ·cases h;exact BM
 ·cases h
def Re{e:Expr}{v:V}(h:rT e=some v):dg e=false:=by
 cases e<;>first|rfl|cases h
theorem BT{X:Cx}:∀ {es:List Expr} {vs:List V},rS es=some vs->PA X es (tE vs)
 | [],vs,h=>by
  cases h;exact BS
 | e::r,vs,h=>by
  unfold rS at h
  split at h
  ·rename_i v ws h1 h2;cases h;exact BU (Le h1) (BT h2) (Re h1)
  ·cases h
section
variable {X:Cx}{es:List Expr}{t:TA}{pos:Pos}
def ul(t:TA):TE:=λσ H Q=>t σ H λxs a=>xs.length<=sizeLine/\∀p H',bz a p (.tup xs) H'->Q (.ref p) H'
def nS(t:TA):TE:=λσ H Q=>t σ H λxs a=>xs.length<=sizeLine/\∀p H',bz a p (.lst xs) H'->Q (.ref p) H'
def MV{x1}(h:PA X es t):PE X (.Tuple es x1 pos) (ul t):=by
 intro a s σ H Q I f;refine wpAny_Tuple_spliced (aB (h pos a s σ H _ I f) λus s1 ζ=>?_);obtain⟨xs,d,c,r,z,q⟩:=ζ;refine ⟨by rw[<- r.length];exact z,?_⟩;have hf:d s1.heap.objs.size=none:=c.hok.fresh (Va _);refine⟨.ref s1.heap.objs.size,upd d s1.heap.objs.size (.tup xs),c.laid (t':=s1.toks) (λb u e=>Vg _ e) (Va _) ?_,Z,q _ _ (.mk' hf)⟩;exact⟨z,us,r,⟨_,VH _ Z,Z,_,Z⟩⟩
def MZ(h:PA X es t):PE X (.List es pos) (nS t):=by
 intro a s σ H Q I f;refine wpAny_List_spliced (aB (h pos a s σ H _ I f) λus s1 ζ=>?_);obtain⟨xs,d,c,r,z,q⟩:=ζ;refine ⟨by rw[<- r.length];exact z,?_⟩;have hf:d s1.heap.objs.size=none:=c.hok.fresh (Va _);refine⟨.ref s1.heap.objs.size,upd d s1.heap.objs.size (.lst xs),c.laid (t':=s1.toks) (λb u e=>Vg _ e) (Va _) ?_,Z,q _ _ (.mk' hf)⟩;exact⟨z,us,0,r,VH _ Z⟩
def Ck:TE:=λ_ H Q=>∀p H',bz H p (.dK []) H'->Q (.ref p) H'
def M3:PE X (.Dict [] [] pos) Ck:=Lc.imp λσ H Q q=>λp a=>q p _ (.mk' a)
end
def cO{Q:VK}{H:Hp}{a b:Bool}(k:Q (.bl a) H)(e:a=b):Q (.bl b) H:=e ▸ k
def uz:V->Bool
 | .int _=>true
 | .bl _=>true
 | _=>false
def CJ:V->Bool
 | .bl _=>true
 | _=>false
inductive gc (K:W.Frag) (H:Hp):V->Prop where
 | non:gc K H .non
 | bl (b:Bool):gc K H (.bl b)
 | int (i:Int):gc K H (.int i)
 | str (x:Str):gc K H (.str x)
 | lst {a:Addr} {xs:List V} (e:H a=some (.lst xs)):gc K H (.ref a)
 | tup {a:Addr} {xs:List V} (e:H a=some (.tup xs)):gc K H (.ref a)
 | dK {a:Addr} {kvs:List (aV × V)} (e:H a=some (.dK kvs)):gc K H (.ref a)
def gc.isInt {K:W.Frag} {H:Hp} {v:V} (k:gc K H v):∃ty,c9 K H v ty/\W.kitOne K ty (.type "int")=some (uz v):=by
 cases k with
 | non=>exact⟨_,.non,by with_unfolding_all rfl⟩
 | bl b=>exact⟨_,.bl b,by with_unfolding_all rfl⟩
 | int i=>exact⟨_,.int i,by with_unfolding_all rfl⟩
 | str x=>exact⟨_,.str x,by with_unfolding_all rfl⟩
 | lst e=>exact⟨_,.lst e,by with_unfolding_all rfl⟩
 | tup e=>exact⟨_,.tup e,by with_unfolding_all rfl⟩
 | dK e=>exact⟨_,.dK e,by with_unfolding_all rfl⟩
def gc.isBl {K:W.Frag} {H:Hp} {v:V} (k:gc K H v):∃ty,c9 K H v ty/\W.kitOne K ty (.type "bool")=some (CJ v):=by
 cases k with
 | non=>exact⟨_,.non,by with_unfolding_all rfl⟩
 | bl b=>exact⟨_,.bl b,by with_unfolding_all rfl⟩
 | int i=>exact⟨_,.int i,by with_unfolding_all rfl⟩
 | str x=>exact⟨_,.str x,by with_unfolding_all rfl⟩
 | lst e=>exact⟨_,.lst e,by with_unfolding_all rfl⟩
 | tup e=>exact⟨_,.tup e,by with_unfolding_all rfl⟩
 | dK e=>exact⟨_,.dK e,by with_unfolding_all rfl⟩
def sz{n:Nat}(h:Nat.ble n 1000=true):n<=sizeLine:=Vs (Vu h) (by decide)
def cQ{n:Nat}(h:n<=100000):n<=sizeLine:=Vs h (by decide)
def dq{n:Nat}(h:n<=100000):n<sizeLine:=Nat.lt_of_le_of_lt h (by decide)
section
variable {X:Cx}
def Bq(bs:List Bool):(List.range bs.length).map (λi=>(bs[i]?).getD false)=bs:=by
 apply List.ext_getElem
 ·simp
 ·intro i b a;simp[VG a]
def JC(bs:List Bool):((List.range bs.length).all λi=>(bs[i]?).getD false)=bs.all id:=by
 conv=>rhs;rw[<- Bq bs]
 rw[List.all_map]
 rfl
def JB(bs:List Bool):((List.range bs.length).any λi=>(bs[i]?).getD false)=bs.any id:=by
 conv=>rhs;rw[<- Bq bs]
 rw[List.any_map]
 rfl
def mP(K:W.Frag)(one:Bool):List V->Hp->VK->Prop:=λxs H Q=>match xs with
 | [.ref p]=>∃bs:List Bool,aH K H p (bs.map V.bl)/\Q (.bl (if one then bs.any id else bs.all id)) H
 | _=>False
def Ed{prog:Program}{w:World}{A:Around}{bs:List Bool}{a:List Value}(r:aJ (bs.map V.bl) a):TruthOf prog w A (λi v=>a.toArray[i]? = some v) λi=>(bs[i]?).getD false:=λi v s Q E hP hQ=>by
 dsimp only at hP hQ;have f:i<a.length:=by
  have:=(W0.mp hP).1;simpa using this
 have c:=r.length;rw[U9]at c;have hb:i<bs.length:=by omega
 obtain⟨u,d,b⟩:=r.get (i:=i) (x:=V.bl bs[i]) (by simp[hb]);have e:a.toArray[i]? = some u:=by simpa using d
 rw[e]at hP;cases hP;cases b;rw[VG hb]at hQ;exact wpAny_truthy_bool hQ
def RH (v:X.calm=true):ck X (.builtin "all") (mP X.K false):=by
 intro f s σ H xs us Q I r q;unfold mP at q
 split at q
 ·rename_i p;obtain⟨bs,h,q⟩:=q;obtain⟨u,rfl,j⟩:=iH r;cases j;obtain⟨c,g,pl,_⟩:=I.list h;have d:=g.length;rw[U9]at d;have a:p≠s.heap.objs.size:=by
   obtain⟨o,n,e,_⟩:=pl;exact Vi (Vb e)
  refine call_all_walk (wpAny_pyIter_list pl.isList ⟨s.heap.objs.size,_,_,_,_,_,λi=>(bs[i]?).getD false,rfl,Walks.list (A:=X.A.in1) (show X.A.in1.handled=none from I.ok.hd v) s.heap.objs.size p a c.toArray,⟨⟨_,VH _ rfl,rfl,rfl⟩,?_⟩,Ed g,λh' m k=>?_⟩)
  ·exact pl.isList.at λo e=>Vg _ e
  ·refine⟨.bl _,H,I.kept (h':=h') (t':=m) λb o e=>k b o (λz=>?_) (Vg _ e),?_,q⟩
   ·have l:b=s.heap.objs.size:=by simpa using z
    exact Ya (Vb e) (by rw[l];exact VJ _)
   ·show Value.bool _=Value.bool _;rw[Vl,<- d,JC]
    rfl
 ·exact q.elim
def RF (v:X.calm=true):ck X (.builtin "any") (mP X.K true):=by
 intro f s σ H xs us Q I r q;unfold mP at q
 split at q
 ·rename_i p;obtain⟨bs,h,q⟩:=q;obtain⟨u,rfl,j⟩:=iH r;cases j;obtain⟨c,g,pl,_⟩:=I.list h;have d:=g.length;rw[U9]at d;have a:p≠s.heap.objs.size:=by
   obtain⟨o,n,e,_⟩:=pl;exact Vi (Vb e)
  refine call_any_walk (wpAny_pyIter_list pl.isList ⟨s.heap.objs.size,_,_,_,_,_,λi=>(bs[i]?).getD false,rfl,Walks.list (A:=X.A.in1) (show X.A.in1.handled=none from I.ok.hd v) s.heap.objs.size p a c.toArray,⟨⟨_,VH _ rfl,rfl,rfl⟩,?_⟩,Ed g,λh' m k=>?_⟩)
  ·exact pl.isList.at λo e=>Vg _ e
  ·refine⟨.bl _,H,I.kept (h':=h') (t':=m) λb o e=>k b o (λz=>?_) (Vg _ e),?_,q⟩
   ·have l:b=s.heap.objs.size:=by simpa using z
    exact Ya (Vb e) (by rw[l];exact VJ _)
   ·show Value.bool _=Value.bool _;rw[Vl,<- d,JB]
    rfl
 ·exact q.elim
def uR(K:W.Frag):List V->Hp->VK->Prop:=λxs H Q=>match xs with
 | [.ref p]=>∃ys,aH K H p ys/\∀l H',bz H l (.tup ys) H'->Q (.ref l) H'
 | _=>False
def Rv:ck X (.type "tuple") (uR X.K):=Rm.imp λxs H Q q=>by
 unfold uR at q
 split at q
 ·obtain⟨ys,a,q⟩:=q;exact⟨_,ys,Z,.inl ⟨a,λl b=>q l _ (.mk' b)⟩⟩
 ·exact q.elim
def DA:V->List V->Hp->VK->Prop:=λx vs H Q=>match x,vs with
 | .ref l,[y]=>∃xs,H l=some (.lst xs)/\xs.length<sizeLine/\Q .non (upd H l (.lst (xs++[y])))
 | _,_=>False
def fX:gz X "list.append" DA:=by
 intro a s σ H x vs v us Q I c e q;unfold DA at q
 split at q
 ·obtain⟨xs,d,b,q⟩:=q;exact Mc a s σ H _ _ v us Q I c e ⟨_,xs,_,Z,Z,d,b,q⟩
 ·exact q.elim
def vd(K:W.Frag):V->List V->Hp->VK->Prop:=λx vs H Q=>match x,vs with
 | .ref l,[.ref b]=>∃xs zs,H l=some (.lst xs)/\H b=some (.lst zs)/\xs.length+zs.length<=sizeLine/\Q .non (upd H l (.lst (xs++zs)))
 | _,_=>False
def MT:gz X "list.extend" (vd X.K):=by
 intro a s σ H x vs v us Q I d f q;unfold vd at q
 split at q
 ·obtain⟨xs,zs,e,b,c,q⟩:=q;exact L8 a s σ H _ _ v us Q I d f ⟨_,_,xs,zs,Z,Z,e,b,c,q⟩
 ·exact q.elim
end
structure bC (P:Program) (w:World) (K:W.Frag) (mg:Str->Option Value) (base:Heap) (x:Str) (k:Nat) (f:Addr) (fd:FuncData) (ps:List Str) (sp:Sp):Prop where
 gm:mg x=some (.ref f)
 kp:W.keepIn K (.ref f)=true
 b:ax K fd ps []
 ok:bN P w K mg base cn k f fd ps sp
section
variable {X:Cx}{k j:Nat}{f:Addr}{fd:FuncData}{ps:List Str}{sp:Sp}{x:Str}{p pos:Pos}{e:Expr}{es:List Expr}{t:TA}
def Ru(F:bC X.prog X.w X.K X.mg X.base x j f fd ps sp)(h:bV k X.A)(i:PA X (e::es) t)(d:j<=k:=by decide)(g:Gl X x:=by rfl)
 (a:(x == ("__debug__" : Str))=false:=by decide) (c:dA (e::es)=true:=by rfl) :
 PE X (.Call (.Name x p) (e::es) [] pos) (tF sp [] E0 t):=Lj F.ok (h.mono d) g F.gm F.kp F.b .nil Lo i a (cv (dz c).1) (hZ (dz c).2)
def Rt{id:String}{r:List V->Hp->VK->Prop}(g:ck X (.builtin id) r)(f:X.mg x=none)(c:bootBuiltins x=some (.builtin id))(h:PA X (e::es) t)(d:Gl X x:=by rfl)(hx:x ≠ "__name__":=by decide)(a:(x == ("__debug__" : Str))=false:=by decide)
 (b:dA (e::es)=true:=by rfl):PE X (.Call (.Name x p) (e::es) [] pos) (j6 r t):=Li g d f c h hx a (cv (dz b).1) (hZ (dz b).2)
def Rr{T:String}{r:List V->Hp->VK->Prop}(g:ck X (.type T) r)(f:X.mg x=none)(c:bootBuiltins x=some (.type T))(h:PA X (e::es) t)(d:Gl X x:=by rfl)(hx:x ≠ "__name__":=by decide)(a:(x == ("__debug__" : Str))=false:=by decide)
 (b:dA (e::es)=true:=by rfl):PE X (.Call (.Name x p) (e::es) [] pos) (j6 r t):=Lh g d f c h hx a (cv (dz b).1) (hZ (dz b).2)
def gi{n:Int}{u:Tok}(a:X.mg x=some (.int n u))(b:Gl X x:=by rfl)(hd:(x == ("__debug__" : Str))=false:=by decide):PE X (.Name x pos) (tC (.int n)):=BP b a ⟨u,rfl⟩ hd
end
def gv(cells:List (Str × Addr)):List (Str × NameKind)->List (Str × Addr)->List (Str × Addr)
 | [],acc=>acc
 | (n,k)::r,acc=>gv cells r (if (k == NameKind.free)=true then (n,(cells.lookup n).getD 0)::acc else acc)
def D3{scope:Scope}{env:Env}(h:∀n,(n,NameKind.free)∈scope.names->∃c,env.cells.lookup n=some c):closureFor scope env=pure (gv env.cells scope.names []):=by
 unfold closureFor;have key:∀(l:List (Str × NameKind)) (a:List (Str × Addr)),(∀n,(n,NameKind.free)∈l->∃c,env.cells.lookup n=some c) ->
  (forIn l a (λx __s=>match x with
    | (name,kind) =>
     if (kind == NameKind.free)=true then do
      let __do_lift <- cellOf env name
      pure (ForInStep.yield ((name,__do_lift)::__s))
     else pure (ForInStep.yield __s)):Sem (List (Str × Addr)))=pure (gv env.cells l a):=by
  intro l
  induction l with
  | nil=>intro a _;rfl
  | cons x r ih =>
   intro a hf;obtain⟨n,k⟩:=x;have d:∀n,(n,NameKind.free)∈r->∃c,env.cells.lookup n=some c:=λn g=>hf n (Vx _ g);rw[List.forIn_cons];by_cases hk:(k == NameKind.free)=true
   ·have b:k=NameKind.free:=by simpa using hk
    subst b;obtain⟨c,f⟩:=hf n Vz;have e:cellOf env n=pure c:=by unfold cellOf;rw[f]
    show (if (NameKind.free == NameKind.free)=true then _ else _) >>= _=_;rw[X9 hk,e];show (forIn r ((n,c)::a) _:Sem (List (Str × Addr)))=_;rw[ih _ d];show _=pure (gv env.cells r (if (NameKind.free == NameKind.free)=true then (n,(List.lookup n env.cells).getD 0)::a else a));rw[X9 hk,f]
    rfl
   ·show (if (k == NameKind.free)=true then _ else _) >>= _=_;rw[X8 hk];show (forIn r a _:Sem (List (Str × Addr)))=_;rw[ih _ d];show _=pure (gv env.cells r (if (k == NameKind.free)=true then _ else a));rw[X8 hk]
 show (forIn scope.names [] _ >>= _:Sem (List (Str × Addr)))=_;rw[key _ _ h]
 rfl
theorem xG{cells:List (Str × Addr)}:∀(l:List (Str × NameKind)) (a:List (Str × Addr)) (x:Str) (c:Addr),(gv cells l a).lookup x=some c->(∀n,(n,NameKind.free)∈l->∃c,cells.lookup n=some c)->((x,NameKind.free)∈l/\cells.lookup x=some c)\/a.lookup x=some c
 | [],a,x,c,h,_=>.inr h
 | (n,k)::r,a,x,c,h,hf=>by
  have g:∀n,(n,NameKind.free)∈r->∃c,cells.lookup n=some c:=λn i=>hf n (Vx _ i);rcases xG r _ x c h g with ⟨h1,h2⟩|h1
  ·exact .inl ⟨Vx _ h1,h2⟩
  ·by_cases hk:(k == NameKind.free)=true
   ·rw[X9 hk]at h1;have b:k=NameKind.free:=by simpa using hk
    subst b;obtain⟨c',f⟩:=hf n Vz;rw[f]at h1;rw[VR]at h1;by_cases e:(x == n)=true
    ·rw[e]at h1;have d:x=n:=by simpa using e
     subst d;have:c'=c:=Vy h1;subst this;exact .inl ⟨Vz,f⟩
    ·have d:(x == n)=false:=by simpa using e
     rw[d]at h1;exact .inr h1
   ·rw[X8 hk]at h1;exact .inr h1
theorem xH{cells:List (Str × Addr)}:∀(l:List (Str × NameKind)) (a:List (Str × Addr)) (x:Str),((x,NameKind.free)∈l\/∃c,a.lookup x=some c)->∃c,(gv cells l a).lookup x=some c
 | [],a,x,h=>by
  rcases h with h|h
  ·cases h
  ·exact h
 | (n,k)::r,a,x,h=>by
  unfold gv;refine xH r _ x ?_;rcases h with h|⟨c,h⟩
  ·rcases Vr.mp h with e|e
   ·cases e;exact .inr ⟨_,by simp;rfl⟩
   ·exact .inl e
  ·refine .inr ?_;by_cases hk:(k == NameKind.free)=true
   ·rw[X9 hk,VR];cases (x == n)
    ·exact⟨c,h⟩
    ·exact⟨_,Z⟩
   ·rw[X8 hk];exact⟨c,h⟩
section
variable {prog:Program}{w:World}{A:Around}{s:fy}{R:Result->fy->Prop}
def Rj{e a b:Expr}{f:List Expr}{scope:Scope}{pos:Pos}{it d:Value}{env:Env}(I:Nat->fy->Prop)
 (g:∀n s,I n s->wpAny (model prog w) A (pyNext it) (λr k=>match r with
   | none=>R (.ok .next) k
   | some v=>wpAny (model prog w) A (letOwnedTupleGo a it v) (λ_ i=>wpAny (model prog w) A (assign a env v) (λ_ u =>
    wpAny (model prog w) A (forIn f true λc r=>if r=true then do let ok <- isTrue c env (eval c env);pure (ForInStep.yield ok) else pure (ForInStep.yield r)) (λok l =>
     if ok=true then wpAny (model prog w) A (eval e env) (λx p =>
      wpAny (model prog w) A (call (.builtin "list.append") [d,x]) (λ_ o=>∃m,m<n/\I m o) (λ_ _=>False) p) (λ_ _=>False) l
     else ∃m,m<n/\I m l) (λ_ _=>False) u) (λ_ _=>False) i) (λ_ _=>False) k) (λ_ _=>False) s)
 (n:Nat) (h:I n s) :
 codeAny (model prog w) A (.compLoop (.ListComp e [⟨a,b,f,0⟩] scope pos) 0 it d env) R s:=by
 refine codeAny_loop Z I (λn s hI=>?_) n h;show wpAny _ A ((compTurn (.ListComp e [⟨a,b,f,0⟩] scope pos) 0 it d env).onRaise (λx=>do noteFrame x env;theTreesLotGoes x)) _ _ s;refine wpAny_noted ?_;rw[compTurn_list];refine on (wpAny_standAt (on (wpAny_mono (g n s hI) (λr k y=>?_) λ_ _ h'=>h'.elim)));cases r with
 | none=>exact X7 y
 | some v =>
  refine on (wpAny_mono y (λ_ i j=>?_) λ_ _ h'=>h'.elim);refine on (wpAny_mono j (λ_ u z=>on (wpAny_mono z (λok l q=>?_) λ_ _ h'=>h'.elim)) λ_ _ h'=>h'.elim);cases ok with
  | false=>exact X7 ⟨rfl,q⟩
  | true =>
   exact on (on (wpAny_mono q (λx p B=>on (wpAny_mono B (λ_ o C=>X7 (X7 ⟨rfl,C⟩)) λ_ _ h'=>h'.elim)) λ_ _ h'=>h'.elim))
end
def c6(X:Cx)(Nc:List Str)(scope:Scope)(C:Addr)(s:fy)(H:Hp)(fp:List Addr):Cx where
 prog:=X.prog
 w:=X.w
 K:=X.K
 mg:=X.mg
 base:=X.base
 A:=X.A
 N:=Nc
 s₀:=s
 H₀:=H
 env:=compEnvC scope (gv X.env.cells scope.names []) C X.env
 outer:=X.stack
 stack:=X.stack
 ex:=fp
 fn:=λ_=>false
 calm:=X.calm
 pn:=X.pn
 xe:=λ_ _=>False
def mU(X:Cx)(b:List Expr)(t:TT):Prop :=
 ∀(a:List (Addr × Obj)) (s:fy) (σ:St) (H:Hp) (Q:Bool->Hp->Prop),af X a σ H s->t σ H Q ->
  wpAny (model X.prog X.w) X.A (forIn b true λc r=>if r=true then do let ok <- isTrue c X.env (eval c X.env);pure (ForInStep.yield ok) else pure (ForInStep.yield r)) (TP X a σ Q) X.xe s
def gW:TT:=λ_ H Q=>Q true H
def Kf{X:Cx}:mU X [] gW:=λ_ _ _ H _ I h=>wpAny_tests_nil ⟨H,I,h⟩
def Ke{X:Cx}{c:Expr}{t:TT}(h:PT X c t):mU X [c] t:=λa s σ H Q I q=>wpAny_tests_one (h a s σ H Q I q)
def bM.adopt{P:Program}{w:World}{H:Hp}{h:Heap}{a:Addr}{o:HO}(x:bM P w H h)(d:H a=none)(new:bK P w (upd H a o) h a o):bM P w (upd H a o) h:=λb u e=>by
 by_cases hb:b=a
 ·subst hb;rw[aX]at e;cases e;exact new
 ·rw[au hb]at e;exact (x b u e).stay (λc v _ q=>q) (λc q=>by rw[au (aO q d)];exact q) λc xs q=>by rw[au (aO q d)];exact q
def jv(J:It)(e:Hp)(j:St)(g:TG)(d:TT)(h:TE)(Q:VK):Prop:=∃W:Nat->Nat->List V->St->Hp->Prop,
 (∃m,W 0 m [] j e)/\∀i m ys σ1 H2,W i m ys σ1 H2 ->
   (J.stop i H2/\ys.length<=sizeLine/\∀p H',bz H2 p (.lst ys) H'->Q (.ref p) H') \/
   (J.go i H2/\ys.length<sizeLine/\∃Nx:List V->St->Hp->Prop,(∀ys' σ' H',Nx ys' σ' H'->∃m',m'<m/\W (i+1) m' ys' σ' H') /\
     ∀x H',J.yld i H2 x H'->g x σ1 H' λa f=>d a f λb c=>if b=true then h a c λy k=>Nx (ys++[y]) a k else Nx ys a c)
def pR(nv:Nat)(caps:List Nat)(d:TI)(g:TG)(a:TT)(c:TE):TE:=λσ H Q=>d σ H λJ b=>jv J b (List.replicate nv none++caps.map λj=>(σ[j]?).join) g a c Q
structure dG (X:Cx) (Nc:List Str) (nv:Nat) (caps:List Nat) (scope:Scope):Prop where
 kind:scope.kind=.function
 nocell:∀y∈scope.names,y.2 ≠ .cell
 names:∀y∈scope.names,y.2=.local->scope.names.lookup y.1=some .local
 free:∀n,(n,NameKind.free)∈scope.names->X.env.kindOf n=some .cell\/X.env.kindOf n=some .free
 len:Nc.length=nv+caps.length
 cap:∀k j,caps[k]? = some j->∃x,Nc[nv+k]? = some x/\X.N[j]? = some x/\scope.names.lookup x=some .free
def D1(fns:List (Str × NameKind))(N Nc:List Str)(nv:Nat)(caps:List Nat)(a:Scope):Bool :=
 (a.kind == .function) && (a.names.all λy=>!(y.2 == .cell)) && (a.names.all λy=>!(y.2 == .local) || a.names.lookup y.1 == some .local) &&
 (a.names.all λy=>!(y.2 == .free) || (fns.lookup y.1 == some .cell || fns.lookup y.1 == some .free)) && (Nc.length == nv+caps.length) &&
 ((List.range caps.length).all λk=>match caps[k]?,Nc[nv+k]? with
   | some j,some x=>N[j]? == some x && a.names.lookup x == some .free
   | _,_=>false)
def dG.of{X:Cx}{fns:List (Str × NameKind)}{N Nc:List Str}{nv:Nat}{caps:List Nat}{b:Scope}(hf:X.env.scope.names=fns)(hN:X.N=N)(h:D1 fns N Nc nv caps b=true):dG X Nc nv caps b:=by
 unfold D1 at h;simp only [VB]at h;obtain⟨⟨⟨⟨⟨o,f⟩,l⟩,c⟩,g⟩,i⟩:=h;refine⟨by simpa using o,λy a e=>?_,λy a e=>?_,λn m=>?_,by simpa using g,λk j e=>?_⟩
 ·have:=WD.mp f y a;rw[e]at this;simp at this
 ·have:=WD.mp l y a;rw[e]at this;simpa using this
 ·have:=WD.mp c _ m;show X.env.scope.names.lookup n=some .cell\/X.env.scope.names.lookup n=some .free;rw[hf];simpa using this
 ·have d:k<caps.length:=(Vh.mp e).1;have:=WD.mp i k (V5.mpr d);rw[e]at this;cases ex:Nc[nv+k]? with
  | none=>rw[ex]at this;simp at this
  | some x =>
   rw[ex]at this;simp only [VB]at this;exact⟨x,rfl,by rw[hN];simpa using this.1,by simpa using this.2⟩
theorem qE{env:Env}:∀ {names:List (Str × NameKind)} {x:Str} {k:NameKind},
 (names.map λ(n,k)=>if (k == NameKind.free && env.scope.kind == .function && env.kindOf n == some .cell) then (n,NameKind.cell) else (n,k)).lookup x=some k ->
 ∃k0,names.lookup x=some k0/\(k=k0\/(k0=.free/\k=.cell))
 | [],_,_,h=>by simp at h
 | (n,k0)::r,x,k,h=>by
  have h':List.lookup x ((if (k0 == NameKind.free && env.scope.kind == .function && env.kindOf n == some .cell)=true then (n,NameKind.cell) else (n,k0)) ::
   r.map λ(n,k)=>if (k == NameKind.free && env.scope.kind == .function && env.kindOf n == some .cell) then (n,NameKind.cell) else (n,k))=some k:=h
  cases hx:x == n with
  | true =>
   refine⟨k0,by simp[VR,hx],?_⟩;by_cases hc:(k0 == NameKind.free && env.scope.kind == .function && env.kindOf n == some .cell)=true
   ·rw[X9 hc,VR,hx]at h';have:NameKind.cell=k:=Vy h';refine .inr ⟨?_,this.symm⟩;rw[VB,VB]at hc;simpa using hc.1.1
   ·rw[X8 hc,VR,hx]at h';exact .inl (Vy h').symm
  | false =>
   have b:(r.map λ(n,k)=>if (k == NameKind.free && env.scope.kind == .function && env.kindOf n == some .cell) then (n,NameKind.cell) else (n,k)).lookup x=some k:=by
    by_cases hc:(k0 == NameKind.free && env.scope.kind == .function && env.kindOf n == some .cell)=true
    ·rw[X9 hc,VR,hx]at h';exact h'
    ·rw[X8 hc,VR,hx]at h';exact h'
   obtain⟨k1,a,c⟩:=qE b;exact⟨k1,by simp[VR,hx,a],c⟩
def jn{a b n:Addr}(h:a<n)(h':n<=b):a≠b:=Vi (Vd h h')
theorem nU{α β:Type}[BEq α][LawfulBEq α]:∀ {l:List (α × β)} {x:α} {k:β},l.lookup x=some k->(x,k)∈l
 | [],_,_,h=>by simp at h
 | (n,k0)::r,x,k,h=>by
  cases hx:x == n with
  | true =>
   simp only [VR,hx]at h;cases h;have e:x=n:=by simpa using hx
   subst e;exact Vz
  | false =>
   simp only [VR,hx]at h;exact Vx _ (nU h)
section
variable {X:Cx}{elt tg iter:Expr}{ifs:List Expr}{scope:Scope}{Nc:List Str}{nv:Nat}{caps:List Nat}
def NI{f:List (Addr × Obj)}{σ:St}{H:Hp}{s:fy}{fp:List Addr}{R:Heap}{tk:Nat}{D C:Addr}{m:Str->Option Value}(S:dG X Nc nv caps scope)(I:af X f σ H s)
 (hf:∀b∈fp,gC X f H b) (Y:∀b∈fp,b<s.heap.objs.size) (hD:s.heap.objs.size<=D) (hC:s.heap.objs.size<=C) (hDC:D≠C) (hn:R.Ns C m) {oD:Obj} (hDo:R.get? D=some oD) (hDd:∀v,oD.data ≠ .cell v) (g:∀b o,s.heap.get? b=some o->R.get? b=some o) :
 af (c6 X Nc scope C s H fp) (f++[(D,oD)]) (List.replicate nv none++caps.map λj=>(σ[j]?).join) H { s with heap:=R,toks:=tk }:=by
 have F:∀n,(n,NameKind.free)∈scope.names->∃c,X.env.cells.lookup n=some c:=λn L=>I.ok.has n (S.free n L);have clX:∀x c,(gv X.env.cells scope.names []).lookup x=some c->(x,NameKind.free)∈scope.names/\X.env.cells.lookup x=some c:=λx c e=>by
  rcases xG _ _ _ _ e F with h|h
  ·exact h
  ·simp at h
 have V:∀b∈cJ X.stack,b<s.heap.objs.size:=λb hb=>by
  obtain⟨_,o,ho,_⟩:=I.stack.mem hb;exact Vb ho
 have cellLt:∀x c,X.env.cells.lookup x=some c->c<s.heap.objs.size:=λx c e=>by
  obtain⟨v,q⟩:=I.cell x c e;exact q.lt
 refine⟨⟨I.ok.mod,S.kind,I.ok.glob,I.ok.blt,hC,λx y c W U=>I.ok.inj x y c (clX x c W).2 (clX y c U).2,λx hx=>?_,λx c z=>Ya z (by show ¬(false=true);decide),I.ok.hd,I.ok.frames,.inl rfl,λb hb=>⟨?_,λx c e z=>?_⟩,λb o e=>I.bs b o e,Vs I.ok.bsz I.sz,λb o e hb=>?_,λb hb z=>?_,I.stack,I.stkFree⟩,
  rfl,I.bare,Un.kept g,⟨m,hn,λi x v h1 J h3=>?_⟩,λx c e=>?_,I.hok.fresh hC,λx c e=>I.freeC x c (clX x c e).2,λp hp=>?_,I.hok.kept g,?_⟩
 ·-- a cell or free name of the block has its cell
  have l:(relabel scope X.env).names.lookup x=some .cell\/(relabel scope X.env).names.lookup x=some .free:=hx;have L:(x,NameKind.free)∈scope.names:=by
   rcases l with l|l
   ·obtain⟨k0,e,z⟩:=qE l;rcases z with z|⟨z,_⟩
    ·subst z;exact Ya Z (S.nocell _ (nU e))
    ·subst z;exact nU e
   ·obtain⟨k0,e,z⟩:=qE l;rcases z with z|⟨_,z⟩
    ·subst z;exact nU e
    ·cases z
  exact xH _ _ _ (.inl L)
 ·exact Vi (Vd (Y b hb) hC)
 ·exact (hf b hb).2.2.2.2.1 x c (clX x c e).2 z
 ·have hx:=(hf b hb).2.2.2.1;rcases hx with z|z
  ·exact I.ok.noex b o e z
  ·exact Ya (Vd (Vd (Vb e) I.ok.bsz) z) (VJ _)
 ·rcases Vr.mp (I.stkSub b z) with q|q
  ·exact (hf b hb).2.1 q
  ·exact (hf b hb).2.2.1 q
 ·-- the names' values
  have hi:nv<=i:=by
   refine Nat.le_of_not_lt λB=>?_;rw[V2 (by simpa using B),XE,X9 B]at J;cases J
  obtain⟨k,rfl⟩:=Nat.le.dest hi;rw[VZ (by simp)]at J;simp only [Xi,WE,Vf]at J;cases ek:caps[k]? with
  | none=>rw[ek]at J;cases J
  | some j =>
   rw[ek]at J;have r:(σ[j]?).join=some v:=Vy J;have hσ:σ[j]? = some (some v):=by
    cases e:σ[j]? with
    | none=>rw[e]at r;cases r
    | some z=>rw[e]at r;cases z with
     | none=>cases r
     | some z=>have:z=v:=Vy r;rw[this]
   obtain⟨y,W,U,e3⟩:=S.cap k j ek;have M:Nc[nv+k]? = some x:=h1;rw[W]at M;cases M;have L:=nU e3;have hk:=S.free x L;obtain⟨m0,a5,hl⟩:=I.loc;obtain⟨u,ru,lk⟩:=hl j x v U hσ (by
    rcases hk with z|z
    ·exact .inr (.inl z)
    ·exact .inr (.inr z))
   refine⟨u,ru,?_⟩;rcases lk with ⟨z,_⟩|⟨_,c,hc,hcell⟩
   ·rcases hk with G|G<;>rw[z]at G<;>cases G
   ·refine .inr ⟨?_,c,?_,hcell.keeps g⟩
    ·rcases h3 with z|z|z
     ·exfalso
      obtain⟨k0,e,G⟩:=qE (show (relabel scope X.env).names.lookup x=some .local from z);rw[e3]at e;cases e;rcases G with G|⟨_,G⟩<;>cases G
     ·exact .inl z
     ·exact .inr z
    ·obtain⟨c',N⟩:=xH (cells:=X.env.cells) scope.names [] x (.inl L);rw[(clX x c' N).2]at hc;cases hc;exact N
 ·obtain⟨v,z⟩:=I.cell x c (clX x c e).2;exact⟨v,z.keeps g⟩
 ·-- f
  have O:p∈X.pn++(f++[(D,oD)]):=hp;rw[<- VF]at O;rcases Vm.mp O with z|z
  ·obtain⟨e,n,ne,nf,d⟩:=I.pin p z;have B:=Vb e;refine⟨g _ _ e,n,Vi (Vd B hC),λq=>?_,d⟩;rcases Vr.mp (I.stkSub p.1 q) with q|q
   ·exact ne q
   ·exact nf q
  ·have e:p=(D,oD):=by simpa using z
   subst e;exact⟨hDo,I.hok.fresh hD,hDC,λq=>Ya (Vd (V _ q) hD) (VJ _),hDd⟩
 ·show (List.replicate nv none++caps.map λj=>(σ[j]?).join).length=Nc.length;rw[Vc,Xi,U9,S.len]
abbrev iO(its:List Value)(n:Nat):Obj:={ cls:=.type "list",data:=.seq its.toArray n }
def Co(a:List Value)(n:Nat):∀v,(iO a n).data ≠ .cell v:=λv z=>by
 have b:Data.seq a.toArray n=Data.cell v:=z;cases b
def DZ{g:TG}{tt:TT}{te:TE}{pos:Pos}{a:List (Addr × Obj)}{σ:St}{H:Hp}{s:fy}{Q:VK}{E:Value->fy->Prop}{RR:Value->Addr->Result->fy->Prop}(hc:X.calm=true)(S:dG X Nc nv caps scope)
 (hg:∀C s H fp,PG (c6 X Nc scope C s H fp) tg g) (ht:∀C s H fp,mU (c6 X Nc scope C s H fp) ifs tt) (he:∀C s H fp,PE (c6 X Nc scope C s H fp) elt te)
 {it:Addr} {fp:List Addr} {tn:Nat->Heap->Prop} {J:It} (I:af X a σ H s) (T:jo X.prog X.w X.K tg J fp it tn) (st:tn 0 s.heap) (hf:∀b∈fp,gC X a H b)
 {W:Nat->Nat->List V->St->Hp->Prop} {m0:Nat} (w0:W 0 m0 [] (List.replicate nv none++caps.map λj=>(σ[j]?).join) H)
 (ah:∀i m ys O H2,W i m ys O H2->(J.stop i H2/\ys.length<=sizeLine/\∀p B,bz H2 p (.lst ys) B->Q (.ref p) B) \/
   (J.go i H2/\ys.length<sizeLine/\∃Nx:List V->St->Hp->Prop,(∀ys' σ' B,Nx ys' σ' B->∃m',m'<m/\W (i+1) m' ys' σ' B) /\
     ∀x B,J.yld i H2 x B->g x O B λσ2 H3=>tt σ2 H3 λb H4=>if b=true then te σ2 H4 λy H5=>Nx (ys++[y]) σ2 H5 else Nx ys σ2 H4))
 (hRR:∀(D C:Addr) (s1:fy) (B:Hp),af X a σ B s1->gC X a B C->(∃m,s1.heap.Ns C m)->Q (.ref D) B->RR (.ref D) C (.ok .next) s1) :
 wpAny (model X.prog X.w) X.A (newList []) (λak s₃=>wpAny (model X.prog X.w) X.A (newFunctionEnv scope X.env.globals (gv X.env.cells scope.names []) [] X.env.qual none .none (some X.env)) (λa3 s₄ =>
  codeAny (model X.prog X.w) X.A (.compStart (.ListComp elt [⟨tg,iter,ifs,0⟩] scope pos) 0 (.ref it) ak { a3 with scope:=relabel scope X.env }) (RR ak a3.locals) s₄) E s₃) E s:=by
 refine wpAny_newObj_type (wpAny_newFunctionEnv S.nocell (by intro y hy;simp at hy) (λh₁ G k=>?_) S.kind);dsimp only at G k ⊢;generalize hH2:s.heap.push { cls:=.type "list",dict:=none,data:=.seq ([]:List Value).toArray }=h2 at G k ⊢;have hC:h2.objs.size=s.heap.objs.size+1:=by rw[<- hH2,Wf]
 have hDC:s.heap.objs.size≠h2.objs.size:=by rw[hC];exact Vi (Vv _)
 have hCle:s.heap.objs.size<=h2.objs.size:=by rw[hC];exact Wg _
 have a8:∀b o,s.heap.get? b=some o->h₁.get? b=some o:=λb o e=>k.extBut b o (Vi (Vd (Vb e) hCle)) (Vg _ (hH2 ▸ Vg _ e));have a1:h₁.get? s.heap.objs.size=some (iO [] 0):=k.extBut _ _ hDC (Vg _ (hH2 ▸ VH _ rfl));have a0:∀b∈fp,b<s.heap.objs.size:=λb hb=>by
  obtain⟨o,ho,_⟩:=T.obj _ _ st b hb;exact Vb ho
 have aA:∀b∈cJ X.stack,b<s.heap.objs.size:=λb hb=>by
  obtain⟨_,o,ho,_⟩:=I.stack.mem hb;exact Vb ho
 have cellLt:∀x c,X.env.cells.lookup x=some c->c<s.heap.objs.size:=λx c e=>by
  obtain⟨v,q⟩:=I.cell x c e;exact q.lt
 have Y:∀n,(n,NameKind.free)∈scope.names->∃c,X.env.cells.lookup n=some c:=λn hm=>I.ok.has n (S.free n hm);have clX:∀x c,(gv X.env.cells scope.names []).lookup x=some c->X.env.cells.lookup x=some c:=λx c e=>by
  rcases xG _ _ _ _ e Y with h|h
  ·exact h.2
  ·simp at h
 have pinLt:∀p∈X.pn++a,p.1<s.heap.objs.size:=λp N=>Vb (I.pin p N).1;generalize hDD:s.heap.objs.size=D at a1 hDC ⊢;generalize hCC:h2.objs.size=C at hDC hCle G k ⊢;have leD:s.heap.objs.size<=D:=Wv hDD;have leC:s.heap.objs.size<=C:=by omega
 have a4:∀ {l:Hp} (o:Obj),(∀b∈fp,l b=none)->∀b∈fp,gC (c6 X Nc scope C s H fp) (a++[(D,o)]) l b:=λ{l} o hn b hb=>by
  refine⟨hn b hb,Vi (Vd (a0 b hb) leC),λz=>?_,.inl hb,λx c e z=>(hf b hb).2.2.2.2.1 x c (clX x c e) z,λp N=>?_⟩
  ·rcases Vr.mp (I.stkSub b z) with q|q
   ·exact (hf b hb).2.1 q
   ·exact (hf b hb).2.2.1 q
  ·have al:p∈X.pn++(a++[(D,o)]):=N;rw[<- VF]at al;rcases Vm.mp al with z|z
   ·exact (hf b hb).2.2.2.2.2 p z
   ·have e:p=(D,o):=by simpa using z
    subst e;exact λq=>jn (a0 b hb) leD q.symm
 have M:∀s₃:fy,s₃ = { s with heap:=h₁,toks:=s.toks+([]:List (Str × Value)).length } ->
  codeAny (model X.prog X.w) X.A (.compLoop (.ListComp elt [⟨tg,iter,ifs,0⟩] scope pos) 0 (.ref it) (.ref D) (compEnvC scope (gv X.env.cells scope.names []) C X.env)) (RR (.ref D) C) s₃:=by
  rintro s₃ rfl;refine Rj (λn s'=>∃(i:Nat) (ys:List V) (f:List Value) (U:Nat) (O:St) (l:Hp),af (c6 X Nc scope C s H fp) (a++[(D,iO f U)]) O l s'/\tn i s'.heap/\(∀b∈fp,l b=none)/\aJ ys f/\W i n ys O l) ?_ m0
   ⟨0,[],[],0,_,H,NI S I hf a0 leD leC hDC G a1 (Co _ _) a8,T.keep _ _ _ st λb _ o e=>a8 b o e,λb hb=>(hf b hb).1,.nil,w0⟩
  rintro n s' ⟨i,ys,f,U,O,l,I1,ag,ao,rv,w1⟩;have pinD:∀ {σ':St} {B:Hp} {a6:fy} {pl:List (Addr × Obj)},af (c6 X Nc scope C s H fp) ((a++[(D,iO f U)])++pl) σ' B a6->a6.heap.get? D=some (iO f U)/\B D=none:=λ{σ' B a6 pl} I'=>by
   have z:=I'.pin (D,iO f U) (VA _ (VQ _ (VA _ (by simp))));exact⟨z.1,z.2.1⟩
  rcases ah i n ys O l w1 with ⟨stop,hz,q⟩|⟨go,hz,Nx,hNx,step⟩
  ·refine aB (T.done (c6 X Nc scope C s H fp) Z Z Z hc i _ s' O l _ I1 (a4 _ ao) ag stop) λr s4 ζ=>?_;obtain⟨hr,I4⟩:=ζ;subst hr;obtain⟨eD,nD⟩:=pinD (pl:=[]) (by rw[VI];exact I4);obtain⟨m,hnC,_⟩:=I4.loc;have u4:Un (cJ X.stack) fp H l s.heap s4.heap:=I4.base;have dNone:s.heap.get? D=none:=Wu (Wv hDD);have noD:∀b o,s.heap.get? b=some o->b≠D:=λb o e z=>by rw[z,dNone]at e;cases e
   have u5:Un (cJ X.stack) fp H (upd l D (.lst ys)) s.heap s4.heap:=by
    refine⟨u4.keep,u4.slot,λb o e n hx=>?_,u4.there,λb xs e=>?_,λb o u e=>?_,λb ps e=>?_⟩
    ·rw[au (noD b o e)];exact u4.free b o e n hx
    ·have z:=u4.tups b xs e;rw[au (aO z nD)];exact z
    ·have z:=u4.frzs b o u e;rw[au (aO z nD)];exact z
    ·obtain⟨more,z⟩:=u4.tbls b ps e;exact⟨more,by rw[au (aO z nD)];exact z⟩
   have hok:bM X.prog X.w (upd l D (.lst ys)) s4.heap:=bM.adopt I4.hok nD ⟨hz,f,U,rv,eD⟩;have IX:af X a σ (upd l D (.lst ys)) s4:=I.call' I4.os u5 hok I4.bare λb hb=>⟨(hf b hb).2.2.2.1,(hf b hb).2.1,(hf b hb).2.2.2.2.1,(hf b hb).2.2.2.2.2⟩;have fpC:gC X a (upd l D (.lst ys)) C:=by
    have hl:X.env.locals<s.heap.objs.size:=I.lt;exact⟨by rw[au (Ne.symm hDC)];exact I4.free,(jn hl leC).symm,I.nofs leC,.inr (Vs I.sz leC),λx c e z=>jn (cellLt x c e) leC z,λp N z=>jn (pinLt p N) leC z⟩
   exact hRR D C s4 _ IX fpC ⟨m,hnC⟩ (q D _ (.mk' nD))
  ·refine aB (T.item (c6 X Nc scope C s H fp) Z Z Z hc i _ s' O l _ I1 (a4 _ ao) ag go) λr s4 ζ=>?_;obtain⟨u,hr,h4⟩:=ζ;subst hr;refine aB h4 λ_ s5 ζ=>?_;obtain⟨x,H5,I5,r5,y5,gD,aD⟩:=ζ;have aE:=I5.pinned (a4 _ aD) (T.obj _ _ gD);have back:∀ {σ7:St} {H7:Hp} {s7:fy},af (c6 X Nc scope C s H fp) ((a++[(D,iO f U)])++nN fp s5.heap) σ7 H7 s7->tn (i+1) s7.heap/\∀b∈fp,H7 b=none:=λ{σ7 H7 s7} I7=>by
    refine⟨T.keep _ _ _ gD λb hb o e=>(I7.pin (b,o) (VA _ (VA _ (qB hb e)))).1,λb hb=>?_⟩;obtain⟨o,e,d⟩:=T.obj _ _ gD b hb;exact (I7.pin (b,o) (VA _ (VA _ (qB hb e)))).2.1
   refine aB (hg _ _ _ _ _ s5 O H5 x u _ aE r5 (step x H5 y5)) λ_ s6 ζ=>?_;obtain⟨σ6,H6,I6,q6⟩:=ζ;refine aB (ht _ _ _ _ _ s6 σ6 H6 _ I6 q6) λb s7 ζ=>?_;obtain⟨H7,I7,q7⟩:=ζ;cases b with
   | false =>
    obtain⟨m',hm,w7⟩:=hNx _ _ _ q7;obtain⟨t7,f7⟩:=back I7;exact⟨m',hm,i+1,ys,f,U,σ6,H7,I7.unpinned,t7,f7,rv,w7⟩
   | true =>
    refine aB (he _ _ _ _ _ s7 σ6 H7 _ I7 q7) λR s8 ζ=>?_;obtain⟨y,H8,I8,r8,n8⟩:=ζ;obtain⟨m',hm,w8⟩:=hNx _ _ _ n8;obtain⟨t8,f8⟩:=back I8;obtain⟨eD,nD⟩:=pinD I8;have aI:=rv.length;refine call_meets F.slot_list_append ⟨_,eD,rfl⟩ F.entry_list_append (F.args_list_append_2 _ _) (PySem.list_append D f.toArray U R (by rw[Vl];omega)) ⟨eD,?_⟩;have ea:f.toArray.push R=(f++[R]).toArray:=by simp
    obtain⟨n9,e9⟩:∃n9,(s8.heap.update D (Obj.mapSeq (·.push R))).get? D=some (iO (f++[R]) n9):=⟨_,by
     have z:=PySem.IsL.update eD (·.push R);rw[ea]at z;exact z⟩
    have L:∀b o,b≠D->s8.heap.get? b=some o->(s8.heap.update D (Obj.mapSeq (·.push R))).get? b=some o:=λb o hb e=>(Wa _ _ (Ne.symm hb)).trans e;have az:∀b∈fp,b≠D:=λb hb z=>jn (a0 b hb) leD z;have aF:af (c6 X Nc scope C s H fp) a σ6 H8 s8:=I8.pins_of λp N=>I8.pin p (VA _ (VQ _ (VQ _ N)));have I9:=aF.turned (t':=s8.toks) (it:=D) L nD hDC (.inr leD) (λx c e z=>jn (cellLt x c (clX x c e)) leD z) (λp N z=>jn (pinLt p N) leD z);have t9:tn (i+1) (s8.heap.update D (Obj.mapSeq (·.push R))):=T.keep _ _ _ t8 λb hb o e=>L b o (az b hb) e;refine⟨m',hm,i+1,ys++[y],f++[R],n9,σ6,H8,I9.pins_of λp N=>?_,t9,f8,rv.append (.cons r8 .nil),w8⟩;rcases Vm.mp N with z|z
    ·exact I9.pin p (VA _ z)
    ·have e:p=(D,iO (f++[R]) n9):=by simpa using z
     subst e;exact⟨e9,nD,hDC,λq=>jn (aA _ q) leD Z,Co _ _⟩
 have aV:=λ(s₃:fy) (e:s₃ = { s with heap:=h₁,toks:=s.toks+([]:List (Str × Value)).length })=>M s₃ e;exact codeAny_compStart_list (M _ Z) (T.self _ 0 _ _ _ (T.keep _ _ _ st λb _ o e=>a8 b o e) (M _ Z))
def Lf{l:TI}{g:TG}{p:TT}{r:TE}{pos:Pos}(L:X.calm=true)(S:dG X Nc nv caps scope)(u:PI X tg iter l)
 (y:∀C s H fp,PG (c6 X Nc scope C s H fp) tg g) (ht:∀C s H fp,mU (c6 X Nc scope C s H fp) ifs p) (V:∀C s H fp,PE (c6 X Nc scope C s H fp) elt r)
 (hs:∀x,foldedSetIterable iter X.env x=pure x:=by intro _;rfl):PE X (.ListComp elt [⟨tg,iter,ifs,0⟩] scope pos) (pR nv caps l g p r):=by
 intro d s σ H Q I h;rw[eval_ListComp];have a:∀n,(n,NameKind.free)∈scope.names->∃c,X.env.cells.lookup n=some c:=λn M=>I.ok.has n (S.free n M);refine wpAny_comprehension_free (use:=none) Z hs (D3 a) S.kind S.names (aB (u d s σ H _ I h) λv s1 h1=>aB h1 λN s2 h2=>?_);obtain⟨it,fp,tn,J,H2,rfl,z,T,i,G,W,⟨m0,B⟩,f⟩:=h2;refine DZ (RR:=λj C=>compPost (model X.prog X.w) X.A X.xe none (EP X d σ Q) j C) L S y ht V z T i G B f λD C R H4 I4 fC k q=>?_;obtain⟨m,k⟩:=k;refine⟨m,k,λh' sb=>?_⟩;obtain⟨U,F,a6,O,f4,Y⟩:=fC;exact⟨.ref D,H4,I4.turned (t':=R.toks) (it:=C) (λb o hb e=>sb.extBut b o hb e) U F O f4 Y,Z,q⟩
def Kl{M:TI}{g:TG}{R:TT}{V:TE}{pos f k:Pos}{i:Nat}{y:Str}(hN:X.N.Nodup)(hy:X.N[i]? = some y)(hx:js X.env.scope y)(hc:X.calm=true)(S:dG X Nc nv caps scope)(Y:PI X tg iter M)
 (hg:∀C s H fp,PG (c6 X Nc scope C s H fp) tg g) (ht:∀C s H fp,mU (c6 X Nc scope C s H fp) ifs R) (he:∀C s H fp,PE (c6 X Nc scope C s H fp) elt V)
 (u:swapsWith (.ListComp elt [⟨tg,iter,ifs,0⟩] scope pos) (some (.Name y k)) f.line X.env=pure true:=by rfl)
 (hs:∀x,foldedSetIterable iter X.env x=pure x:=by intro _;rfl) (hf:X.fn y=true\/X.env.scope.names.lookup y=some .local:=by first|exact .inl rfl|exact .inr rfl|assumption) :
 PS X (.Assign [.Name y k] (.ListComp elt [⟨tg,iter,ifs,0⟩] scope pos) f) (j7 (pR nv caps M g R V) (bU i)):=by
 intro a s σ H B I h;have d:∀n,(n,NameKind.free)∈scope.names->∃c,X.env.cells.lookup n=some c:=λn hm=>I.ok.has n (S.free n hm);rw[exec_Assign_Name_used _ _ _ _ u];refine on (wpAny_standAt (on ?_));show wpAny _ X.A (do let _ <- comprehension (.ListComp elt [⟨tg,iter,ifs,0⟩] scope pos) scope X.env _ (newList []) false (eval iter X.env) (some (assign (.Name y k) X.env))) _ _ s;refine on (wpAny_mono (wpAny_comprehension_free (use:=some (assign (.Name y k) X.env)) (Q:=λ_ p=>SP X a B .next p) Z hs (D3 d) S.kind S.names
  (aB (Y a s σ H _ I h) λv s1 h1=>aB h1 λa8 s2 h2=>?_)) (λ_ p hq=>X7 (X7 hq)) λ_ _ e=>e)
 obtain⟨it,fp,tn,J,H2,rfl,I2,T,r,f2,W,⟨m0,w0⟩,l⟩:=h2;refine DZ (RR:=λG C=>compPost (model X.prog X.w) X.A X.xe (some (assign (.Name y k) X.env)) (λ_ p=>SP X a B .next p) G C) (Q:=λx H1=>bU i x σ H1 B.nx) hc S hg ht he I2 T r f2 w0 l λD C s4 H4 I4 fC L q=>?_;obtain⟨m,L⟩:=L;obtain⟨f0,O,am,f3,U,f5⟩:=fC;show wpAny _ X.A (assign (.Name y k) X.env (.ref D)) _ _ _;refine wpAny_assign_Name (AB I4 hN hy hx (show aR (.ref D) (.ref D) from rfl) (λs5 I5 j=>?_) hf);obtain⟨a5,j,F⟩:=j;have hCa:C≠a5:=by
  rcases F with z|z
  ·rw[z];exact O
  ·exact λe=>U _ _ z e.symm
 refine⟨m,L.sameBut j hCa,λh' sb=>?_⟩;exact⟨_,H4,I5.turned (t':=s5.toks) (it:=C) (λb o hb e=>sb.extBut b o hb e) f0 O f3 U f5,q⟩
end
def oX{K:W.Frag}{a:Addr}{xs:List V}{cs:St}{k:TT}{o:TE}{H:Hp}{Q:VK}(f:Nat->List V->Hp->Prop)(u:f 0 [] H)(v:∀i ys H,i<=xs.length->f i ys H->aH K H a xs/\ys.length<=i)(hz:xs.length<=sizeLine)
 (hs:∀i x ys H (N:List V->Hp->Prop),xs[i]? = some x->f i ys H->(∀c d,f (i+1) c d->N c d)->k (some x::cs) H λb n=>if b=true then o (some x::cs) n λy B=>N (ys++[y]) B else N ys n)
 (hd:∀ys H p d,f xs.length ys H->bz H p (.lst ys) d->Q (.ref p) d) :
 jv (iF K a) H (List.replicate 1 none++cs) (bU 0) k o Q:=by
 refine⟨λi m ys σ H=>m=xs.length-i/\i<=xs.length/\f i ys H/\∃h,σ=h::cs,⟨xs.length,by simp,Vq _,u,none,rfl⟩,?_⟩;rintro i m ys σ l ⟨rfl,s,p,h,rfl⟩;obtain⟨q,C⟩:=v i ys l s p;by_cases hlt:i<xs.length
 ·refine .inr ⟨⟨xs,xs[i],q,by simp[hlt]⟩,by omega,λc r d=>f (i+1) c d/\∃h,r=h::cs,λc r d ⟨j,e⟩=>⟨xs.length-(i+1),by omega,rfl,hlt,j,e⟩,λx d y=>?_⟩;obtain⟨e,y⟩:=y;subst e;exact hs i x ys d (λc d=>f (i+1) c d/\∃h,some x::cs=h::cs) (y xs q) p λ_ _ z=>⟨z,_,Z⟩
 ·have e:i=xs.length:=by omega
  subst e;exact .inl ⟨⟨xs,q,Va _⟩,by omega,λj d g=>hd ys l j d p g⟩
def Ri{lo:Int}{n:Nat}{cs:St}{j:TT}{o:TE}{H:Hp}{Q:VK}(d:Nat->List V->Hp->Prop)(s:d 0 [] H)(u:∀i ys H,i<=n->d i ys H->ys.length<=i)(hz:n<=sizeLine)
 (hs:∀i ys H (N:List V->Hp->Prop),i<n->d i ys H->(∀a c,d (i+1) a c->N a c)->j (some (.int (lo+i))::cs) H λb l=>if b=true then o (some (.int (lo+i))::cs) l λy v=>N (ys++[y]) v else N ys l)
 (hd:∀ys H p c,d n ys H->bz H p (.lst ys) c->Q (.ref p) c) :
 jv (iY lo n) H (List.replicate 1 none++cs) (bU 0) j o Q:=by
 refine⟨λi m ys σ H=>m=n-i/\i<=n/\d i ys H/\∃f,σ=f::cs,⟨n,by simp,Vq _,s,none,rfl⟩,?_⟩;rintro i m ys σ k ⟨rfl,r,p,f,rfl⟩;have B:=u i ys k r p;by_cases hlt:i<n
 ·refine .inr ⟨hlt,by omega,λa q c=>d (i+1) a c/\∃f,q=f::cs,λa q c ⟨h,e⟩=>⟨n-(i+1),by omega,rfl,hlt,h,e⟩,λx c y=>?_⟩;obtain⟨e,y⟩:=y;subst e y;exact hs i ys c (λa c=>d (i+1) a c/\∃f,some (V.int (lo+i))::cs=f::cs) hlt p λ_ _ z=>⟨z,_,Z⟩
 ·have e:i=n:=by omega
  subst e;exact .inl ⟨Va _,by omega,λh c g=>hd ys k h c p g⟩
def eZ{α:Type}(xs:List α)(lo a:Option Int):List α:=(xs.drop (HT.sIx xs.length 0 lo)).take (HT.sIx xs.length xs.length a-HT.sIx xs.length 0 lo)
def Ra{α β:Type}(f:α->β)(xs:List α)(lo a:Option Int):eZ (xs.map f) lo a=(eZ xs lo a).map f:=by
 unfold eZ;rw[U9,List.map_take,List.map_drop]
def DX{α:Type}(xs:List α)(k:Nat):eZ xs none (some (k:Int))=xs.take k:=by
 unfold eZ HT.sIx;simp only [Xp,Nat.sub_zero];have h:¬((k:Int)<0):=by omega
 rw[X8 h,WZ,<- Xq,Vw]
def rE{α:Type}(xs:List α)(k:Nat):eZ xs (some (k:Int)) none=xs.drop k:=by
 unfold eZ HT.sIx;have h:¬((k:Int)<0):=by omega
 dsimp only;rw[X8 h,WZ];by_cases hk:k<=xs.length
 ·rw[VV hk];exact VW (by simp)
 ·rw[Xr (by omega),List.drop_length,Xs,XL (by omega)]
def DY{α:Type}(xs:List α)(k m:Nat):eZ xs (some (k:Int)) (some ((k:Int)+(m:Int)))=(xs.drop k).take m:=by
 unfold eZ HT.sIx;have h:¬((k:Int)<0):=by omega
 have h':¬((k:Int)+(m:Int)<0):=by omega
 have e:((k:Int)+(m:Int)).toNat=k+m:=by omega
 dsimp only;rw[X8 h,X8 h',WZ,e];by_cases hk:k<=xs.length
 ·rw[VV hk];by_cases hm:k+m<=xs.length
  ·rw[VV hm,WE]
  ·rw[Xr (by omega),VW (by simp),VW (by simp;omega)]
 ·rw[Xr (by omega:xs.length<=k),List.drop_length,Xs,XL (by omega),Xs]
def gL(ns:e7)(lo a:Option Int):dR (ns.map V.int) lo a=(eZ ns lo a).map V.int:=Ra _ _ _ _
def rn(ns ms:e7):PyData.eqv (.list (ns.map PyData.int)) (.list (ms.map PyData.int))=decide (ns=ms):=by
 show PyData.eqvAll _ _=_;exact W.ked_eqvAll ns ms
def mS{K:W.Frag}{H:Hp}{a b:Addr}{ns ms:e7}{neg:Bool}{Q:VK}(d:aH K H a (ns.map V.int))(c:aH K H b (ms.map V.int))(q:Q (.bl (if neg then !decide (ns=ms) else decide (ns=ms))) H) :
 ow K neg (.ref a) (.ref b) H Q:=by
 refine⟨_,_,bA.lst d (cX.ints ns),bA.lst c (cX.ints ms),W.ke_shaped_ints ns,W.ke_shaped_ints ms,?_⟩;rw[rn];exact q
structure QE (X:Cx) (e:Expr) (t:TE):Prop where
 h:PE X e t
structure QT (X:Cx) (e:Expr) (t:TT):Prop where
 h:PT X e t
structure QW (X:Cx) (e:Expr) (t:TT):Prop where
 h:PW X e t
structure QA (X:Cx) (es:List Expr) (t:TA):Prop where
 h:PA X es t
structure QS (X:Cx) (st:Stmt) (t:TS):Prop where
 h:PS X st t
structure fM (X:Cx) (st:List Stmt) (t:TS):Prop where
 h:gb X st t
structure QG (X:Cx) (e:Expr) (t:TG):Prop where
 h:PG X e t
structure pF (X:Cx) (es:List Expr) (t:iC):Prop where
 h:pG X es t
structure QI (X:Cx) (tg e:Expr) (t:TI):Prop where
 h:PI X tg e t
structure QO (X:Cx) (e:Option Expr) (t:TO):Prop where
 h:PO X e t
structure sS (X:Cx) (es:List Expr) (t:TT):Prop where
 h:mU X es t
section
variable {X:Cx}{a b c e o:Expr}{es bQ:List Expr}{pos p p2:Pos}{ta tb tc te to:TE}{tA tB' tt:TT}{t tk:TA}
def ag{i j pos}:QE X (.Constant (.int i) j pos) (tC (.int i)):=⟨qk⟩
def dQ{b j pos}:QE X (.Constant (.bool b) j pos) (tC (.bl b)):=⟨BQ⟩
def bW{j pos}:QE X (.Constant .none j pos) (tC .non):=⟨BN⟩
def bc{x j pos}:QE X (.Constant (.str x) j pos) (tC (.str x)):=⟨BM⟩
def aa(i:Nat){x:Str}(hN:X.N[i]? = some x:=by rfl)(b:pA X.env.scope x:=by first|exact Or.inl rfl|exact Or.inr (Or.inl rfl)|exact Or.inr (Or.inr rfl))(hd:(x == ("__debug__" : Str))=false:=by decide)
 (a:(x == ("__classdict__" : Str))=false:=by decide):QE X (.Name x pos) (mV i):=⟨vv i hN b hd a⟩
def db{x:Str}{n:Int}{u:Tok}(a:X.mg x=some (.int n u))(b:Gl X x:=by rfl)(hd:(x == ("__debug__" : Str))=false:=by decide):QE X (.Name x pos) (tC (.int n)):=⟨gi a b hd⟩
def fS {x:Str} {v:V} {u:Value} (b:Gl X x) (a:X.mg x=some u) (r:aR v u) (hd:(x == ("__debug__" : Str))=false:=by decide):QE X (.Name x pos) (tC v):=⟨BP b a r hd⟩
def iL {x:Str} {T:String} (d:Gl X x) (b:X.mg x=none) (c:bootBuiltins x=some (.type T)) (a:x ≠ "__name__":=by decide) (hd:(x == ("__debug__" : Str))=false:=by decide):QE X (.Name x pos) (tC (.ty T)):=⟨RZ d b c a hd⟩
def ce{j:Int}{k:Nat}(c:QE X a ta)(b:0<j/\j<1073741824:=by decide):QE X (.BinOp a .FloorDiv (.Constant (.int j) k p) pos) (Cj j ta):=⟨M0 c.h b⟩
def bB{j:Int}{k:Nat}(c:QE X a ta)(b:0<j:=by decide):QE X (.BinOp a .Mod (.Constant (.int j) k p) pos) (qC j ta):=⟨MY c.h b⟩
def aE{c:Operator}{r:R2}(ho:be X (binaryOp c) r)(d:QE X a ta)(hb:QE X b tb):QE X (.BinOp a c b pos) (iI r ta tb):=⟨K4 ho d.h hb.h⟩
def Bz{b:UnaryOp}{r:V->Hp->VK->Prop}(ho:pB X (unaryOp b) r)(c:QE X a ta):QE X (.UnaryOp b a pos) (Ac r ta):=⟨K0 ho c.h⟩
def tY(b:QE X a ta):QE X (.UnaryOp .Not a pos) (Ci ta):=⟨MX b.h⟩
def fB(c:QE X a ta)(hb:QE X (.BoolOp .And (b::bQ) pos) tb):QE X (.BoolOp .And (a::b::bQ) pos) (Cl ta tb):=⟨M5 c.h hb.h⟩
def qd(c:QE X a ta)(hb:QE X (.BoolOp .Or (b::bQ) pos) tb):QE X (.BoolOp .Or (a::b::bQ) pos) (Ch ta tb):=⟨MW c.h hb.h⟩
def gE{op}(h:QE X a ta):QE X (.BoolOp op [a] pos) ta:=⟨K5 h.h⟩
def da{c:CmpOp}{r:R2}(ho:be X (compareOp c) r)(e:QE X a ta)(hb:QE X b tb)(d:behindInMarks c b=false):QE X (.Compare a [c] [b] pos) (iI r ta tb):=⟨Lg ho e.h hb.h d⟩
def mz{f d:CmpOp}{r g:R2}(ho:be X (compareOp f) r)(e:be X (compareOp d) g)(k:QE X a ta)(hb:QE X b tb)(j:QE X c tc)
 (i:lastMarks [f,d] [b,c]=false:=by with_unfolding_all rfl):QE X (.Compare a [f,d] [b,c] pos) (qD r g ta tb tc):=⟨M4 ho e k.h hb.h j.h i⟩
def i9(d:QT X c tA)(e:QE X a ta)(hb:QE X b tb):QE X (.IfExp c a b pos) (Aq tA ta tb):=⟨K9 d.h e.h hb.h⟩
def bY(h:QW X e tt):QT X e tt:=⟨PW.pt h.h⟩
def fQ(b:QT X a tA):QW X (.BoolOp .And [a] pos) tA:=⟨Ka b.h⟩
def dJ(b:QT X a tA):QW X (.BoolOp .Or [a] pos) tA:=⟨J8 b.h⟩
def fu(c:QT X a tA)(hb:QW X (.BoolOp .And (b::bQ) pos) tB'):QW X (.BoolOp .And (a::b::bQ) pos) (Ay tA tB'):=⟨Kb c.h hb.h⟩
def dw(c:QT X a tA)(hb:QW X (.BoolOp .Or (b::bQ) pos) tB'):QW X (.BoolOp .Or (a::b::bQ) pos) (Aj tA tB'):=⟨J9 c.h hb.h⟩
def fR(b:QT X a tA):QT X (.UnaryOp .Not a pos) (Ak tA):=⟨Kg b.h⟩
def aw{c:CmpOp}{r:R2}(ho:be X (compareOp c) r)(e:QE X a ta)(hb:QE X b tb)(d:behindInMarks c b=false):QT X (.Compare a [c] [b] pos) (mB (iI r ta tb)):=⟨L9 ho e.h hb.h d⟩
def nJ{f d:CmpOp}{r g:R2}(ho:be X (compareOp f) r)(e:be X (compareOp d) g)(k:QE X a ta)(hb:QE X b tb)(j:QE X c tc)
 (i:lastMarks [f,d] [b,c]=false:=by with_unfolding_all rfl):QT X (.Compare a [f,d] [b,c] pos) (mB (qD r g ta tb tc)):=⟨Mb ho e k.h hb.h j.h i⟩
def fz(h:QE X e te)(a:∀whole,isTrue e X.env whole=(do let v <- whole;standAt e.pos;holding [v] (truthy v)):=by intro _;rfl):QT X e (mB te):=⟨L5 h.h a⟩
def J1(h:QE X e te)(a:∀whole,isTrue e X.env whole=(do let v <- whole;standAt e.pos;holding [v] (truthy v)):=by intro _;rfl):QT X e (um X.K te):=⟨L6 h.h a⟩
def ae:QA X [] i4:=⟨BS⟩
def ad(b:QE X e te)(a:QA X es t)(hs:dg e=false:=by rfl):QA X (e::es) (j5 te t):=⟨BU b.h a.h hs⟩
def hU{vs:List V}(h:rS es=some vs):QA X es (tE vs):=⟨BT h⟩
def aM(h:QA X es t):QE X (.List es pos) (nS t):=⟨MZ h.h⟩
def bR{x1}(h:QA X es t):QE X (.Tuple es x1 pos) (ul t):=⟨MV h.h⟩
def BC:QE X (.Dict [] [] pos) Ck:=⟨M3⟩
def hG:QO X none Al:=⟨KI⟩
def dO(h:QE X e te):QO X (some e) (Ah te):=⟨KH h.h⟩
def fw{r:V->Option Int->Option Int->Hp->VK->Prop}{lo a:Option Expr}{c b:TO}(f:jq X r)(d:QE X e te)(g:QO X lo c)(i:QO X a b):QE X (.Subscript e (.Slice lo a none p2) pos) (Ae r te c b):=⟨K1 f d.h g.h i.h⟩
def ay{r:R2}(c:gA X r)(d:QE X a ta)(hb:QE X b tb)(hs:Ey b):QE X (.Subscript a b pos) (iI r ta tb):=⟨K8 c d.h hb.h hs⟩
section
variable {k j:Nat}{f:Addr}{fd:FuncData}{ps:List Str}{sp:Sp}{x:Str}
def aW(F:bC X.prog X.w X.K X.mg X.base x j f fd ps sp)(d:bV k X.A)(i:QA X (e::es) t)(b:j<=k:=by decide)(c:Gl X x:=by rfl)
 (a:(x == ("__debug__" : Str))=false:=by decide) (g:dA (e::es)=true:=by rfl):QE X (.Call (.Name x p) (e::es) [] pos) (tF sp [] E0 t):=⟨Ru F d i.h b c a g⟩
def bf{id:String}{r:List V->Hp->VK->Prop}(g:ck X (.builtin id) r)(d:X.mg x=none)(b:bootBuiltins x=some (.builtin id))(i:QA X (e::es) t)(c:Gl X x:=by rfl)(hx:x ≠ "__name__":=by decide)(a:(x == ("__debug__" : Str))=false:=by decide)
 (f:dA (e::es)=true:=by rfl):QE X (.Call (.Name x p) (e::es) [] pos) (j6 r t):=⟨Rt g d b i.h c hx a f⟩
def cw{T:String}{r:List V->Hp->VK->Prop}(g:ck X (.type T) r)(d:X.mg x=none)(b:bootBuiltins x=some (.type T))(i:QA X (e::es) t)(c:Gl X x:=by rfl)(hx:x ≠ "__name__":=by decide)(a:(x == ("__debug__" : Str))=false:=by decide)
 (f:dA (e::es)=true:=by rfl):QE X (.Call (.Name x p) (e::es) [] pos) (j6 r t):=⟨Rr g d b i.h c hx a f⟩
end
section
variable {name:Str}{apos cpos:Pos}{T id:String}{r:V->List V->Hp->VK->Prop}
def JZ (e:PlainAttrs T) (slot:Slot T name id) (c:typeOf (.builtin id)=pure (.type "method_descriptor")) (d:gz X id r) (ho:QE X o to)
 (a:attributeBase o name X.env (eval o X.env)=eval o X.env:=by rfl) (b:(apos.endLine == cpos.line)=true:=by rfl):QE X (.Call (.Attribute o name apos) [] [] cpos) (tG X.K T r to):=⟨Ll e slot c d ho.h a b⟩
theorem B6{env:Env}{pos:Pos}:∀ {es:List Expr},dA es=true->(backTo pos (starEach es env)).all (λx=>!x.1)=true
 | [],_=>rfl
 | e::r,h=>by
  obtain⟨b,a⟩:=dz h;rw[cv b];show (!false && (backTo pos (starEach r env)).all (λx=>!x.1))=true;rw[B6 a]
  rfl
def J0 (g:PlainAttrs T) (slot:Slot T name id) (d:typeOf (.builtin id)=pure (.type "method_descriptor")) (f:gz X id r) (ho:QE X o to) (i:QA X (e::es) t)
 (a:attributeBase o name X.env (eval o X.env)=eval o X.env:=by rfl) (c:dA (e::es)=true:=by rfl) (hf:decide ((e::es).length+0+0<30)=true:=by rfl)
 (b:(apos.endLine == cpos.line)=true:=by rfl):QE X (.Call (.Attribute o name apos) (e::es) [] cpos) (tH X.K T r to t) :=
 ⟨Lm g slot d f ho.h i.h a (by rw[B6 c];exact hf) b (cv (dz c).1) (hZ (dz c).2)⟩
end
section
variable {st:Stmt}{sts ss2:List Stmt}{s t1 u1:TS}{tg it:Expr}{g:TG}{gs:iC}{wi:TI}
def aG:fM X [] jz:=⟨Ki⟩
def ah(b:QS X st t1)(a:fM X sts u1):fM X (st::sts) (nj t1 u1):=⟨Kj b.h a.h⟩
def ai(a:QS X st t1):fM X [st] t1:=⟨Kh a.h⟩
def jM:QS X st Am:=⟨Kq⟩
def JU:QS X (.Break pos) Aw:=⟨KA⟩
def aq(a:QE X e te):QS X (.Return (some e) pos) (Ag te):=⟨Kn a.h⟩
def cY(a:QE X e te)(hs:swapsWith e none pos.line X.env=pure false:=by rfl):QS X (.Expr e pos) (At te):=⟨Kx a.h hs⟩
def aD(a:QT X c tA)(b:fM X sts t1)(hb:fM X ss2 u1):QS X (.If c sts ss2 pos) (Ap tA t1 u1):=⟨Kr a.h b.h hb.h⟩
def aF{i:Nat}{x:Str}{a:Pos}(hN:X.N.Nodup)(c:X.N[i]? = some x)(hx:js X.env.scope x)(b:QE X e te)(hs:swapsWith e (some (.Name x a)) pos.line X.env=pure false:=by rfl)(hf:X.fn x=true\/X.env.scope.names.lookup x=some .local:=by first|exact .inl rfl|exact .inr rfl|assumption) :
 QS X (.Assign [.Name x a] e pos) (j7 te (bU i)):=⟨Km hN c hx b.h hs hf⟩
def jN(a:QE X e te)(b:QG X tg g)(hs:swapsWithSole [tg] e pos.line X.env=pure false:=by rfl)(hw:swappedStores [tg] e X.env=pure none:=by rfl)
 (c:(assignEach [tg] X.env).map (·.2)=[assign tg X.env]:=by rfl):QS X (.Assign [tg] e pos) (j7 te g):=⟨KB a.h b.h hs hw c⟩
def bj{i:Nat}{x:Str}(hN:X.N.Nodup)(a:X.N[i]? = some x)(hx:js X.env.scope x)(hf:X.fn x=true\/X.env.scope.names.lookup x=some .local:=by first|exact .inl rfl|exact .inr rfl|assumption):QG X (.Name x pos) (bU i):=⟨KZ hN a hx hf⟩
def eT:pF X [] uT:=⟨KU⟩
def bP(b:QG X e g)(a:pF X es gs)(hs:(assignEach (e::es) X.env).map (·.2)=assign e X.env::(assignEach es X.env).map (·.2):=by rfl):pF X (e::es) (qZ g gs):=⟨KW b.h a.h hs⟩
def JY{k n:Nat}(c:X.calm=true)(h:pF X es gs)(b:(assignEach es X.env).length=n:=by rfl)(a:(assignEach es X.env).findIdx? (·.1)=none:=by rfl):QG X (.Tuple es k pos) (qX X.K n gs):=⟨KY c h.h b a⟩
def JX{l:Expr}{a:TE}(b:QE X l a):QI X tg l (uD X.K a):=⟨KR b.h⟩
def JW{l:Expr}{a:TE}(b:QE X l a):QI X tg l (uC X.K a):=⟨KN b.h⟩
def nH (d:Gl X "range") (b:X.mg "range" = none) (c:QA X [a] t) (hs:dg a=false:=by rfl):QI X tg (.Call (.Name "range" p) [a] [] pos) (CP t):=⟨KQ d b c.h (cv hs)⟩
def By (f:Gl X "range") (d:X.mg "range" = none) (e:QA X [a,b] t) (hs:dg a=false:=by rfl) (c:dg b=false:=by rfl):QI X tg (.Call (.Name "range" p) [a,b] [] pos) (CO t) :=
 ⟨KP f d e.h (by rw[cv hs,cv c];rfl) (cv c)⟩
def dy{body:List Stmt}{tb1:TS}(a:PassesOwn (model X.prog X.w) X.A X.env X.xe)(b:X.calm=true)(c:QI X tg it wi)(d:QG X tg g)(hb:fM X body tb1)
 (hs:∀x,foldedSetIterable it X.env x=pure x:=by intro _;rfl):QS X (.For tg it body [] pos) (Ar wi g tb1):=⟨Ks a b c.h d.h hb.h hs⟩
def JT{body:List Stmt}{tb1:TS}(a:PassesOwn (model X.prog X.w) X.A X.env X.xe)(b:QT X c tA)(hb:fM X body tb1):QS X (.While c body [] pos) (Aa tA tb1):=⟨Kk a b.h hb.h⟩
def gZ:sS X [] gW:=⟨Kf⟩
def Bt(h:QT X c tA):sS X [c] tA:=⟨Ke h.h⟩
def hJ{scope:Scope}{Nc:List Str}{nv:Nat}{caps:List Nat}{a:List Expr}(i:X.calm=true)(S:dG X Nc nv caps scope)(c:QI X tg it wi)
 (d:∀C s H fp,QG (c6 X Nc scope C s H fp) tg g) (f:∀C s H fp,sS (c6 X Nc scope C s H fp) a tt) (b:∀C s H fp,QE (c6 X Nc scope C s H fp) e te)
 (hs:∀x,foldedSetIterable it X.env x=pure x:=by intro _;rfl):QE X (.ListComp e [⟨tg,it,a,0⟩] scope pos) (pR nv caps wi g tt te) :=
 ⟨Lf i S c.h (λC s H fp=>(d C s H fp).h) (λC s H fp=>(f C s H fp).h) (λC s H fp=>(b C s H fp).h) hs⟩
def Bu{scope:Scope}{Nc:List Str}{nv:Nat}{caps:List Nat}{b:List Expr}{a d:Pos}{i:Nat}{y:Str}(hN:X.N.Nodup)(l:X.N[i]? = some y)(hx:js X.env.scope y)(n:X.calm=true)(S:dG X Nc nv caps scope)(j:QI X tg it wi)
 (k:∀C s H fp,QG (c6 X Nc scope C s H fp) tg g) (m:∀C s H fp,sS (c6 X Nc scope C s H fp) b tt) (f:∀C s H fp,QE (c6 X Nc scope C s H fp) e te)
 (c:swapsWith (.ListComp e [⟨tg,it,b,0⟩] scope pos) (some (.Name y d)) a.line X.env=pure true:=by rfl)
 (hs:∀x,foldedSetIterable it X.env x=pure x:=by intro _;rfl) (hf:X.fn y=true\/X.env.scope.names.lookup y=some .local:=by first|exact .inl rfl|exact .inr rfl|assumption) :
 QS X (.Assign [.Name y d] (.ListComp e [⟨tg,it,b,0⟩] scope pos) a) (j7 (pR nv caps wi g tt te) (bU i)) :=
 ⟨Kl hN l hx n S j.h (λC s H fp=>(k C s H fp).h) (λC s H fp=>(m C s H fp).h) (λC s H fp=>(f C s H fp).h) c hs hf⟩
end
end
section
variable {X:Cx}{K:W.Frag}{a b c e o:Expr}{es bQ:List Expr}{pos p p2:Pos}{ta tb tc te to:TE}{tA tB' tt:TT}{t tk:TA}
def az(h:X.K=K):gA X (fG K):=by subst h;exact PZ
def gl(h:X.K=K):jq X (Dw K):=by subst h;exact PH
def bo(h:X.K=K):be X (binaryOp .Add) (ve K):=by subst h;exact Qi
def bh(h:X.K=K)(a:X.A.units+64<cLine):be X (compareOp .Eq) (ow K false):=by subst h;exact Qb a
def fY(h:X.K=K)(a:X.A.units+64<cLine):be X (compareOp .NotEq) (ow K true):=by subst h;exact PV a
def jR(h:X.K=K):be X (compareOp .In) (qY K false):=by subst h;exact P9
def uQ(h:X.K=K):be X (compareOp .NotIn) (qY K true):=by subst h;exact PU
def bv (h:X.K=K):ck X (.builtin "len") (uW K):=by subst h;exact Rz
def gw (h:X.K=K):ck X (.type "list") (uV K):=by subst h;exact Ry
def sx (h:X.K=K):ck X (.type "tuple") (uR K):=by subst h;exact Rv
def RG (h:X.K=K) (a:X.calm=true):ck X (.builtin "all") (mP K false):=by subst h;exact RH a
def RE (h:X.K=K) (a:X.calm=true):ck X (.builtin "any") (mP K true):=by subst h;exact RF a
def jm (h:X.K=K):ck X (.builtin "isinstance") (uY K):=by subst h;exact RA
def MS (h:X.K=K):gz X "list.extend" (vd K):=by subst h;exact MT
def ip(h:X.K=K)(q:QE X e te)(a:∀whole,isTrue e X.env whole=(do let v <- whole;standAt e.pos;holding [v] (truthy v)):=by intro _;rfl):QT X e (um K te):=by subst h;exact J1 q a
def d7{b l:Expr}{a:TE}(h:X.K=K)(c:QE X l a):QI X b l (uD K a):=by subst h;exact JX c
def JV{b l:Expr}{a:TE}(h:X.K=K)(c:QE X l a):QI X b l (uC K a):=by subst h;exact JW c
def eU{k n:Nat}{b:iC}(h:X.K=K)(d:X.calm=true)(q:pF X es b)(c:(assignEach es X.env).length=n:=by rfl)(a:(assignEach es X.env).findIdx? (·.1)=none:=by rfl):QG X (.Tuple es k pos) (qX K n b):=by subst h;exact JY d q c a
def dP {name:Str} {a b:Pos} {T id:String} {r:V->List V->Hp->VK->Prop} (h:X.K=K) (j:PlainAttrs T) (slot:Slot T name id) (f:typeOf (.builtin id)=pure (.type "method_descriptor")) (g:gz X id r) (ho:QE X o to) (k:QA X (e::es) t)
 (c:attributeBase o name X.env (eval o X.env)=eval o X.env:=by rfl) (i:dA (e::es)=true:=by rfl) (hf:decide ((e::es).length+0+0<30)=true:=by rfl)
 (d:(a.endLine == b.line)=true:=by rfl):QE X (.Call (.Attribute o name a) (e::es) [] b) (tH K T r to t):=by subst h;exact J0 j slot f g ho k c i hf d
def tX {name:Str} {a b:Pos} {T id:String} {r:V->List V->Hp->VK->Prop} (h:X.K=K) (g:PlainAttrs T) (slot:Slot T name id) (e:typeOf (.builtin id)=pure (.type "method_descriptor")) (f:gz X id r) (ho:QE X o to)
 (c:attributeBase o name X.env (eval o X.env)=eval o X.env:=by rfl) (d:(a.endLine == b.line)=true:=by rfl):QE X (.Call (.Attribute o name a) [] [] b) (tG K T r to):=by subst h;exact JZ g slot e f ho c d
end
def aT.okQ{P:Program}{w:World}{K:W.Frag}{mg:Str->Option Value}{base:Heap}{x qual:Str}{st:Stmt}{f:Addr}{c:FuncData}{N ps:List Str}{k:Nat}{sp:Sp}(F:aT K x qual st f c)(S:aL N ps (am st))(len:∀vs H Q E,sp vs H Q E->vs.length=ps.length)
 (b:∀(a:Value) (A:Around) (outer:List Env) (s:fy) (H:Hp) (vs:List V) (Q:VK) (E:XK),bV k (A.deeper (envOfC qual (am st) s.heap.objs.size f a))->sp vs H Q E ->
   ∃t,fM (gp cn P w K mg base N qual (am st) f a A outer s H E).nox (aI st) t/\t { nx:=λ_ e=>Q .non e,rt:=Q } (gX N vs) H):bN P w K mg base cn (k+1) f c ps sp :=
 F.ok S len λa A outer s H vs Q E d h=>let ⟨t,q,r⟩:=b a A outer s H vs Q E d h;⟨t,q.h,r⟩
section
variable {X:Cx}{pins:List (Addr × Obj)}{σ:St}{H:Hp}{s:fy}{h':Heap}
def af.turnedL{t':Nat}{fp:List Addr}(I:af X pins σ H s)(k:∀b o,b∉fp->s.heap.get? b=some o->h'.get? b=some o)(hf:∀b∈fp,gC X pins H b):af X pins σ H { s with heap:=h',toks:=t' }:=by
 have d:∀b u,H b=some u->b∉fp:=λb u e z=>by rw[(hf b z).1]at e;cases e
 refine I.step (g':=s.gens) (d':=s.drawn) (ch:=fp) (λb hb=>?_) (λb o _ _ a e _=>k b o a e) (λb o _ _ a e _=>⟨o.slots,k b o a e⟩) (λ_ _ _ _ n=>n) (λb o a e=>⟨o,k b o a e⟩) (λ_ _ e=>e) (λ_ _ _ e=>e) (λb ps e=>⟨#[],by rw[e];simp⟩) (λm h=>?_) (λb u e=>?_) I.bare
 ·obtain⟨x,i,p,l,g,f⟩:=hf b hb;exact⟨l,i,g,f⟩
 ·obtain⟨o,es,j,ho,r⟩:=h;exact⟨o,es,j,k _ o (λz=>(hf _ z).2.1 Z) ho,r⟩
 ·refine (I.hok b u e).stay (λc v a q=>k c v ?_ q) (λ_ q=>q) λ_ _ q=>q;rcases a with z|z
  ·rw[z];exact d b u e
  ·exact d c _ z
def af.turnedN{t':Nat}{fp:List Addr}{T:Addr}{c:HO}(I:af X pins σ H s)(k:∀b o,b∉fp->s.heap.get? b=some o->h'.get? b=some o)(hf:∀b∈fp,gC X pins H b)(hT:s.heap.objs.size<=T)
 (new:bK X.prog X.w (upd H T c) h' T c):af X pins σ (upd H T c) { s with heap:=h',toks:=t' }:=by
 have p:af X pins σ H { s with heap:=h',toks:=t' }:=I.turnedL k hf;have d:H T=none:=I.hok.fresh hT;have ne:∀b u,H b=some u->b≠T:=λb u e z=>by rw[z,d]at e;cases e
 refine I.step (g':=s.gens) (d':=s.drawn) (ch:=fp) (λb hb=>?_) (λb o _ _ a e _=>k b o a e) (λb o _ _ a e _=>⟨o.slots,k b o a e⟩) (λb o _ e n=>?_) (λb o a e=>⟨o,k b o a e⟩) (λb xs e=>by rw[au (ne b _ e)];exact e) (λb o u e=>by rw[au (ne b _ e)];exact e) (λb ps e=>⟨#[],by rw[au (ne b _ e),e];simp⟩) (λm h=>?_) (p.hok.adopt d new) I.bare
 ·obtain⟨v,i,q,l,g,f⟩:=hf b hb;exact⟨l,i,g,f⟩
 ·rw[au (λz=>Ya (Vd (Vb e) (by rw[z];exact hT)) (VJ _))];exact n
 ·obtain⟨o,es,j,ho,r⟩:=h;exact⟨o,es,j,k _ o (λz=>(hf _ z).2.1 Z) ho,r⟩
end
def mY(K:W.Frag)(a:Addr):It :=
 ⟨λi H=>∃xs x,aH K H a xs/\xs[i]? = some x,λi H x b=>∃p v,x=.ref p/\(∀xs,aH K H a xs->xs[i]? = some v)/\bz H p (.tup [.int (i:Int),v]) b,λi H=>∃xs,aH K H a xs/\xs.length<=i⟩
def BR{P:Program}{w:World}{H:Hp}{h:Heap}{T:Addr}{b a:V}{c u2:Value}(hT:h.IsTuple T #[c,u2])(d:aR b c)(e:aR a u2):bK P w (upd H T (.tup [b,a])) h T (.tup [b,a]):=by
 refine⟨sz Z,[c,u2],.cons d (.cons e .nil),?_⟩;exact hT
def GM{P:Program}{w:World}{K:W.Frag}{es:List Expr}{kk:Nat}{pp:Pos}(a e it:Addr)(r:e≠it):jo P w K (.Tuple es kk pp) (mY K a) [e,it] e (λi h=>(∃f,IsEnum h e it i f)/\h.IsListIter it a i) where
 mem:=by simp
 obj:=λi h st b hb=>by
  obtain⟨⟨f,l⟩,o,V,c,d⟩:=st;have n:b=e\/b=it:=by simpa using hb
  rcases n with z|z
  ·subst z;exact⟨_,l,λv z=>by cases (show Data.fields _=Data.cell v from z)⟩
  ·subst z;exact⟨o,V,λv z=>by rw[d]at z;cases z⟩
 keep:=λi h h' st k=>by
  obtain⟨⟨f,l⟩,q⟩:=st
  exact⟨⟨f,k e (by simp) _ l⟩,q.at λo x=>k it (by simp) o x⟩
 item:=by
  intro X hP hw hK S i g s σ H E I hf st J;subst hP hw hK;obtain⟨⟨f,l⟩,q⟩:=st;obtain⟨xs,x,G,hx⟩:=J;obtain⟨M,L,p,hz⟩:=I.list G;obtain⟨u,hu,ru⟩:=L.get hx;have j:e<s.heap.objs.size:=Vb l;have B:it<s.heap.objs.size:=by obtain⟨_,z,_⟩:=q;exact Vb z
  refine wpAny_pyNext_enum_item l q p.isList (x:=u) (by simpa using hu) r λh' ho D hT hsz Y=>?_;refine⟨_,rfl,wpAny_letOwnedTupleGo_enum (s:={ s with heap:=h',toks:=s.toks+1 }) ho λC O m=>?_⟩;have hTe:s.heap.objs.size≠e:=V6 j;have hT2:C.get? s.heap.objs.size=some { cls:=.type "tuple",data:=.seq #[.int i s.toks,u] }:=(m.2 _ hTe).trans hT;have U:af X g σ (upd H s.heap.objs.size (.tup [.int (i:Int),x])) { s with heap:=C,toks:=s.toks+1 }:=by
   refine I.turnedN (fp:=[e,it]) (λb o hb R=>?_) hf (Va _) (BR ⟨_,hT2,Z,_,Z⟩ ⟨_,Z⟩ ru);have F:b≠e:=λz=>hb (by simp[z]);have N:b≠it:=λz=>hb (by simp[z]);exact (m.2 b F).trans (Y b o F N R)
  refine⟨.ref s.heap.objs.size,_,U,rfl,⟨_,x,rfl,λys hy=>by rw[I.list_inj hy G];exact hx,.mk' I.fresh⟩,⟨⟨_,by simpa using O⟩,D.at λo y=>(m.2 it r.symm).trans y⟩,λb hb=>?_⟩;have n:b=e\/b=it:=by simpa using hb
  rw[au (by rcases n with z|z<;>(rw[z];first|exact Vi j|exact Vi B))];exact (hf b hb).1
 done:=by
  intro X hP hw hK S i g s σ H E I hf st J;subst hP hw hK;obtain⟨⟨f,l⟩,q⟩:=st;obtain⟨xs,G,hx⟩:=J;obtain⟨M,L,p,hz⟩:=I.list G;have hl:=L.length;refine wpAny_pyNext_enum_end (I.ok.hd S) l q p.isList (by simp;omega) λh' eb=>⟨rfl,I.turnedL (t':=s.toks) (fp:=[e,it]) (λb o hb R=>eb b o (λz=>hb (by simp[z])) R) hf⟩
 self:=λ_ _ _ _ _ st h=>wpAny_pyIter_enum st.1.choose_spec h
def CQ(K:W.Frag)(c:TA):TI:=λσ H R=>c σ H λvs b=>∃a xs,vs=[.ref a]/\aH K b a xs/\R (mY K a) b
section
variable {X:Cx}{tg:Expr}{es:List Expr}{kk:Nat}{pp:Pos}
def KS {a:Expr} {m:TA} {p pos:Pos} (u:Gl X "enumerate") (y:X.mg "enumerate" = none) (D:PA X [a] m) (hs:starEach [a] X.env=[(false,eval a X.env)]:=by rfl):PI X (.Tuple es kk pp) (.Call (.Name "enumerate" p) [a] [] pos) (CQ X.K m):=by
 intro c s σ H R I h;refine Call_ (ia I u y boot_enumerate (V7 (aB (D pos c s σ H _ I h) λus s1 ζ=>?_) hs Z));obtain⟨vs,k,f,n,x⟩:=ζ;obtain⟨l,xs,e,B,q⟩:=x;subst e;cases n with
 | cons r rr =>
  cases rr;cases r;obtain⟨C,F,pl,hz⟩:=f.list B;refine call_enumerate_list pl.isList λh' j g hsz v=>?_;refine wpAny_pyIter_enum (s:={ s1 with heap:=h' }) j ?_;have o:af X c σ k { s1 with heap:=h' }:=f.kept (t':=s1.toks) v;refine⟨s1.heap.objs.size+1,[s1.heap.objs.size+1,s1.heap.objs.size],_,mY X.K l,k,Z,o,GM l _ _ (Nat.succ_ne_self _),⟨⟨_,j⟩,g⟩,λb hb=>?_,q⟩;have i:b=s1.heap.objs.size+1\/b=s1.heap.objs.size:=by simpa using hb
  have d:s1.heap.objs.size<=b:=by
   rcases i with z|z
   ·rw[z];exact Wg _
   ·rw[z];exact Va _
  exact f.fpOk d (f.hok.fresh d)
end
def j1(lo c:Int)(n:Nat):It:=⟨λi _=>i<n,λi H x a=>a=H/\x=.int (lo+i*c),λi _=>n<=i⟩
def GJ{P:Program}{w:World}{K:W.Frag}{u:Expr}(it:Addr)(lo c:Int)(n:Nat):jo P w K u (j1 lo c n) [it] it (λi h=>IsRangeIter h it (lo+(i:Nat)*c) ((n:Int)-(i:Nat)) c) where
 mem:=by simp
 obj:=λi h st b hb=>by
  have e:b=it:=by simpa using hb
  subst e;exact⟨_,st,λv z=>by
   have x:Data.fields _=Data.cell v:=z;cases x⟩
 keep:=λi h h' st k=>k it (by simp) _ st
 item:=by
  intro X hP hw hK q i a s σ H E I hf st g;subst hP hw hK;obtain⟨p,l,B,m,j,f⟩:=hf it (by simp);have W:=Walks.range (prog:=X.prog) (w:=X.w) (I.ok.hd q) it lo c n;refine W.item i s _ _ g st λv h' r y d F=>?_;obtain⟨t,rfl⟩:=y;have C:af X a σ H { s with heap:=h',toks:=r }:=I.turned (λb o hb e=>F b o (by simpa using hb) e) p l m j f;exact⟨_,rfl,qU (s:={ s with heap:=h',toks:=r }) (n := "range_iterator") d rfl rfl (by decide) ⟨.int (lo+i*c),H,C,⟨t,rfl⟩,⟨rfl,rfl⟩,d,λb hb=>(hf b hb).1⟩⟩
 done:=by
  intro X hP hw hK q i a s σ H E I hf st g;subst hP hw hK;obtain⟨p,l,B,m,j,f⟩:=hf it (by simp);exact wpAny_pyNext_range_end (I.ok.hd q) st (by have:n<=i:=g;omega) λh' D=>⟨rfl,I.turned (t':=s.toks) (λb o hb e=>D b o hb e) p l m j f⟩
 self:=λ_ _ _ _ _ st h=>wpAny_pyIter_rangeiter st h
def CN(a:TA):TI:=λσ H R=>a σ H λvs b=>∃(n c:Nat),vs=[.int 0,.int (n:Int),.int (c:Int)]/\n<=1000000000/\0<c/\c<=1000000/\R (j1 0 (c:Int) ((n+(c-1))/c)) b
def Ih{n c:Nat}(f:n<=1000000000)(d:0<c)(g:c<=1000000):Builtin.Range.rangeSize 0 (n:Int) (c:Int)=(((n+(c-1))/c:Nat):Int)/\Builtin.Range.small 0 (n:Int) (c:Int)=true:=by
 have e:Builtin.Range.rangeSize 0 (n:Int) (c:Int)=(((n+(c-1))/c:Nat):Int):=by
  rw[rangeSize_pos (by omega) (by omega)];rw[Int.natCast_ediv]
  congr 1
  omega
 refine⟨e,?_⟩;have b:(n+(c-1))/c<=n+(c-1):=Nat.div_le_self _ _;have a:(((n+(c-1))/c:Nat):Int)*(c:Int)<=n+(c-1):=by
  have:=Nat.div_mul_le_self (n+(c-1)) c;rw[<- Int.natCast_mul];omega
 unfold Builtin.Range.small;rw[e];generalize (n+(c-1))/c=k at b a ⊢;simp only [Builtin.Range.rangeFitsLong,VB,W1,decide_eq_true_eq,beq_iff_eq];refine⟨by omega,Or.inr ?_⟩;rw[X9 (by omega)];simp only [VB,decide_eq_true_eq];omega
section
variable {X:Cx}{tg:Expr}
def KO {a b d:Expr} {m:TA} {p pos:Pos} (v:Gl X "range") (x:X.mg "range" = none) (F:PA X [a,b,d] m) (hs:starEach [a,b,d] X.env=(false,eval a X.env)::starEach [b,d] X.env:=by rfl) (j:(backTo pos (starEach [b,d] X.env)).any (·.1)=false:=by rfl) :
 PI X tg (.Call (.Name "range" p) [a,b,d] [] pos) (CN m):=by
 intro f s σ H R I h;refine Call_ (ia I v x boot_range (V7 (aB (F pos f s σ H _ I h) λus s1 ζ=>?_) hs j));obtain⟨vs,l,B,u,i⟩:=ζ;obtain⟨n,c,e,i,z,C,q⟩:=i;subst e;cases u with
 | cons r rr =>
  cases rr with
  | cons r' rr =>
   cases rr with
   | cons r'' rr =>
    cases rr;obtain⟨t,rfl⟩:=r;obtain⟨t',rfl⟩:=r';obtain⟨k,rfl⟩:=r'';obtain⟨e,sm⟩:=Ih i z C;refine call_range_3 (by omega) ?_ (Or.inl (XD (by omega)));refine wpAny_pyIter_range (IsRange.new ..) sm ?_;have g:af X f σ l { s1 with heap:=s1.heap.push { cls:=.type "range",data:=.fields #[.int 0 t,.int n t',.int c k] },toks:=s1.toks }:=B.kept λb o e=>Vg _ e;refine⟨_,[_],_,_,l,Z,g.kept (t':=s1.toks) λb o e=>Vg _ e,GJ _ 0 (c:Int) ((n+(c-1))/c),?_,λb hb=>?_,q⟩
    ·show IsRangeIter _ _ (0+((0:Nat):Int)*_) ((((n+(c-1))/c:Nat):Int)-((0:Nat):Int)) _;have D:(0:Int)+((0:Nat):Int)*(c:Int)=0:=by simp
     have y:((((n+(c-1))/c:Nat):Int)-((0:Nat):Int))=Builtin.Range.rangeSize 0 (n:Int) (c:Int):=by rw[e];simp
     rw[D,y];exact VH _ Z
    ·have e:=Vp.mp hb;subst e;exact g.fpOk (Va _) (g.hok.fresh (Va _))
def Qr{lo c:Int}{n:Nat}{g:TG}{tb:TS}{D:ff}{σ:St}{H:Hp}(b:Nat->St->Hp->Prop)(k:b 0 σ H)
 (hs:∀i σ H,i<n->b i σ H->g (.int (lo+i*c)) σ H λh d=>tb { D with nx:=b (i+1),ct:=b (i+1),bk:=D.nx } h d) (hd:∀σ H,b n σ H->D.nx σ H) :
 ∃W:Nat->Nat->St->Hp->Prop,(∃m,W 0 m σ H)/\∀i m σ H,W i m σ H ->
  ((j1 lo c n).stop i H/\D.nx σ H)\/((j1 lo c n).go i H/\∃N:St->Hp->Prop,(∀f a,N f a->∃m',m'<m/\W (i+1) m' f a)/\∀x a,(j1 lo c n).yld i H x a->g x σ a λh d=>tb { D with nx:=N,ct:=N,bk:=D.nx } h d):=by
 refine⟨λi m σ H=>m=n-i/\i<=n/\b i σ H,⟨n,by simp,Vq _,k⟩,?_⟩;rintro i m σ H ⟨rfl,l,p⟩;by_cases hlt:i<n
 ·refine .inr ⟨hlt,b (i+1),λf a j=>⟨n-(i+1),by omega,rfl,hlt,j⟩,λx a y=>?_⟩;obtain⟨e,rfl⟩:=y;subst e;exact hs i σ a hlt p
 ·have e:i=n:=by omega
  subst e;exact .inl ⟨Va _,hd σ H p⟩
def oy{K:W.Frag}{a:Addr}{xs:List V}{g:TG}{tb:TS}{D:ff}{σ:St}{H:Hp}(c:Nat->St->Hp->Prop)(k:c 0 σ H)(o:∀i σ H,i<=xs.length->c i σ H->aH K H a xs)
 (hs:∀i x p σ H b,xs[i]? = some x->c i σ H->bz H p (.tup [.int (i:Int),x]) b->g (.ref p) σ b λh d=>tb { D with nx:=c (i+1),ct:=c (i+1),bk:=D.nx } h d) (hd:∀σ H,c xs.length σ H->D.nx σ H) :
 ∃W:Nat->Nat->St->Hp->Prop,(∃m,W 0 m σ H)/\∀i m σ H,W i m σ H ->
  ((mY K a).stop i H/\D.nx σ H)\/((mY K a).go i H/\∃N:St->Hp->Prop,(∀f b,N f b->∃m',m'<m/\W (i+1) m' f b)/\∀x b,(mY K a).yld i H x b->g x σ b λh d=>tb { D with nx:=N,ct:=N,bk:=D.nx } h d):=by
 refine⟨λi m σ H=>m=xs.length-i/\i<=xs.length/\c i σ H,⟨xs.length,by simp,Vq _,k⟩,?_⟩;rintro i m σ H ⟨rfl,l,p⟩;have q:=o i σ H l p;by_cases hlt:i<xs.length
 ·refine .inr ⟨⟨xs,xs[i],q,by simp[hlt]⟩,c (i+1),λf b n=>⟨xs.length-(i+1),by omega,rfl,hlt,n⟩,λx b y=>?_⟩;obtain⟨pp,v,rfl,y,j⟩:=y;exact hs i v pp σ H b (y xs q) p j
 ·have e:i=xs.length:=by omega
  subst e;exact .inl ⟨⟨xs,q,Va _⟩,hd σ H p⟩
end
def uS(K:W.Frag):List V->Hp->VK->Prop:=λxs H Q=>match xs with
 | [.ref p]=>∃ns:e7,aH K H p (ns.map V.int)/\Q (.int ns.sum) H
 | _=>False
theorem BI(ns:e7):∀k,k<=ns.length->preSum (λi=>(ns[i]?).getD 0) k=(ns.take k).sum
 | 0,_=>by simp[preSum]
 | k+1,h=>by
  have a:k<ns.length:=by omega
  rw[preSum,BI ns k (by omega),<- List.take_append_getElem a,List.sum_append];simp[VG a]
def Rx {X:Cx} (G:X.calm=true):ck X (.builtin "sum") (uS X.K):=by
 intro j s σ H xs us Q I r q;unfold uS at q
 split at q
 ·rename_i p;obtain⟨ns,y,q⟩:=q;obtain⟨u,rfl,B⟩:=iH r;cases B;obtain⟨a,l,pl,_⟩:=I.list y;have h:=l.length;rw[U9]at h;have c:p<s.heap.objs.size:=by
   obtain⟨o,n,e,_⟩:=pl;exact Vb e
  have f:p≠s.heap.objs.size:=Vi c;refine call_sum_walkG (wpAny_pyIter_list pl.isList ⟨s.heap.objs.size,_,_,_,_,_,λi=>(ns[i]?).getD 0,rfl,Walks.list (A:=X.A.in1) (show X.A.in1.handled=none from I.ok.hd G) s.heap.objs.size p f a.toArray,⟨⟨_,VH _ rfl,rfl,rfl⟩,?_⟩,λb hb=>?_,λi v d=>?_,λh' F t' k=>?_⟩)
  ·exact pl.isList.at λo e=>Vg _ e
  ·have g:b=s.heap.objs.size\/b=p:=by simpa using hb
   show b<(s.heap.push _).objs.size;rw[Wf];rcases g with z|z
   ·rw[z];exact Vv _
   ·rw[z];exact Nat.lt_succ_of_lt c
  ·have J:i<a.length:=by
    have:=(W0.mp d).1;simpa using this
   have hb:i<ns.length:=by omega
   obtain⟨u,C,m⟩:=l.get (i:=i) (x:=V.int ns[i]) (by simp[hb]);have e:a.toArray[i]? = some u:=by simpa using C
   rw[e]at d;cases d;obtain⟨t,rfl⟩:=m;exact⟨t,by simp[hb]⟩
  ·refine⟨.int ns.sum,H,I.kept (h':=h') (t':=F) λb o e=>k b o (λz=>?_) (Vg _ e),⟨t',?_⟩,q⟩
   ·have D:b=s.heap.objs.size:=by simpa using z
    exact Ya (Vb e) (by rw[D];exact VJ _)
   ·rw[Vl,<- h,BI ns _ (Va _),Vw]
 ·exact q.elim
def Ut(i j:Int):Prop:=0<=j/\(Builtin.Int.intBits i:Int)+j<=2 ^ 27
def PK{X:Cx}:be X (binaryOp .LShift) (gI Ut λi j=>.int (i*2 ^ j.toNat)):=va (nP λ_ _ _ _ _ _ _ a q=>lshift_int a.1 a.2 q)
def Dz:V->List V->Hp->VK->Prop:=λx vs H Q=>match x,vs with
 | .int i,[]=>Q (.int (Builtin.Int.intBits i)) H
 | _,_=>False
def MU {X:Cx}:gz X "int.bit_length" Dz:=by
 intro a s σ H x vs v us Q I b c q;unfold Dz at q
 split at q
 ·obtain⟨t,rfl⟩:=b;cases c;exact call_int_bit_length ⟨.int _,H,I.tok _,⟨_,Z⟩,q⟩
 ·exact q.elim
def jZ(K:W.Frag)(a b:Addr):It :=
 ⟨λi H=>∃xs ys x y,aH K H a xs/\xs[i]? = some x/\aH K H b ys/\ys[i]? = some y,λi H x c=>∃p v u,x=.ref p/\(∀xs,aH K H a xs->xs[i]? = some v)/\(∀ys,aH K H b ys->ys[i]? = some u)/\bz H p (.tup [v,u]) c,λi H=>∃xs ys,aH K H a xs/\aH K H b ys/\(xs.length<=i\/ys.length<=i)⟩
def GH{P:Program}{w:World}{K:W.Frag}{es:List Expr}{kk:Nat}{pp:Pos}(a b z TI TO f g:Addr)(D:ZipApart z TI TO f g a b) :
 jo P w K (.Tuple es kk pp) (jZ K a b) [z,TI,TO,f,g] z (λi h=>IsZip h z TI TO .none/\IsPair h TI (.ref f) (.ref g)/\(∃a b,IsPair h TO a b)/\h.IsListIter f a i/\h.IsListIter g b i) where
 mem:=by simp
 obj:=λi h st c r=>by
  obtain⟨q,l,⟨u,v,n⟩,⟨o4,e4,c4,d4⟩,o5,e5,c5,d5⟩:=st;have F:c=z\/c=TI\/c=TO\/c=f\/c=g:=by simpa using r
  rcases F with rfl|rfl|rfl|rfl|rfl
  ·exact⟨_,q,λv z=>by cases (show Data.fields _=Data.cell v from z)⟩
  ·exact⟨_,l,λv z=>by cases (show Data.seq _ _=Data.cell v from z)⟩
  ·exact⟨_,n,λv z=>by cases (show Data.seq _ _=Data.cell v from z)⟩
  ·exact⟨o4,e4,λv z=>by rw[d4]at z;cases z⟩
  ·exact⟨o5,e5,λv z=>by rw[d5]at z;cases z⟩
 keep:=λi h h' st k=>by
  obtain⟨q,l,⟨u,v,n⟩,G,J⟩:=st;exact⟨k z (by simp) _ q,k TI (by simp) _ l,⟨u,v,k TO (by simp) _ n⟩,G.at λo x=>k f (by simp) o x,J.at λo x=>k g (by simp) o x⟩
 item:=by
  intro X hP hw hK r i m s σ H E I hf st S;subst hP hw hK;obtain⟨q,l,⟨u,v,n⟩,G,J⟩:=st;obtain⟨xs,ys,x,y,N,hx,j,O⟩:=S;obtain⟨a0,V,p,hz⟩:=I.list N;obtain⟨L,B,U,Y⟩:=I.list j;obtain⟨ux,hu,ru⟩:=V.get hx;obtain⟨uy,a9,a8⟩:=B.get O;have lz:z<s.heap.objs.size:=Vb q;have lTI:TI<s.heap.objs.size:=Vb l;have lTO:TO<s.heap.objs.size:=Vb n;have l1:f<s.heap.objs.size:=by obtain⟨_,e,_⟩:=G;exact Vb e
  have l2:g<s.heap.objs.size:=by obtain⟨_,e,_⟩:=J;exact Vb e
  refine wpAny_pyNext_zip_item D q l n G J p.isList U.isList (x:=ux) (y:=uy) (by simpa using hu) (by simpa using a9) λh' a1 a2 a3 a4 a5 a6 M=>?_;refine⟨_,rfl,wpAny_letOwnedTupleGo_zip (s:={ s with heap:=h' }) a1 λC R d=>?_⟩;have kk:∀c o,c∉[z,TI,TO,f,g]->s.heap.get? c=some o->C.get? c=some o:=λc o hb e=>by
   have n1:c≠z:=λw=>hb (by simp[w]);exact (d.2 c n1).trans (M c o n1 (λw=>hb (by simp[w])) (λw=>hb (by simp[w])) (λw=>hb (by simp[w])) e)
  have hT2:C.get? s.heap.objs.size=some { cls:=.type "tuple",data:=.seq #[ux,uy] }:=(d.2 _ (V6 lz)).trans a5;have I2:af X m σ (upd H s.heap.objs.size (.tup [x,y])) { s with heap:=C } :=
   I.turnedN (t':=s.toks) (fp:=[z,TI,TO,f,g]) kk hf (Va _) (BR ⟨_,hT2,rfl,_,rfl⟩ ru a8)
  refine⟨.ref s.heap.objs.size,_,I2,rfl,⟨_,x,y,rfl,λys O=>by rw[I.list_inj O N];exact hx,λzs hz=>by rw[I.list_inj hz j];exact O,.mk' I.fresh⟩,
   ⟨R,(d.2 _ D.TIz).trans (M _ _ D.TIz D.TITO D.TIi1 D.TIi2 l),⟨_,_,(d.2 _ D.TOz).trans a2⟩,a3.at λo e=>(d.2 _ D.i1z).trans e,a4.at λo e=>(d.2 _ D.i2z).trans e⟩,λc r=>?_⟩
  have F:c=z\/c=TI\/c=TO\/c=f\/c=g:=by simpa using r
  have lc:c<s.heap.objs.size:=by rcases F with w|w|w|w|w<;>rw[w]<;>assumption
  rw[au (Vi lc)];exact (hf c r).1
 done:=by
  intro X hP hw hK r i m s σ H E I hf st S;subst hP hw hK;obtain⟨q,l,⟨u,v,n⟩,G,J⟩:=st;obtain⟨xs,ys,N,j,hx⟩:=S;obtain⟨a0,V,p,hz⟩:=I.list N;obtain⟨L,B,U,Y⟩:=I.list j;have hl:=V.length;have aw:=B.length;refine wpAny_pyNext_zip_end (I.ok.hd r) D q l n G J p.isList U.isList (by rcases hx with w|w;exact .inl (by simp;omega);exact .inr (by simp;omega)) λh' M=>⟨rfl,I.turnedL (t':=s.toks) (fp:=[z,TI,TO,f,g]) (λc o hb e=>M c o (λw=>hb (by simp[w])) (λw=>hb (by simp[w])) (λw=>hb (by simp[w])) (λw=>hb (by simp[w])) e) hf⟩
 self:=λ_ _ _ _ _ st h=>wpAny_pyIter_zip st.1 h
def CM(K:W.Frag)(d:TA):TI:=λσ H R=>d σ H λvs c=>∃a b xs ys,vs=[.ref a,.ref b]/\aH K c a xs/\aH K c b ys/\R (jZ K a b) c
def FB(I l1 a:Nat)(c:l1<I)(b:a<I):ZipApart (I+4) (I+2) (I+3) I (I+1) l1 a:=W.ktu_apart I l1 a c b
def KM {X:Cx} {es:List Expr} {O:Nat} {pp:Pos} {a b:Expr} {y:TA} {p pos:Pos} (B:Gl X "zip") (J:X.mg "zip" = none) (S:PA X [a,b] y) (hs:starEach [a,b] X.env=(false,eval a X.env)::starEach [b] X.env:=by rfl) (k:(backTo pos (starEach [b] X.env)).any (·.1)=false:=by rfl) :
 PI X (.Tuple es O pp) (.Call (.Name "zip" p) [a,b] [] pos) (CM X.K y):=by
 intro c s σ H R I h;refine Call_ (ia I B J boot_zip (V7 (aB (S pos c s σ H _ I h) λus s1 ζ=>?_) hs k));obtain⟨vs,x,f,F,U⟩:=ζ;obtain⟨l1,i,xs,ys,e,L,l,q⟩:=U;subst e;cases F with
 | cons r rr =>
  cases rr with
  | cons r' rr =>
   cases rr;cases r;cases r';obtain⟨N,V,pl,hz⟩:=f.list L;obtain⟨v,C,g,M⟩:=f.list l;have n:l1<s1.heap.objs.size:=by obtain⟨o,_,e,_⟩:=pl;exact Vb e
   have j:i<s1.heap.objs.size:=by obtain⟨o,_,e,_⟩:=g;exact Vb e
   have D:ZipApart (s1.heap.objs.size+4) (s1.heap.objs.size+2) (s1.heap.objs.size+3) s1.heap.objs.size (s1.heap.objs.size+1) l1 i:=FB _ _ _ n j;refine call_zip_2 pl.isList g.isList λh' hz hTI hTO gH u hsz G=>?_;refine wpAny_pyIter_zip (s:={ s1 with heap:=h' }) hz ?_;have z:af X c σ x { s1 with heap:=h' }:=f.kept (t':=s1.toks) G;refine⟨s1.heap.objs.size+4,_,_,jZ X.K l1 i,x,Z,z,GH l1 i _ _ _ _ _ D,⟨hz,hTI,⟨_,_,hTO⟩,gH,u⟩,λb hb=>?_,q⟩;have m:b=s1.heap.objs.size+4\/b=s1.heap.objs.size+2\/b=s1.heap.objs.size+3\/b=s1.heap.objs.size\/b=s1.heap.objs.size+1:=by simpa using hb
   have d:s1.heap.objs.size<=b:=by rcases m with w|w|w|w|w<;>rw[w]<;>first|exact Nat.le_add_right _ _|exact Va _
   exact f.fpOk d (f.hok.fresh d)
def Rf{K:W.Frag}{a b:Addr}{xs zs:List V}{cs:St}{s:TT}{D:TE}{H:Hp}{Q:VK}(k:zs.length=xs.length)(f:Nat->List V->Hp->Prop)(L:f 0 [] H)(I:∀i ys H,i<=xs.length->f i ys H->aH K H a xs/\aH K H b zs/\ys.length<=i)(hz:xs.length<=sizeLine)
 (hs:∀i x z ys H c (N:List V->Hp->Prop),xs[i]? = some x->zs[i]? = some z->f i ys H->aj H c->(∀d c,f (i+1) d c->N d c)->s (some x::some z::cs) c λb B=>if b=true then D (some x::some z::cs) B λy J=>N (ys++[y]) J else N ys B)
 (hd:∀ys H p c,f xs.length ys H->bz H p (.lst ys) c->Q (.ref p) c) :
 jv (jZ K a b) H (List.replicate 2 none++cs) (qX K 2 (qZ (bU 0) (qZ (bU 1) uT))) s D Q:=by
 refine⟨λi m ys σ H=>m=xs.length-i/\i<=xs.length/\f i ys H/\∃j h,σ=j::h::cs,⟨xs.length,by simp,Vq _,L,none,none,rfl⟩,?_⟩;rintro i m ys σ n ⟨rfl,F,p,j,h,rfl⟩;obtain⟨q,o,M⟩:=I i ys n F p;by_cases hlt:i<xs.length
 ·refine .inr ⟨⟨xs,zs,xs[i],zs[i]'(by omega),q,by simp[hlt],o,by simp[k,hlt]⟩,by omega,λd r c=>f (i+1) d c/\∃j h,r=j::h::cs,λd r c ⟨l,e⟩=>⟨xs.length-(i+1),by omega,rfl,hlt,l,e⟩,λx c y=>?_⟩;obtain⟨pp,v,u,rfl,y,G,C⟩:=y;refine⟨pp,_,Z,C.tup,Z,_,_,Z,_,_,Z,Z,?_⟩;exact hs i v u ys n c (λd c=>f (i+1) d c/\∃j h,some v::some u::cs=j::h::cs) (y xs q) (G zs o) p C.sm λ_ _ z=>⟨z,_,_,Z⟩
 ·have e:i=xs.length:=by omega
  subst e;exact .inl ⟨⟨xs,zs,q,o,.inl (Va _)⟩,by omega,λl c g=>hd ys n l c p g⟩
section
variable {X:Cx}{K:W.Frag}{a b c e o:Expr}{es bQ:List Expr}{pos p p2 pos2:Pos}{t:TA}{kk:Nat}
def Rw (h:X.K=K) (a:X.calm=true):ck X (.builtin "sum") (uS K):=by subst h;exact Rx a
def nI (h:X.K=K) (d:Gl X "enumerate") (b:X.mg "enumerate" = none) (c:QA X [a] t) (hs:dg a=false:=by rfl):QI X (.Tuple es kk p2) (.Call (.Name "enumerate" p) [a] [] pos) (CQ K t):=by subst h;exact⟨KS d b c.h (cv hs)⟩
def Bw (h:X.K=K) (f:Gl X "zip") (d:X.mg "zip" = none) (e:QA X [a,b] t) (hs:dg a=false:=by rfl) (c:dg b=false:=by rfl):QI X (.Tuple es kk p2) (.Call (.Name "zip" p) [a,b] [] pos) (CM K t):=by
 subst h;exact⟨KM f d e.h (cv hs) (by rw[cv c];rfl)⟩
def Bx {f:Expr} (g:Gl X "range") (i:X.mg "range" = none) (j:QA X [a,b,c] t) (hs:dg a=false:=by rfl) (e:dg b=false:=by rfl) (d:dg c=false:=by rfl):QI X f (.Call (.Name "range" p) [a,b,c] [] pos) (CN t) :=
 ⟨KO g i j.h (cv hs) (by rw[cv e,cv d];rfl)⟩
end
def cR:e7->List Value->Bool
 | [],[]=>true
 | n::r,.int m _::u=>n == m && cR r u
 | _,_=>false
theorem cR.vals:∀ {ns:e7} {us:List Value},cR ns us=true->aJ (ns.map V.int) us
 | [],[],_=>.nil
 | n::r,.int m _::u,h=>by
  have h':(n == m && cR r u)=true:=h;rw[VB,beq_iff_eq]at h';obtain⟨rfl,a⟩:=h';exact .cons ⟨_,Z⟩ (cR.vals a)
def dZ {K:W.Frag} {a:Addr} {od:Option Addr} {b:Array Value} {n:Nat} {c:Array (Option Value)} {ns:e7} (h:K.lookup a=some ⟨.type "tuple",od,.seq b n,c⟩) (d:cR ns b.toList=true) (hz:b.size<=1000:=by decide) (H:Hp):bw K H a (ns.map V.int) :=
 .inr ⟨_,b,n,h,rfl,rfl,sz (XM hz),cR.vals d⟩
def bz.after{H b a:Hp}{p:Addr}{o:HO}(s:aj H b)(g:bz b p o a):bz H p o a:=⟨s.free g.nw,s.trans g.sm,g.at_⟩
def cz(b:Nat)(ps:e7):Int:=ps.foldl (λa p=>a*2 ^ b+p) 0
theorem tD(b:Nat):∀(ps:e7) (a:Int),ps.foldl (λa p=>a*2 ^ b+p) a=a*2 ^ (b*ps.length)+cz b ps
 | [],a=>by simp[cz]
 | p::r,a=>by
  unfold cz;rw[Wm,Wm,tD b r,tD b r,Vt,Nat.mul_succ,Int.pow_add];generalize (2:Int) ^ (b*r.length)=X;generalize (2:Int) ^ b=Y;rw[Xt,Xt,Int.mul_assoc,Int.mul_comm Y X];omega
def zZ(b:Nat)(ps qs:e7):cz b (ps++qs)=cz b ps*2 ^ (b*qs.length)+cz b qs:=by
 conv=>lhs;unfold cz
 rw[List.foldl_append,tD b qs]
 rfl
def GN(b:Nat)(ps:e7)(p:Int):cz b (ps++[p])=cz b ps*2 ^ b+p:=by
 rw[zZ];simp[cz]
def GF(k:Nat):(0:Int)<2 ^ k:=Int.pow_pos (by decide)
def GO{b:Nat}:∀ {ps:e7},(∀p∈ps,0<=p/\p<2 ^ b)->0<=cz b ps/\cz b ps<2 ^ (b*ps.length):=by
 intro ps h
 induction ps with
 | nil=>simp[cz]
 | cons p r ih =>
  have d:=h p (.head _);have f:=ih λq c=>h q (.tail _ c);have e:cz b (p::r)=p*2 ^ (b*r.length)+cz b r:=by
   have:=zZ b [p] r;simpa [cz] using this
  rw[e,Vt,Nat.mul_succ,Int.pow_add];have a:=GF (b*r.length);generalize (2:Int) ^ (b*r.length)=X at *;generalize (2:Int) ^ b=Y at *;have g:0<=p*X:=Int.mul_nonneg d.1 (Int.le_of_lt a);have i:p*X+X<=X*Y:=by
   have:(p+1)*X<=Y*X:=Int.mul_le_mul_of_nonneg_right (by omega) (Int.le_of_lt a);rw[Xt,Int.one_mul]at this;rw[Int.mul_comm X Y];exact this
  omega
abbrev bp(r:e7):Prop:=∀p∈r,0<=p/\p<256
def fh{α:Type}{a:List α}{i:Nat}{y:α}(h:a[i]? = some y):a.take (i+1)=a.take i++[y]:=by rw[Xu,h];rfl
def O0{α β:Type}{xs:List α}{a:List β}{i:Nat}{x:α}(b:a.length=xs.length)(h:xs[i]? = some x):∃y,a[i]? = some y:=by
 have:=(Vh.mp h).1;exact⟨a[i]'(by omega),by simp⟩
def xj{K:W.Frag}{a:Addr}{xs:List V}{cs:St}{e:TE}{H:Hp}{Q:VK}(d:List V)(h:d.length=xs.length)(j:aH K H a xs)(hz:xs.length<=sizeLine)
 (hs:∀(i:Nat) x y b (N:VK),xs[i]? = some x->d[i]? = some y->aj H b->(∀c,aj b c->N y c)->e (some x::cs) b N) (hd:∀p b,bz H p (.lst d) b->Q (.ref p) b) :
 jv (iF K a) H (List.replicate 1 none++cs) (bU 0) gW e Q:=by
 refine oX (λi ys b=>aj H b/\ys=d.take i) ⟨aj.refl _,rfl⟩ (λi ys b l z=>⟨z.1.seq j,by rw[z.2,Vk];omega⟩) hz (λi x ys b N hx z hN=>?_) λys b p c z g=>?_
 ·obtain⟨s,rfl⟩:=z;obtain⟨y,f⟩:=O0 h hx;simp only [gW,if_true];exact hs i x y b _ hx f s λc k=>hN _ _ ⟨s.trans k,by rw[fh f]⟩
 ·obtain⟨s,rfl⟩:=z;rw[<- h,Vw]at g;exact hd p c (g.after s)
def rV{lo:Int}{n:Nat}{cs:St}{e:TE}{H:Hp}{Q:VK}(c:List V)(h:c.length=n)(hz:n<=sizeLine)
 (hs:∀(i:Nat) y a (N:VK),i<n->c[i]? = some y->aj H a->(∀b,aj a b->N y b)->e (some (.int (lo+(i:Int)))::cs) a N) (hd:∀p a,bz H p (.lst c) a->Q (.ref p) a) :
 jv (iY lo n) H (List.replicate 1 none++cs) (bU 0) gW e Q:=by
 refine Ri (λi ys a=>aj H a/\ys=c.take i) ⟨aj.refl _,rfl⟩ (λi ys a d z=>by rw[z.2,Vk];omega) hz (λi ys a N d z hN=>?_) λys a p b z g=>?_
 ·obtain⟨s,rfl⟩:=z;have f:c[i]? = some (c[i]'(by omega)):=by simp
  simp only [gW,if_true];exact hs i (c[i]'(by omega)) a _ d f s λb j=>hN _ _ ⟨s.trans j,by rw[fh f]⟩
 ·obtain⟨s,rfl⟩:=z;rw[<- h,Vw]at g;exact hd p b (g.after s)
def eX{ns:e7}{i:Nat}{x:V}(h:(ns.map V.int)[i]? = some x):∃p,ns[i]? = some p/\x=.int p:=by
 rw[Vf]at h;cases e:ns[i]? with
 | none=>rw[e]at h;cases h
 | some p=>rw[e]at h;cases h;exact⟨p,Z,Z⟩
def Rb{α:Type}(xs:List α)(lo a:Option Int):(eZ xs lo a).length<=xs.length:=by
 unfold eZ;rw[Vk,VT];omega
def Q9{α:Type}{xs:List α}{lo a:Option Int}{x:α}(h:x∈eZ xs lo a):x∈xs:=Wn (Wb h)
def bO{t u:TS}{D:ff}{σ:St}{H:Hp}(M:St->Hp->Prop)(b:∀nx:St->Hp->Prop,(∀σ' H',M σ' H'->nx σ' H')->t { D with nx:=nx } σ H)(a:∀σ' H',M σ' H'->u D σ' H'):nj t u D σ H:=b (u D) a
structure cW (P:Program) (w:World) (K:W.Frag) (mg:Str->Option Value) (base:Heap) (C:Addr) (m:Str) (k:Nat) (f:Addr) (fd:FuncData) (ps:List Str) (sp:Sp):Prop where
 c:dH K C
 mt:bE K C m f
 b:ax K fd ps []
 ok:bN P w K mg base cn k f fd ps sp
structure UV (P:Program) (w:World) (K:W.Frag) (mg:Str->Option Value) (base:Heap) (x:Str) (C:Addr) (k:Nat) (f:Addr) (fd:FuncData) (ps:List Str) (sp:Sp):Prop where
 g:mg x=some (.ref C)
 mkx:Mk K C f
 b:ax K fd ps []
 ok:bN P w K mg base cn k f fd ps sp
section
variable {X:Cx}{K:W.Frag}{k j:Nat}{f C:Addr}{fd:FuncData}{ps:List Str}{sp:Sp}{x m:Str}{p pos apos pos':Pos}{e o value:Expr}{es:List Expr}{ta tv:TE}{t:TA}
def qo{X:Cx}:jr cn X E0:=λ_ _ _ _ _ _ _ z=>z.elim
def fA{pl:Sem Bool}(F:cW X.prog X.w X.K X.mg X.base C m j f fd ps sp)(g:bV k X.A)(ho:QE X o ta)(l:QA X (e::es) t)(d:j<=k:=by decide)(a:dA (e::es)=true:=by rfl)
 (i:eval (.Call (.Attribute o m apos) (e::es) [] pos) X.env=(do
   let ov <- eval o X.env
   standAt apos.atName
   let (f,first) <- holding [ov] (getMethod ov m pl)
   callWith pos f first (backTo pos (starEach (e::es) X.env)) (backToKw pos (keywordEach [] X.env))):=by rfl) :
 QE X (.Call (.Attribute o m apos) (e::es) [] pos) (ny C m sp [] E0 ta t) :=
 ⟨BO (pl:=pl) ho.h F.c F.mt F.ok (g.mono d) F.b .nil qo l.h (cv (dz a).1) (hZ (dz a).2) i⟩
def cC{pl:Sem Bool}(F:cW X.prog X.w X.K X.mg X.base C m j f fd ps sp)(d:bV k X.A)(ho:QE X o ta)(a:j<=k:=by decide)
 (e:eval (.Call (.Attribute o m apos) [] [] pos) X.env=(do
   let ov <- eval o X.env
   standAt apos.atName
   let (f,first) <- holding [ov] (getMethod ov m pl)
   callWith pos f first (backTo pos (starEach [] X.env)) (backToKw pos (keywordEach [] X.env))):=by rfl) :
 QE X (.Call (.Attribute o m apos) [] [] pos) (ny C m sp [] E0 ta i4) :=
 ⟨K6 (pl:=pl) ho.h F.c F.mt F.ok (d.mono a) F.b .nil qo e⟩
def bq{f:Str}(h:X.K=K)(a:QE X e ta)(hb:attributeBase e f X.env (eval e X.env)=eval e X.env:=by rfl):QE X (.Attribute e f pos) (As K ta f):=by subst h;exact⟨La a.h hb⟩
def dS{f:Str}(h:X.K=K)(b:QE X o ta)(a:QE X value tv)(hs:swapsWith value (some (.Attribute o f pos')) pos.line X.env=pure false:=by rfl):QS X (.Assign [.Attribute o f pos'] value pos) (Bj K ta tv f):=by subst h;exact⟨Kw b.h a.h hs⟩
end
structure sU (K:W.Frag) (C:Addr):Prop where
 makes:W.makesIn K C=true
 init:W.findIn K (.ref C) "__init__" = some (some (.builtin "object.__init__"))
 kp:W.keepIn K (.ref C)=true
def An(C:Addr):TE:=λ_ H Q=>∀x dx,H x=none->H dx=none->dx≠x->Q (.ref x) (upd (upd H dx (.own x)) x (.ins C dx []))
section
variable {X:Cx}{C:Addr}{x:Str}{p pos:Pos}
def Ju{c:List (Addr × Obj)}{σ:St}{H:Hp}{s:fy}{Q:VK}(M:sU X.K C)(I:af X c σ H s)(h:An C σ H Q) :
 wpAny (model X.prog X.w) X.A (call (.ref C) []) (EP X c σ Q) X.xe s:=by
 have j:=h (s.heap.objs.size+1) s.heap.objs.size (I.hok.fresh (Wg _)) (I.hok.fresh (Va _)) (Vi (Vv _));have f:=af.made (C:=C) I;have Y:=W.makes_of (M:=model X.prog X.w) I.kIn M.makes;refine wpAny_call (M7 I.kIn M.makes M.init (λself=>W.Looks.of_pure (W.oi_bind self)) ?_);obtain⟨a,g,d,t,os⟩:=s;have k:((a.push W.emptyDict).push (W.instObj C a.objs.size)).get? (a.objs.size+1)=some (W.instObj C a.objs.size):=by
  have:=VH (a.push W.emptyDict) (o:=W.instObj C a.objs.size) rfl
  rwa [Wf]at this
 have i:W.Looks (model X.prog X.w) ((a.push W.emptyDict).push (W.instObj C a.objs.size)) (typeOf (.ref (a.objs.size+1))) (.ref C):=(W.Looks.ld k).andThen .now;have l:W.Looks (model X.prog X.w) ((a.push W.emptyDict).push (W.instObj C a.objs.size)) (isInstance (.ref (a.objs.size+1)) (.type "object")) true :=
  i.andThen (Y.top.keeps λb o e=>Vg _ (Vg _ e))
 refine codeAny_call_builtin W.oi_plain W.entry_oi (@W.check_slot (model X.prog X.w) _ _ _ "object.__init__" "object" "__init__" (.ref (a.objs.size+1)) [] [] _ W.oi_kind W.oi_split l (W.oi_args (.ref (a.objs.size+1))) ?_);rw[W.oi_run];exact X7 (And.intro Z ⟨V.ref (a.objs.size+1),_,f,Z,j⟩)
def BA(M:sU X.K C)(c:X.mg x=some (.ref C))(d:Gl X x:=by rfl)(a:(x == ("__debug__" : Str))=false:=by decide):QE X (.Call (.Name x p) [] [] pos) (An C):=⟨by
 intro b s σ H Q I h;refine wpAny_Call_Name_kw (jO I d c ?_ a);exact W.callWith_K0 I.kIn M.kp (Ju M I h)⟩
end
structure dW (K:W.Frag) (x qual:Str) (st:Stmt) (f:Addr) (fd:FuncData) (vs:List Value):Prop where
 ex:∃(oc:Value) (od:Option Addr) (kV doc pm:Value) (an:Option Addr) (cdv ct:Value) (osl:Array (Option Value)) (d:Addr) (dc:Value) (dd:Option Addr) (n:Nat) (dsl:Array (Option Value)),
  fd=W.fnOf x qual (aK st) (aI st) (am st) (.ref d) kV doc pm an cdv ct/\K.lookup f=some ⟨oc,od,.func fd,osl⟩/\W.codeIn K cdv qual=true/\K.lookup d=some ⟨dc,dd,.seq vs.toArray n,dsl⟩
 kp:W.keepIn K (.ref f)=true
section
variable {P:Program}{w:World}{K:W.Frag}{mg:Str->Option Value}{base:Heap}{x qual:Str}{st:Stmt}{f:Addr}{fd:FuncData}{N ps:List Str}{k:Nat}{sp:Sp}{vs:List Value}
def dW.okQ(F:dW K x qual st f fd vs)(S:aL N ps (am st))(len:∀vs H Q E,sp vs H Q E->vs.length=ps.length)
 (b:∀(a:Value) (A:Around) (outer:List Env) (s:fy) (H:Hp) (vs:List V) (Q:VK) (E:XK),bV k (A.deeper (envOfC qual (am st) s.heap.objs.size f a))->sp vs H Q E ->
   ∃t,fM (gp cn P w K mg base N qual (am st) f a A outer s H E).nox (aI st) t/\t { nx:=λ_ m=>Q .non m,rt:=Q } (gX N vs) H):bN P w K mg base cn (k+1) f fd ps sp:=by
 obtain⟨u,od,kV,l,p,y,a,ct,j,d,v,r,n,o,rfl,i,c,_⟩:=F.ex;refine vg i c S len λA outer s H vs Q E g e=>?_;obtain⟨t,h,q⟩:=b a A outer s H vs Q E g e;exact⟨t,h.h.nox,q⟩
def gn{m o:Value}{od i j:Option Addr}{e g:Array (Option Value)}{kV b h a ct:Value}{d:Addr}{n:Nat}(l:K.lookup f=some ⟨m,od,.func (W.fnOf x qual (aK st) (aI st) (am st) (.ref d) kV b h i a ct),e⟩)
 (c:W.codeIn K a qual=true) (k:W.keepIn K (.ref f)=true) (ld:K.lookup d=some ⟨o,j,.seq vs.toArray n,g⟩):dW K x qual st f (W.fnOf x qual (aK st) (aI st) (am st) (.ref d) kV b h i a ct) vs :=
 ⟨⟨m,od,kV,b,h,i,a,ct,e,d,o,j,n,g,rfl,l,c,ld⟩,k⟩
def dW.binds{ds:List Value}(F:dW K x qual st f fd vs)
 (h:∀(d:Addr) (kV b c:Value) (e:Option Addr) (a ct:Value) (us:List Value),(us++ds).length=ps.length->∃g:Option (Array Value)->Sem (List (Str × Value)),
   bindArgs (W.fnOf x qual (aK st) (aI st) (am st) (.ref d) kV b c e a ct) ⟨us,[]⟩=seqItems? (.ref d) >>= g/\g (some vs.toArray)=pure (ps.zip (us++ds))):ax K fd ps ds:=by
 obtain⟨r,od,kV,b,c,e,a,ct,l,d,v,q,n,p,rfl,u,i,ld⟩:=F.ex;intro s us o k;obtain⟨g,m,j⟩:=h d kV b c e a ct us k;exact BindsTo.of_defaults (T:=d) Z (o _ _ ld) Z m j
end
structure fe (P:Program) (w:World) (K:W.Frag) (mg:Str->Option Value) (base:Heap) (C:Addr) (m:Str) (k:Nat) (f:Addr) (fd:FuncData) (ps:List Str) (dvs:List V) (sp:Sp):Prop where
 c:dH K C
 mt:bE K C m f
 b:∃ds,ax K fd ps ds/\aJ dvs ds
 ok:bN P w K mg base cn k f fd ps sp
section
variable {X:Cx}{k j:Nat}{f C:Addr}{fd:FuncData}{ps:List Str}{sp:Sp}{m:Str}{pos apos:Pos}{e o:Expr}{es:List Expr}{ta:TE}{t:TA}{dvs:List V}
def d8{pl:Sem Bool}(F:fe X.prog X.w X.K X.mg X.base C m j f fd ps dvs sp)(g:bV k X.A)(ho:QE X o ta)(l:QA X (e::es) t)(d:j<=k:=by decide)(a:dA (e::es)=true:=by rfl)
 (i:eval (.Call (.Attribute o m apos) (e::es) [] pos) X.env=(do
   let ov <- eval o X.env
   standAt apos.atName
   let (f,first) <- holding [ov] (getMethod ov m pl)
   callWith pos f first (backTo pos (starEach (e::es) X.env)) (backToKw pos (keywordEach [] X.env))):=by rfl) :
 QE X (.Call (.Attribute o m apos) (e::es) [] pos) (ny C m sp dvs E0 ta t):=by
 obtain⟨ds,hb,hd⟩:=F.b;exact⟨BO (pl:=pl) ho.h F.c F.mt F.ok (g.mono d) hb hd qo l.h (cv (dz a).1) (hZ (dz a).2) i⟩
end
def vI:Value->Option Int
 | .int k _=>some k
 | _=>none
def vR:Value->Option Addr
 | .ref a=>some a
 | _=>none
def Gf{v:Value}{k:Int}(h:vI v=some k):∃t,v=.int k t:=by
 cases v<;>cases h;exact⟨_,Z⟩
def Ge{v:Value}{a:Addr}(h:vR v=some a):v=.ref a:=by
 cases v<;>cases h
 rfl
def jV:List DictEntry->Option (List (Int × Addr))
 | []=>some []
 | e::r=>(vI e.key).bind λk=>(vR e.val).bind λa=>if e.hash == hashInt k then (jV r).bind λl=>some ((k,a)::l) else none
theorem jV.pairs{P:Program}{w:World}:∀ {es:List DictEntry} {m:List (Int × Addr)},jV es=some m ->
 (∀e∈es,∃k,(cD P w).is k e.key=true/\e.hash=(cD P w).hash k)/\Pairs (cD P w) es (m.map λp=>((Sum.inl p.1:aV),Value.ref p.2))
 | [],m,h=>by cases h;exact⟨λ_ z=>(nomatch z),.nil⟩
 | e::r,m,h=>by
  obtain⟨k,d,h⟩:=WF.mp h;obtain⟨a,b,h⟩:=WF.mp h;obtain⟨i,d⟩:=Gf d;have b:=Ge b;by_cases c:e.hash == hashInt k
  ·rw[X9 c]at h;obtain⟨l,q,h⟩:=WF.mp h;cases h;obtain⟨g,j⟩:=jV.pairs (P:=P) (w:=w) q;have f:(cD P w).is (.inl k) e.key=true:=by rw[d];exact Cf P w k i
   refine⟨λx hx=>?_,.cons f b j⟩;cases hx with
   | head=>exact⟨.inl k,f,eq_of_beq c⟩
   | tail _ z=>exact g x z
  ·rw[X8 c]at h;cases h
structure sW (K:W.Frag) (a:Addr) (m:List (Int × Addr)):Prop where
 ex:∃es ep,K.lookup a=some ⟨.type "dict",none,.dict es ep,#[]⟩/\jV es.toList=some m
 nd:(m.map (·.1)).Nodup
 ns:(a == sysModules)=false
def sW.rd{K:W.Frag}{a:Addr}{m:List (Int × Addr)}{P:Program}{w:World}{h:Heap}(D:sW K a m)(X:K.In h):h.DictOf (cD P w) a (m.map λp=>((Sum.inl p.1:aV),Value.ref p.2)):=by
 obtain⟨es,f,l,e⟩:=D.ex;obtain⟨g,d⟩:=jV.pairs (P:=P) (w:=w) e;refine⟨_,es,f,X _ _ l,⟨rfl,rfl,rfl⟩,rfl,λe c=>g e (XQ.mpr c),d,?_⟩;rw[Wo];have:(((λx=>x.1) ∘ λp:Int × Addr=>((Sum.inl p.1:aV),Value.ref p.2)):Int × Addr->aV)=(λi:Int=>(Sum.inl i:aV)) ∘ (·.1):=rfl;rw[this,<- Wo];exact List.Pairwise.map _ (λa b (z:a≠b) (q:(Sum.inl a:aV)=Sum.inl b)=>z (Sum.inl.inj q)) D.nd
def n6(m:List (Int × Addr))(i:Int):Option V:=(m.find? λp=>decide (p.1=i)).map λp=>V.ref p.2
theorem Di:∀(m:List (Int × Addr)) (i:Int) (z:V) (r:Value),aR z r->aR ((n6 m i).getD z) ((valueAt (m.map λp=>((Sum.inl p.1:aV),Value.ref p.2)) (Sum.inl i)).getD r)
 | [],i,z,r,h=>h
 | p::m,i,z,r,h=>by
  have ih:=Di m i z r h;unfold n6 valueAt at ih ⊢;rw[VM,VS,VS];by_cases c:p.1=i
  ·have c':(Sum.inl p.1:aV)=Sum.inl i:=congrArg _ c;simp only [Yc c,Yc c',Wi,Option.getD_some]
   rfl
  ·have c':¬(Sum.inl p.1:aV)=Sum.inl i:=λq=>c (Sum.inl.inj q);simp only [Yd c,Yd c'];exact ih
def Au(m:List (Int × Addr))(ty a:TE):TE:=λσ H Q=>ty σ H λy c=>a σ c λz b=>∃i,y=.int i/\Q ((n6 m i).getD z) b
section
variable {X:Cx}{K:W.Frag}{a:Addr}{m:List (Int × Addr)}{e f:Expr}{x:Str}{p apos cpos:Pos}{ty tx:TE}
def J4 (h:X.K=K) (D:sW K a m) (B:Gl X x) (N:X.mg x=some (.ref a)) (O:QE X e ty) (hf:QE X f tx) (hd:(x == ("__debug__" : Str))=false:=by decide)
 (g:attributeBase (.Name x p) "get" X.env (eval (.Name x p) X.env)=eval (.Name x p) X.env:=by rfl)
 (j:((backTo cpos (starEach [e,f] X.env)).all (λx=>!x.1) && (backToKw cpos (keywordEach [] X.env)).all (λx=>x.1.isSome)
   && decide (([e,f]:List Expr).length+([]:List Keyword).length+(if ([]:List Keyword).isEmpty then 0 else 1)<30))=true:=by rfl)
 (d:(apos.endLine == cpos.line)=true:=by rfl) (l:backTo cpos (starEach [e,f] X.env)=[(false,eval e X.env),(false,eval f X.env)]:=by rfl) :
 QE X (.Call (.Attribute (.Name x p) "get" apos) [e,f] [] cpos) (Au m ty tx):=⟨by
 subst h;intro c s σ H Q I h;have ho:PE X (.Name x p) (tC (.ref a)):=(fS (v:=.ref a) B N rfl hd).h;refine wpAny_Call_method g j d XH WA XI (aB (ho c s σ H (λv H'=>v=.ref a/\Au m ty tx σ H' Q) I ⟨rfl,h⟩) λu s1 ζ=>?_);obtain⟨x,C,n,rx,ex,Y⟩:=ζ;subst ex;obtain rfl:u=Value.ref a:=rx;have d1:=D.rd (P:=X.prog) (w:=X.w) n.kIn;refine⟨d1.typeIs,λb q=>?_,?_⟩
 ·cases q;obtain⟨S,_,_,U,R,_⟩:=d1;exact⟨S,U,R.2.1⟩
 rw[l];refine Calls.callWith_builtin Z (Calls.evalArgs_plain (Calls.spliced_cons (aB (O.h c s1 σ C _ n Y) λiv M ⟨y,W,J,G,q2⟩ =>
  Calls.spliced_cons (aB (hf.h c M σ W _ J q2) λo s3 ⟨z,H3,r,rz,i,L,V⟩=>Calls.spliced_nil ?_))))
 subst L;have d3:=D.rd (P:=X.prog) (w:=X.w) r.kIn;exact call_meetsIn WA d3.typeIs Xj (PySem.F.args_dict_get_3 _ _ _) (meets_dict_get_default (cD X.prog X.w) a (jf (k:=.inl i) G) D.ns o) ⟨_,d3.mapOf,_,_,r.tok _,Di m i z o rz,V⟩⟩
end
def iM{o:Obj}{vs:Array Value}(hd:o.data=.fields vs)(f:Array Value->Array Value):o.mapFields f = { o with data:=.fields (f vs) }:=by
 obtain⟨c,d,a,b⟩:=o;obtain rfl:a=.fields vs:=hd
 rfl
structure cF (h:Heap) (e C:Addr) (od:Option Addr) (tb:Value) (oe:Obj) (vs:Array Value) (q:Bool:=false):Prop where
 at_:h.get? e=some oe
 cls:oe.cls=.ref C
 dict:oe.dict=od
 data:oe.data=.fields vs
 size:vs.size=6
 tb1:vs[1]? = some tb
 cx:q=false->vs[2]? = some .none
def jp(h:Heap)(e T:Addr)(a:Value):Prop:=∃oT ts,h.get? T=some oT/\oT.data=.fields ts/\ts[3]? = some a/\T≠e
section
variable {M:Model}{A:Around}{E:Value->fy->Prop}{s:fy}
structure mX (l:List Env) (e C T':Addr) (od:Option Addr) (tb fl:Value) (h h':Heap) (q:Bool:=false):Prop where
 keep:∀b o,h.get? b=some o->b≠e->.ref b≠tb->b∉cJ l->h'.get? b=some o
 slot:∀b o,h.get? b=some o->b∈cJ l->∃sl,h'.get? b=some { o with slots:=sl }
 there:∀b o,h.get? b=some o->∃o',h'.get? b=some o'
 new:h.objs.size<=T'
 size:h.objs.size<=h'.objs.size
 exc:∃oe vs,cF h' e C od (.ref T') oe vs q
 ent:jp h' e T' fl
def B7{base:Heap}{env:Env}{outer:List Env}{L e C:Addr}{od:Option Addr}{h:Obj}{vs:Array Value}{hd tb:Value}{nx q:Bool}{Q:Unit->fy->Prop}
 (hA:A.frames=some (env::outer)) (hF:s.heap.FunFrames base (env::outer)) (hL:env.frame=some L) (x:cF s.heap e C od tb h vs q)
 (k:∀h' T',mX (env::outer) e C T' od .none (rawInt L) s.heap h' q->Q () { s with heap:=h' }) :
 wpAny M A (do let a <- frameOf env;let pl <- entryPlaceOf L nx;let b <- EntryCells.newEntry hd a .none (rawInt L) .none pl;setField (.ref e) 1 b) Q E s:=by
 have ne:e∉cJ (env::outer):=λm=>by
  obtain⟨_,o,ho,l⟩:=hF.mem m;rw[x.at_]at ho;cases ho;exact l vs x.data
 refine on (wpAny_frameOf_fun hA hF hL λc y=>on (wpAny_entryPlaceOf λpl i=>?_));unfold EntryCells.newEntry newFields;refine on (wpAny_newObj_type ?_ (i.sizeOk5 _ _ _ _ _));have g:c.get? e=some h:=(y.2.1 e ne).trans x.at_;obtain⟨N,hN⟩:∃N:Obj,N = { cls:=.type "traceback",dict:=none,data:=.fields ([hd,.ref L,.none,rawInt L,.none]++(if pl.isEmpty then List.replicate 6 Value.none else pl)).toArray }:=⟨_,rfl⟩;rw[<- hN];have f:=Vg N g;have nT:c.objs.size≠e:=V6 (Vb g);refine wpAny_setField f x.data (by rw[x.size];decide) (k _ c.objs.size ?_);have d:=WG (Obj.mapFields (·.setIfInBounds 1 (Value.ref c.objs.size))) f (by rw[iM x.data];rfl);rw[iM x.data]at d;have tN:N.data=.fields ([hd,.ref L,.none,rawInt L,.none]++(if pl.isEmpty then List.replicate 6 Value.none else pl)).toArray:=by rw[hN]
 have p:=(Wa (c.push N) (Obj.mapFields (·.setIfInBounds 1 (Value.ref c.objs.size))) (Ne.symm nT)).trans (VH c (o:=N) (by rw[hN];rfl));have kp:∀b o,b≠e->c.get? b=some o->((c.push N).update e (Obj.mapFields (·.setIfInBounds 1 (Value.ref c.objs.size)))).get? b=some o:=λb o n q=>by
  rw[Wa _ _ (Ne.symm n)];exact Vg _ q
 have sz:s.heap.objs.size=c.objs.size:=y.1.symm;refine⟨λb o q r _ u=>kp b o r ((y.2.1 b u).trans q),λb o q m=>?_,λb o q=>?_,Wv sz,by rw[W2,Wf,sz];exact Wg _,⟨_,_,d,x.cls,x.dict,Z,?_,?_,λz=>?_⟩,⟨N,_,p,tN,?_,nT⟩⟩
 ·obtain⟨j,hs⟩:=y.2.2 b o q;exact⟨j,kp b _ (λz=>ne (z ▸ m)) hs⟩
 ·by_cases n:b=e
  ·subst n;exact⟨_,d⟩
  ·obtain⟨j,hs⟩:=y.2.2 b o q;exact⟨_,kp b _ n hs⟩
 ·rw[XR];exact x.size
 ·have:1<vs.size:=by rw[x.size];decide
  simp[this]
 ·rw[Array.getElem?_setIfInBounds_ne (by decide)];exact x.cx z
 ·rcases i with rfl|⟨_,_,_,_,_,_,_,rfl⟩<;>simp
def sQ(h:Heap)(e:Addr)(tb:Value):Prop:=tb=.none\/∃T,tb=.ref T/\jp h e T .none
def B4{base:Heap}{env:Env}{outer:List Env}{L e C:Addr}{od:Option Addr}{h:Obj}{vs:Array Value}{tb:Value}{q:Bool}{Q:Unit->fy->Prop}
 (hA:A.frames=some (env::outer)) (hF:s.heap.FunFrames base (env::outer)) (hL:env.frame=some L) (x:cF s.heap e C od tb h vs q) (i:sQ s.heap e tb)
 (k:∀h' c,mX (env::outer) e C c od tb (rawInt L) s.heap h' q->Q () { s with heap:=h' }):wpAny M A (noteFrame (.ref e) env) Q E s:=by
 unfold noteFrame;simp only [hL];refine on (wpAny_field x.at_ x.data x.tb1 ?_);rcases i with rfl|⟨T,rfl,oT,ts,hT,dT,fT,nT⟩
 ·rw[X8 (by decide)];exact B7 hA hF hL x k
 ·rw[X9 (show (Value.ref T != Value.none)=true by simp)];refine on (wpAny_field hT dT fT ?_);rw[X8 (show ¬(Value.none == rawInt L)=true by simp[rawInt])];refine on (wpAny_setField hT dT (W0.mp fT).1 ?_);have a:∀b,b≠T->(s.heap.update T (Obj.mapFields (·.setIfInBounds 3 Value.none))).get? b=s.heap.get? b:=λb n=>Wa _ _ (Ne.symm n);have self:=WG (Obj.mapFields (·.setIfInBounds 3 Value.none)) hT (by rw[iM dT];rfl);have nF:T∉cJ (env::outer):=λm=>by
   obtain⟨_,o,ho,d⟩:=hF.mem m;rw[hT]at ho;cases ho;exact d ts dT
  refine B7 (base:=base) hA (hF.of_keeps λb o q d=>⟨o,(a b λz=>?_).trans q,rfl⟩) hL ⟨(a e (Ne.symm nT)).trans x.at_,x.cls,x.dict,x.data,x.size,x.tb1,x.cx⟩ λh' c N=>k h' c ⟨λb o q g j f=>?_,λb o q m=>?_,λb o q=>?_,by have:=N.new;rwa [W2]at this,by have:=N.size;rwa [W2]at this,N.exc,N.ent⟩
  ·subst z;rw[hT]at q;cases q;exact d ts dT
  ·exact N.keep b o ((a b λz=>j (by rw[z])).trans q) g (by simp) f
  ·exact N.slot b o ((a b λz=>nF (z ▸ m)).trans q) m
  ·by_cases n:b=T
   ·subst n;exact N.there _ _ self
   ·exact N.there b o ((a b n).trans q)
def CB{e C T:Addr}{od:Option Addr}{c:Obj}{vs:Array Value}{d:Value}{q:Bool}{Q:Unit->fy->Prop}(x:cF s.heap e C od (.ref T) c vs q)(t:jp s.heap e T d)
 (k:∀h',h'.objs.size=s.heap.objs.size->(∀b o,s.heap.get? b=some o->b≠T->h'.get? b=some o)->(∀b o,s.heap.get? b=some o->∃o',h'.get? b=some o')->cF h' e C od (.ref T) c vs q->jp h' e T .none->Q () { s with heap:=h' }):wpAny M A (setFlight (.ref e) none) Q E s:=by
 obtain⟨oT,g,hT,dT,fT,nT⟩:=t;unfold setFlight;refine on (wpAny_field x.at_ x.data x.tb1 ?_);rw[X9 (show (Value.ref T != Value.none)=true by simp)];have z3:=(W0.mp fT).1;have a:∀b,b≠T->(s.heap.update T (Obj.mapFields (·.setIfInBounds 3 ((none:Option Addr).elim Value.none λf=>rawInt f)))).get? b=s.heap.get? b:=λb n=>Wa _ _ (Ne.symm n);have self:=WG (Obj.mapFields (·.setIfInBounds 3 ((none:Option Addr).elim Value.none λf=>rawInt f))) hT (by rw[iM dT];rfl);refine wpAny_setField hT dT z3 (k _ (W2 ..) (λb o q n=>(a b n).trans q) (λb o q=>?_) ⟨(a e (Ne.symm nT)).trans x.at_,x.cls,x.dict,x.data,x.size,x.tb1,x.cx⟩ ⟨_,_,self,by rw[iM dT],by simp[z3],nT⟩);by_cases n:b=T
 ·subst n;exact⟨_,self⟩
 ·exact⟨o,(a b n).trans q⟩
def Nl{base:Heap}{env:Env}{outer:List Env}{L e C:Addr}{od:Option Addr}{r:Obj}{vs:Array Value}{tb:Value}{q:Bool}{Q:Unit->fy->Prop}
 (hA:A.frames=some (env::outer)) (hF:s.heap.FunFrames base (env::outer)) (hL:env.frame=some L) (x:cF s.heap e C od tb r vs q) (u:sQ s.heap e tb)
 (k:∀h' T',mX (env::outer) e C T' od tb .none s.heap h' q->Q () { s with heap:=h' }):wpAny M A (leaving env (.ref e)) Q E s:=by
 unfold leaving;refine on (B4 hA hF hL x u λD d a=>?_);obtain⟨g,y,h⟩:=a.exc;have c:∀b o,s.heap.get? b=some o->b≠d:=λb o q=>Vi (Vd (Vb q) a.new);refine CB h a.ent λi sz k2 B f j=>k i d ⟨λb o q p l n=>?_,λb o q m=>?_,λb o q=>?_,a.new,by rw[sz];exact a.size,⟨_,_,f⟩,j⟩
 ·exact k2 b o (a.keep b o q p l n) (c b o q)
 ·obtain⟨v,hs⟩:=a.slot b o q m;exact⟨v,k2 b _ hs (c b o q)⟩
 ·obtain⟨z,hs⟩:=a.there b o q;exact B b z hs
end
def xφ(e C:Addr)(od:Option Addr)(q:Bool):Heap->Prop:=λh=>∃tb oe vs,cF h e C od tb oe vs q
def xν(e C:Addr)(od:Option Addr):Heap->Prop:=λh=>∃oe vs,cF h e C od .none oe vs
def XO(e C:Addr)(od:Option Addr)(q:Bool:=false):HO:=.ext (xφ e C od q)
def XN(e C:Addr)(od:Option Addr):HO:=.ext (xν e C od)
def cF.keeps{h h':Heap}{e C:Addr}{od:Option Addr}{tb:Value}{a:Obj}{vs:Array Value}{q:Bool}(x:cF h e C od tb a vs q)(k:∀o,h.get? e=some o->h'.get? e=some o):cF h' e C od tb a vs q:=⟨k _ x.at_,x.cls,x.dict,x.data,x.size,x.tb1,x.cx⟩
section
variable {P:Program}{w:World}{H:Hp}{h:Heap}{e C:Addr}{od:Option Addr}
def zy{tb:Value}{a:Obj}{vs:Array Value}{q:Bool}(x:cF h e C od tb a vs q):bK P w H h e (XO e C od q) :=
 ⟨⟨tb,a,vs,x⟩,⟨a,x.at_⟩,λ_ _ ⟨tb,a,vs,y⟩ k=>⟨tb,a,vs,y.keeps k⟩⟩
def sZ{a:Obj}{vs:Array Value}(x:cF h e C od .none a vs):bK P w H h e (XN e C od) :=
 ⟨⟨a,vs,x⟩,⟨a,x.at_⟩,λ_ _ ⟨a,vs,y⟩ k=>⟨a,vs,y.keeps k⟩⟩
end
def ii(P:Program)(w:World):gQ:=λouter H s E v a=>∃(e C T:Addr) (od:Option Addr) (q:Bool) (b:Hp) (c:Obj) (vs:Array Value),v=.ref e/\a.os=s.os/\AllBare a.gens /\
 Un (cJ outer) [] H b s.heap a.heap/\bM P w b a.heap/\b e=some (XO e C od q)/\s.heap.get? e=none/\s.heap.objs.size<=T/\s.heap.objs.size<=a.heap.objs.size/\b T=none /\
 cF a.heap e C od (.ref T) c vs q/\jp a.heap e T .none/\E (.ref C) (some e) b
def bK.there{P:Program}{w:World}{H:Hp}{h:Heap}{a:Addr}{o:HO}(x:bK P w H h a o):∃u,h.get? a=some u:=by
 cases o with
 | lst xs=>obtain⟨_,_,_,_,e⟩:=x;exact⟨_,e⟩
 | tup xs=>obtain⟨_,_,_,b,e,_⟩:=x;exact⟨_,e⟩
 | dK kvs=>obtain⟨_,_,_,_,b,_,_,e,_⟩:=x;exact⟨_,e⟩
 | dT kvs=>obtain⟨_,_,_,_,b,_,_,e,_⟩:=x;exact⟨_,e⟩
 | set S n=>obtain⟨b,_,_,_,e,_⟩:=x;exact⟨_,e⟩
 | ins C dx fs=>obtain⟨_,_,_,e,_⟩:=x;exact⟨_,e⟩
 | own y=>exact x
 | xd fs=>obtain⟨_,⟨_,_,_,e,_⟩,_⟩:=x;exact⟨_,e⟩
 | rng lo hi=>obtain⟨_,_,_,e⟩:=x;exact⟨_,e⟩
 | frz b u=>obtain⟨e,_⟩:=x;exact⟨_,e⟩
 | tbl ps=>exact⟨_,show h.get? a=some _ from x⟩
 | met f y=>exact⟨_,show h.get? a=some _ from x⟩
 | ext φ=>exact x.2.1
def sV(X:Cx)(a:List (Addr × Obj))(Es:St->XK)(v:Value)(c:fy):Prop:=∃(σ:St) (b:Hp) (e C:Addr) (od:Option Addr) (q:Bool) (tb:Value) (d:Obj) (vs:Array Value),v=.ref e/\af X a σ b c /\
 b e=some (XO e C od q)/\cF c.heap e C od tb d vs q/\sQ c.heap e tb/\(∀T,tb=.ref T->b T=none/\X.s₀.heap.objs.size<=T/\∀p∈X.pn++a,p.1≠T)/\(X.ex=[]->X.s₀.heap.get? e=none)/\Es σ (.ref C) (some e) b
structure jY (X:Cx) (Es:St->XK):Prop where
 up:∀pins v s',sV X pins Es v s'->X.xe v s'
section
variable {X:Cx}{pins:List (Addr × Obj)}{σ:St}{H:Hp}{s s':fy}{Es:St->XK}{v:Value}
def af.newx{e:Addr}(I:af X pins σ H s)(hx:X.ex=[])(a:s.heap.get? e=none):X.s₀.heap.get? e=none:=by
 cases q:X.s₀.heap.get? e with
 | none=>rfl
 | some o =>
  obtain⟨b,z⟩:=I.base.there e o q (by rw[hx];simp);rw[a]at z;cases z
def Qv(I:af X pins σ H s)(h:ii X.prog X.w X.stack H s (Es σ) v s'):sV X pins Es v s':=by
 obtain⟨e,C,T,od,g,i,f,vs,rfl,ho,d,un,hok,hx,c,hT,hz,nT,x,tb,q⟩:=h;refine⟨σ,i,e,C,od,g,.ref T,f,vs,rfl,I.call' (ch:=[]) ho un hok d (λb z=>Ya z (by simp)),hx,x,.inr ⟨T,rfl,tb⟩,λk z=>?_,λa=>I.newx a c,q⟩;cases z;refine⟨nT,Vs I.sz hT,λp j z=>?_⟩;exact Ya (Vd (Vb (I.pin p j).1) hT) (by rw[z];exact VJ _)
def af.old_x{e C:Addr}{od:Option Addr}(I:af X pins σ H s)(hx:H e=some (XN e C od)):af X pins σ (upd H e (XO e C od)) s:=by
 obtain⟨⟨a,vs,x⟩,_⟩:=I.hok e _ hx;have q:=af.write (t':=s.toks) (e:=e) (h':=s.heap) (o:=XO e C od) I (by rw[hx];trivial) (.inl rfl) (λb u _ z=>z) ⟨_,x.at_⟩ (zy x);exact q
def Qu{e C:Addr}{od:Option Addr}(I:af X pins σ H s)(hx:H e=some (XN e C od))(b:X.ex=[]->X.s₀.heap.get? e=none)(q:Es σ (.ref C) (some e) (upd H e (XO e C od))):sV X pins Es (.ref e) s:=by
 obtain⟨⟨a,vs,x⟩,_⟩:=I.hok e _ hx;exact⟨σ,_,e,C,od,false,.none,a,vs,rfl,I.old_x hx,aX,x,.inl rfl,λT z=>(by cases z),b,q⟩
def mX.hok{P:Program}{w:World}{l:List Env}{e C i:Addr}{od:Option Addr}{tb j:Value}{h h':Heap}{f:Bool}(N:mX l e C i od tb j h h' f)(ok:bM P w H h)(hx:H e=some (XO e C od f))(k:∀T,tb=.ref T->H T=none)
 (hf:∀b∈cJ l,H b=none):bM P w H h':=λb o q=>by
 have kp:∀c u d,H c=some u->c≠e->h.get? c=some d->h'.get? c=some d:=λc u d z n y=>N.keep c d y n (λg=>by rw[k c g.symm]at z;cases z) λm=>by rw[hf c m]at z;cases z
 by_cases n:b=e
 ·subst n;rw[hx]at q;cases q;obtain⟨p,vs,x⟩:=N.exc;exact zy x
 ·refine (ok b o q).stay (λc u a y=>?_) (λ_ z=>z) λ_ _ z=>z;rcases a with rfl|a
  ·exact kp c o u q n y
  ·refine kp c _ u a (λz=>?_) y;rw[z,hx]at a;cases a
end
def Nj{P:Program}{w:World}{K:W.Frag}{mg:Str->Option Value}{base:Heap}{Ns:List Str}{qual:Str}{scope:Scope}{f:Addr}{c:Value}{A:Around}{outer:List Env}{s:fy}{H:Hp}{E:XK} :
 jY (gp (ii P w) P w K mg base Ns qual scope f c A outer s H E) (λ_=>E):=⟨by
 rintro k v R ⟨σ,j,e,C,od,r,tb,M,vs,rfl,I,hx,x,D,hT,l,q⟩;refine Nl (base:=base) I.ok.frames I.stack Z x D λJ a N=>?_;have L:s.heap.objs.size<=(gp (ii P w) P w K mg base Ns qual scope f c A outer s H E).env.locals:=I.ok.above;have p:∀b o,s.heap.get? b=some o->b∉cJ outer->b∉cJ (gp (ii P w) P w K mg base Ns qual scope f c A outer s H E).stack:=λb o z n m=>by
  rcases Vr.mp (I.stkSub b m) with y|y
  ·exact Ya (Vd (Vb z) L) (by rw[y];exact VJ _)
  ·exact n y
 have nx:∀b:Addr,b∉([]:List Addr):=λb z=>by cases z
 have ne:∀b o,s.heap.get? b=some o->b≠e:=λb o z y=>by
  have:=l rfl;rw[<- y]at this;have z2:(gp (ii P w) P w K mg base Ns qual scope f c A outer s H E).s₀.heap.get? b=some o:=z;rw[this]at z2;cases z2
 have F:∀b o,s.heap.get? b=some o->Value.ref b≠tb:=λb o z y=>Ya (Vd (Vb z) (hT b y.symm).2.1) (VJ _);obtain⟨d,g,G⟩:=N.exc;have i:j a=none:=by
  cases z:j a with
  | none=>rfl
  | some o =>
   obtain⟨u,y⟩:=bK.there (I.hok a o z);exact Ya (Vd (Vb y) N.new) (VJ _)
 refine⟨e,C,a,od,r,j,d,g,Z,I.os,I.bare,⟨λb o z n m _=>?_,λb o z n m _=>?_,λb o z n _=>?_,λb o z _=>?_,I.base.tups,I.base.frzs,I.base.tbls⟩,
  N.hok I.hok hx (λT z=>(hT T z).1) I.stkFree,hx,l rfl,Vs I.sz N.new,Vs I.sz N.size,i,G,N.ent,q⟩
 ·exact N.keep b o (I.base.keep b o z n m (nx b)) (ne b o z) (F b o z) (p b o z m)
 ·obtain⟨O,y⟩:=I.base.slot b o z n m (nx b);obtain⟨h,B⟩:=N.slot b _ y (by show b∈cJ (_::outer);unfold cJ;rw[WS];exact Vx _ m);exact⟨h,B⟩
 ·exact I.base.free b o z n (nx b)
 ·obtain⟨o1,y⟩:=I.base.there b o z (nx b);exact N.there b o1 y⟩
section
variable {P:Program}{w:World}{K:W.Frag}{mg:Str->Option Value}{base:Heap}{x qual:Str}{st:Stmt}{f:Addr}{fd:FuncData}{N ps:List Str}{k:Nat}{sp:Sp}{ds:List Value}
def aT.okX(F:aT K x qual st f fd)(S:aL N ps (am st))(len:∀vs H Q E,sp vs H Q E->vs.length=ps.length)
 (b:∀(a:Value) (A:Around) (outer:List Env) (s:fy) (H:Hp) (vs:List V) (Q:VK) (E:XK),bV k (A.deeper (envOfC qual (am st) s.heap.objs.size f a))->sp vs H Q E ->
   ∃t,fM (gp (ii P w) P w K mg base N qual (am st) f a A outer s H E) (aI st) t/\t { nx:=λ_ l=>Q .non l,rt:=Q } (gX N vs) H):bN P w K mg base (ii P w) (k+1) f fd ps sp:=by
 obtain⟨n,od,kV,j,m,o,a,ct,i,rfl,g,c⟩:=F.ex;exact vg g c S len λA outer s H vs Q E e d=>let ⟨t,h,q⟩:=b a A outer s H vs Q E e d;⟨t,h.h,q⟩
end
structure ED (P:Program) (w:World) (K:W.Frag) (mg:Str->Option Value) (base:Heap) (x:Str) (k:Nat) (f:Addr) (fd:FuncData) (ps:List Str) (dvs:List V) (sp:Sp):Prop where
 g:mg x=some (.ref f)
 kp:W.keepIn K (.ref f)=true
 b:∃ds,ax K fd ps ds/\aJ dvs ds
 ok:bN P w K mg base (ii P w) k f fd ps sp
structure US (P:Program) (w:World) (K:W.Frag) (mg:Str->Option Value) (base:Heap) (C:Addr) (m:Str) (k:Nat) (f:Addr) (fd:FuncData) (ps:List Str) (dvs:List V) (sp:Sp):Prop where
 c:dH K C
 mt:bE K C m f
 b:∃ds,ax K fd ps ds/\aJ dvs ds
 ok:bN P w K mg base (ii P w) k f fd ps sp
structure UU (P:Program) (w:World) (K:W.Frag) (mg:Str->Option Value) (base:Heap) (x:Str) (C:Addr) (k:Nat) (f:Addr) (fd:FuncData) (ps:List Str) (dvs:List V) (sp:Sp):Prop where
 g:mg x=some (.ref C)
 mkx:Mk K C f
 b:∃ds,ax K fd ps ds/\aJ dvs ds
 ok:bN P w K mg base (ii P w) k f fd ps sp
def GY(sp:Sp)(a:List V)(Es:St->XK)(t:TA):TE:=λσ H Q=>t σ H λvs b=>sp (vs++a) b Q (Es σ)
section
variable {X:Cx}{k j:Nat}{f C:Addr}{fd:FuncData}{ps:List Str}{sp:Sp}{x m:Str}{p pos apos:Pos}{e o:Expr}{es:List Expr}{ta:TE}{t:TA}{dvs:List V}{ds:List Value}{Es:St->XK}
def Jt{a:List (Addr × Obj)}{σ:St}{H:Hp}{s:fy}{Q:VK}{us:List Value}{vs:List V}(F:bN X.prog X.w X.K X.mg X.base (ii X.prog X.w) k f fd ps sp)(d:bV k X.A)(hb:ax X.K fd ps ds)(hd:aJ dvs ds)(hx:jY X Es)
 (I:af X a σ H s) (r:aJ vs us) (h:sp (vs++dvs) H Q (Es σ)):wpAny (model X.prog X.w) X.A (call (.ref f) us) (EP X a σ Q) X.xe s:=by
 have c:aJ (vs++dvs) (us++ds):=r.append hd;refine wpAny_call (codeAny_mono (F.run X.A X.stack s H ⟨us,[]⟩ (us++ds) (vs++dvs) Q (Es σ) d I.env0 (hb s us I.kIn (by rw[<- c.length];exact F.len _ _ _ _ h)) c h) λr g b=>?_);cases r with
 | error e=>exact hx.up _ _ _ (Qv I b)
 | ok fl =>
  cases fl with
  | ret u=>exact I.after b
  | next=>exact b.elim
  | brk=>exact b.elim
  | cont=>exact b.elim
def J5(F:ED X.prog X.w X.K X.mg X.base x j f fd ps dvs sp)(n:bV k X.A)(hx:jY X Es)(o:QA X (e::es) t)(l:j<=k:=by decide)(m:Gl X x:=by rfl)
 (c:(x == ("__debug__" : Str))=false:=by decide) (d:dA (e::es)=true:=by rfl):QE X (.Call (.Name x p) (e::es) [] pos) (GY sp dvs Es t):=⟨by
 intro a s σ H Q I h;obtain⟨ds,hb,hd⟩:=F.b;refine wpAny_Call_Name_kw (jO I m F.g ?_ c);refine W.callWith_K (h₀:=X.base) I.ok.mod.kin F.kp (aB (o.h pos a s σ H _ I h) λus s1 ⟨vs,u,i,r,q⟩=>⟨i.kIn,?_⟩) (cv (dz d).1) (hZ (dz d).2);exact Jt F.ok (n.mono l) hb hd hx i r q⟩
end
section
variable {X:Cx}{pins:List (Addr × Obj)}{σ:St}{H:Hp}{s:fy}{h':Heap}
def af.adopt{e:Addr}{o:HO}{t':Nat}(I:af X pins σ H s)(k:∀b u,s.heap.get? b=some u->h'.get? b=some u)(d:s.heap.get? e=none)(new:bK X.prog X.w (upd H e o) h' e o):af X pins σ (upd H e o) { s with heap:=h',toks:=t' }:=by
 have a:H e=none:=by
  cases q:H e with
  | none=>rfl
  | some u=>obtain⟨z,y⟩:=bK.there (I.hok e u q);rw[d]at y;cases y
 have ne:∀b u,s.heap.get? b=some u->b≠e:=λb u q z=>by rw[z,d]at q;cases q
 refine I.un ⟨λb u q _ _ _=>k b u q,λb u q _ _ _=>⟨u.slots,k b u q⟩,λb u q n _=>by rw[au (ne b u q)];exact n,λb u q _=>⟨u,k b u q⟩,λb xs q=>by rw[au (aO q a)];exact q,λb u xs q=>by rw[au (aO q a)];exact q,λb ps q=>⟨#[],by rw[au (aO q a),q];simp⟩⟩ λb u q=>?_;by_cases hb:b=e
 ·subst hb;rw[aX]at q;cases q;exact new
 ·rw[au hb]at q;exact (I.hok b u q).stay (λc v _ z=>k c v z) (λc z=>by rw[au (aO z a)];exact z) λc xs z=>by rw[au (aO z a)];exact z
end
abbrev iX:List Value:=[.type "ValueError",.type "Exception",.type "BaseException",.type "object"]
section
variable {X:Cx}{pins:List (Addr × Obj)}{σ:St}{H:Hp}{s:fy}{h':Heap}
def pP{M:Model}{A:Around}{E:Value->fy->Prop}{j:Nat}{n:Str}{pos:Pos}{Q:Unit->fy->Prop}(I:af X pins σ H s)(hN:X.N.Nodup)(B:X.N[j]? = some n)(x:X.env.scope.names.lookup n=some .local)
 (k:∀s',af X pins (σ.set j none) H s'->Q () s'):wpAny M A (do bindName X.env n .none;unbindBehindTheSuite X.env n pos) Q E s:=by
 have g:j<σ.length:=by rw[I.len];exact (Vh.mp B).1
 refine on (wpAny_bindName (j9 (v:=.non) I hN B (.inl x) Z (λs1 a=>?_) (.inr x)));have L:X.env.kindOf n=some .local:=x;have Y:(X.env.scope.kind == .class || (X.env.scope.kind == .module && X.env.locals != X.env.globals))=false:=by rw[I.ok.kind];rfl
 obtain⟨m,O,F⟩:=id a.loc;obtain⟨u,_,look⟩:=F j n .non B (by rw[WT g]) (.inl x);have U:m n=some u:=by
  rcases look with z|⟨z,_⟩
  ·exact z.2
  ·rcases z with z|z<;>(rw[L]at z;cases z)
 unfold unbindBehindTheSuite;refine wpAny_onRaise ?_;unfold unbindName;refine on (wpAny_point (on ?_));unfold deleteName;simp only [L,Y];rw[X8 (by decide)];refine on (wpAny_nsDel_keeps O λh2 v D sb=>?_);rw[U];simp only [Option.isSome_some,if_true,Wp,VU,if_false];refine X7 (wpAny_point (k _ ?_));obtain⟨oL,_,_,hoL,_⟩:=id O;have f:∀b o,X.s₀.heap.get? b=some o->b≠X.env.locals:=λb o e=>Vi (Vd (Vb e) I.ok.above);refine⟨a.ok,a.os,a.bare,⟨λb o e h hb hx=>(sb.2 b (f b o e)).trans (a.base.keep b o e h hb hx),λb o e h hb hx=>?_,a.base.free,λb o e hx=>?_,a.base.tups,a.base.frzs,a.base.tbls⟩,⟨_,D,λi y w J l R=>?_⟩,λy c e=>?_,a.free,a.freeC,λp C=>?_,λb ob e=>?_,?_⟩
 ·obtain⟨sl,z⟩:=a.base.slot b o e h hb hx;exact⟨sl,(sb.2 b (f b o e)).trans z⟩
 ·obtain⟨W,z⟩:=a.base.there b o e hx;exact⟨W,(sb.2 b (f b o e)).trans z⟩
 ·by_cases c:i=j
  ·subst c;rw[WT g]at l;cases l
  ·rw[WU (Ne.symm c)]at l;obtain⟨S,V,q⟩:=F i y w J (by rw[WU (Ne.symm c)];exact l) R;refine⟨S,V,?_⟩;rcases q with ⟨z1,z2⟩|⟨z1,cc,z2,z3⟩
   ·refine .inl ⟨z1,?_⟩;have:y≠n:=λz=>c (uc hN J (z ▸ B));simp[this,z2]
   ·exact .inr ⟨z1,cc,z2,z3.sameBut sb (a.cne y cc z2)⟩
 ·obtain⟨G,z⟩:=a.cell y c e;exact⟨G,z.sameBut sb (a.cne y c e)⟩
 ·obtain⟨e,h,ne,nf,d⟩:=a.pin p C;exact⟨(sb.2 p.1 ne).trans e,h,ne,nf,d⟩
 ·refine (a.hok b ob e).stay (λc G r q=>(sb.2 c ?_).trans q) (λ_ q=>q) λ_ _ q=>q;rintro rfl;rcases r with rfl|r
  ·rw[a.free]at e;cases e
  ·rw[a.free]at r;cases r
 ·rw[List.length_set];exact I.len
abbrev Cx.tryc(X:Cx)(pn:List (Addr × Obj))(W:Value->fy->Prop):Cx:={ X with pn:=pn,xe:=W }
abbrev Cx.hand(X:Cx)(e:Addr)(W:Value->fy->Prop):Cx:={ X with A:=X.A.mark (some (.ref e)),calm:=false,xe:=W }
def Cx.Ok.tryc{pn:List (Addr × Obj)}{W:Value->fy->Prop}(ok:X.Ok):(X.tryc pn W).Ok :=
 ⟨ok.mod,ok.kind,ok.glob,ok.blt,ok.above,ok.inj,ok.has,ok.cab,ok.hd,ok.frames,ok.stk,ok.exf,ok.bs,ok.bsz,ok.noex,ok.exfs,ok.funs,ok.frf⟩
def Cx.Ok.untry{pn:List (Addr × Obj)}{W:Value->fy->Prop}(ok:(X.tryc pn W).Ok):X.Ok :=
 ⟨ok.mod,ok.kind,ok.glob,ok.blt,ok.above,ok.inj,ok.has,ok.cab,ok.hd,ok.frames,ok.stk,ok.exf,ok.bs,ok.bsz,ok.noex,ok.exfs,ok.funs,ok.frf⟩
def af.tryc{W:Value->fy->Prop}(I:af X pins σ H s):af (X.tryc (X.pn++pins) W) [] σ H s :=
 ⟨I.ok.tryc,I.os,I.bare,I.base,I.loc,I.cell,I.free,I.freeC,λp a=>I.pin p (by simpa using a),I.hok,I.len⟩
def af.untry{W:Value->fy->Prop}{a:List (Addr × Obj)}(I:af (X.tryc (X.pn++pins) W) a σ H s):af X pins σ H s :=
 ⟨I.ok.untry,I.os,I.bare,I.base,I.loc,I.cell,I.free,I.freeC,λp b=>I.pin p (VQ _ b),I.hok,I.len⟩
def af.hand{e:Addr}{W:Value->fy->Prop}(I:af X pins σ H s):af (X.hand e W) pins σ H s :=
 ⟨⟨I.ok.mod,I.ok.kind,I.ok.glob,I.ok.blt,I.ok.above,I.ok.inj,I.ok.has,I.ok.cab,(λz=>nomatch z),I.ok.frames,I.ok.stk,I.ok.exf,I.ok.bs,I.ok.bsz,I.ok.noex,I.ok.exfs,I.ok.funs,I.ok.frf⟩,I.os,I.bare,I.base,I.loc,I.cell,I.free,I.freeC,I.pin,I.hok,I.len⟩
def af.unhand{e:Addr}{W:Value->fy->Prop}(I:af (X.hand e W) pins σ H s)(hd:X.calm=true->X.A.handled=none):af X pins σ H s :=
 ⟨⟨I.ok.mod,I.ok.kind,I.ok.glob,I.ok.blt,I.ok.above,I.ok.inj,I.ok.has,I.ok.cab,hd,I.ok.frames,I.ok.stk,I.ok.exf,I.ok.bs,I.ok.bsz,I.ok.noex,I.ok.exfs,I.ok.funs,I.ok.frf⟩,I.os,I.bare,I.base,I.loc,I.cell,I.free,I.freeC,I.pin,I.hok,I.len⟩
def SP.untry{W:Value->fy->Prop}{D:ff}{f:Flow}(h:SP (X.tryc (X.pn++pins) W) [] D f s):SP X pins D f s:=by
 cases f with
 | next=>obtain⟨b,a,I,q⟩:=h;exact⟨b,a,I.untry,q⟩
 | brk=>obtain⟨b,a,I,q⟩:=h;exact⟨b,a,I.untry,q⟩
 | cont=>obtain⟨b,a,I,q⟩:=h;exact⟨b,a,I.untry,q⟩
 | ret u=>obtain⟨v,b,a,I,r,q⟩:=h;exact⟨v,b,a,I.untry,r,q⟩
def af.noTb{T e:Addr}{d:Value}(I:af X pins σ H s)(t:jp s.heap e T d):T≠X.env.locals/\∀x c,X.env.cells.lookup x=some c->c≠T:=by
 obtain⟨oT,h,b,a,_⟩:=t;refine⟨λz=>?_,λx c f z=>?_⟩
 ·obtain⟨m,⟨o,es,g,ho,hd,_⟩,_⟩:=I.loc;rw[<- z,b]at ho;cases ho;rw[a]at hd;cases hd
 ·obtain⟨v,o,ho,hd⟩:=I.cell x c f;rw[z,b]at ho;cases ho;rw[a]at hd;cases hd
def af.noted{e C a:Addr}{od:Option Addr}{tb f:Value}{d:Bool}(I:af X pins σ H s)(hx:H e=some (XO e C od d))(i:sQ s.heap e tb)(hT:∀T,tb=.ref T->H T=none/\X.s₀.heap.objs.size<=T/\∀p∈X.pn++pins,p.1≠T)
 (N:mX X.stack e C a od tb f s.heap h' d):af X pins σ H { s with heap:=h' }:=by
 have ne:∀b,H b=none->b≠e:=λb n z=>by rw[z,hx]at n;cases n
 have ok:=N.hok I.hok hx (λT z=>(hT T z).1) I.stkFree;have un:∀ch:List Addr,(∀T,tb=.ref T->T∈ch)->Un (cJ X.stack) ch H H s.heap h':=λch l=>⟨λb o q n m c=>N.keep b o q (ne b n) (λz=>c (l b z.symm)) m,λb o q n m c=>N.slot b o q m,λ_ _ _ n _=>n,λb o q _=>N.there b o q,λ_ _ q=>q,λ_ _ _ q=>q,λb ps q=>⟨#[],by rw[q];simp⟩⟩;rcases i with rfl|⟨T,rfl,t⟩
 ·exact I.call (g':=s.gens) (d':=s.drawn) (t':=s.toks) (ch:=[]) (un [] λT z=>by cases z) ok I.bare λb z=>Ya z (by simp)
 ·refine I.call (g':=s.gens) (d':=s.drawn) (t':=s.toks) (ch:=[T]) (un [T] λa z=>by cases z;simp) ok I.bare λb hb=>?_;have r:b=T:=by simpa using hb
  subst r;obtain⟨u,g,h⟩:=hT b rfl;obtain⟨j,k⟩:=I.noTb t;exact⟨.inr g,j,k,h⟩
end
def Ad(K:W.Frag)(c:Value)(tb:(St->XK)->TS)(j:Nat)(d:TS):TS:=λD σ H=>∃Eb:St->XK,tb Eb D σ H/\∀σ' C e od qq H',Eb σ' (.ref C) (some e) H'->H' e=some (XO e C od qq)->W.exmOne K (.ref C) c=some true /\
 d { nx:=λb a=>D.nx (b.set j none) a,rt:=D.rt,bk:=λb a=>D.bk (b.set j none) a,ct:=λb a=>D.ct (b.set j none) a } (σ'.set j (some (.ref e))) H'
section
variable {X:Cx}{y n:Str}{np hpos pos:Pos}{body suite:List Stmt}{b₀:Stmt}{Cy:Addr}{tb:(St->XK)->TS}{th:TS}{j:Nat}
def JQ(l:X.stack=X.env::X.outer/\X.env.frame=some X.env.locals)(hN:X.N.Nodup)(hj:X.N[j]? = some n)(hk:X.env.scope.names.lookup n=some .local)(hm:X.mg y=some (.ref Cy))(hb:∀pn W Eb,jY (X.tryc pn W) Eb->fM (X.tryc pn W) body (tb Eb))(hh:∀e,fM (X.hand e λ_ _=>False) (b₀::suite) th)
 (hg:Gl X y:=by rfl) (hd:(y == ("__debug__" : Str))=false:=by decide):QS X (.Try body [.ExceptHandler (some (.Name y np)) (some n) (b₀::suite) hpos] [] [] pos) (Ad X.K (.ref Cy) tb j th):=⟨by
 intro a s σ H D I h;obtain⟨Eb,h1,h2⟩:=h;have L:jY (X.tryc (X.pn++a) (sV X a Eb)) Eb:=⟨by
  rintro ad v s' ⟨U,k,e,C,od,qq,a7,oe,vs,hv,I',hx,x,ht,hT,he,q⟩;exact⟨U,k,e,C,od,qq,a7,oe,vs,hv,I'.untry,hx,x,ht,λT z=>⟨(hT T z).1,(hT T z).2.1,λp hp=>(hT T z).2.2 p (VQ _ hp)⟩,he,q⟩⟩
 refine wpAny_Try_except (wpAny_mono ((hb _ _ Eb L).h [] s σ H D I.tryc h1) (λf s1 q=>?_) λv s1 q=>?_)
 ·cases f with
  | next=>obtain⟨U,k,I',q⟩:=q;exact wpAny_execs_nil ⟨U,k,I'.untry,q⟩
  | brk=>exact SP.untry (f:=.brk) q
  | cont=>exact SP.untry (f:=.cont) q
  | ret u=>exact SP.untry (f:=.ret u) q
 ·obtain⟨U,k,e,C,od,qq,a7,oe,vs,rfl,I1,hx,x,ht,hT,he,q⟩:=q;obtain⟨hex,ah⟩:=h2 U C e od qq k q hx;have ak:X.A.frames=some (X.env::X.outer):=by rw[<- l.1];exact I1.ok.frames
  have al:s1.heap.FunFrames X.base (X.env::X.outer):=by rw[<- l.1];exact I1.stack
  refine B4 (base:=X.base) ak al l.2 x ht λaF i S=>?_;rw[<- l.1]at S;have I2:=I1.noted hx ht hT S;obtain⟨ae,aL,x1⟩:=S.exc;have Y:X.s₀.heap.objs.size<=i:=Vs I1.sz S.new;have d:k i=none:=by
   cases z:k i with
   | none=>rfl
   | some o =>
    obtain⟨u,w⟩:=bK.there (I1.hok i o z);exact Ya (Vd (Vb w) S.new) (VJ _)
  have G:∀p∈X.pn++a,p.1≠i:=λp hp z=>Ya (Vd (Vb (I1.pin p hp).1) S.new) (by rw[z];exact VJ _);have F:∀ {M:Model} {A:Around} {Ex:Value->fy->Prop} {fl:Value} {r:fy} {a1:Obj} {R:Array Value} {Q:Unit->fy->Prop},af X a U k r->cF r.heap e C od (.ref i) a1 R qq->jp r.heap e i fl ->
   (∀s3,af X a U k s3->cF s3.heap e C od (.ref i) a1 R qq->jp s3.heap e i .none->Q () s3)->wpAny M A (setFlight (.ref e) none) Q Ex r:=λ{M A Ex fl r a1 R Q} J y t kk=>by
   refine CB y t λh3 sz k3 t3 y3 e3=>kk { r with heap:=h3 } ?_ y3 e3;have an:bM X.prog X.w k h3:=λb o z=>by
    refine (J.hok b o z).stay (λc u hc w=>k3 c u w λv=>?_) (λ_ q=>q) λ_ _ q=>q;rcases hc with rfl|hc
    ·rw[v,d]at z;cases z
    ·rw[v,d]at hc;cases hc
   refine J.call (g':=r.gens) (d':=r.drawn) (t':=r.toks) (ch:=[i]) ⟨λb o z n m c=>k3 b o z (by simpa using c),λb o z n m c=>⟨o.slots,k3 b o z (by simpa using c)⟩,λ_ _ _ n _=>n,λb o z _=>t3 b o z,λ_ _ z=>z,λ_ _ _ z=>z,λb ps z=>⟨#[],by rw[z];simp⟩⟩ an J.bare λb am=>?_;have eb:b=i:=by simpa using am
   subst eb;obtain⟨g1,g2⟩:=J.noTb t;exact⟨.inr Y,g1,g2,G⟩
  refine F I2 x1 S.ent λs3 I3 x3 t3=>?_;refine wpAny_handleBy_cons (codeAny_handlers_test ?_) (by intro z;cases z);refine jO (X:=X.hand e λ_ _=>False) I3.hand hg hm ?_ hd;have LT:W.Looks (model X.prog X.w) s3.heap (typeOf (.ref e)) (.ref C):=by
   have z:W.Looks (model X.prog X.w) s3.heap (typeOf (.ref e)) ae.cls:=(W.Looks.ld x3.at_).andThen .now;rw[x3.cls]at z;exact z
  refine (W.exm_one I3.kIn LT hex) _ _ _ _ (λb o w=>w) ?_;refine codeAny_handlers_suite_as (F I3 x3 t3 λs4 I4 x4 t4=>?_);refine j9 (v:=.ref e) I4 hN hj (.inl hk) Z (λs5 I5=>?_) (.inr hk);refine wpAny_mono ((hh e).h a s5 _ k _ (I5.hand (e:=e)) ah) (λf s6 g=>?_) λ_ _ z=>z.elim;have B:=I.ok.hd;cases f with
  | next =>
   obtain⟨σ6,V,I6,g⟩:=g;exact pP (I6.unhand B) hN hj hk λs7 O=>⟨_,V,O,g⟩
  | brk =>
   obtain⟨σ6,V,I6,g⟩:=g;exact pP (I6.unhand B) hN hj hk λs7 O=>⟨_,V,O,g⟩
  | cont =>
   obtain⟨σ6,V,I6,g⟩:=g;exact pP (I6.unhand B) hN hj hk λs7 O=>⟨_,V,O,g⟩
  | ret u =>
   obtain⟨v,σ6,V,I6,r6,g⟩:=g;exact pP (I6.unhand B) hN hj hk λs7 O=>⟨v,_,V,O,r6,g⟩⟩
end
structure mZ (P:Program) (w:World) (K:W.Frag) (mg:Str->Option Value) (base:Heap) (x:Str) (C:Addr) (k:Nat) (f:Addr) (fd:FuncData) (ps:List Str) (dvs:List V) (sp:Sp):Prop where
 g:mg x=some (.ref C)
 mkx:Mk K C f
 b:∃ds,ax K fd ps ds/\aJ dvs ds
 ok:bN P w K mg base cn k f fd ps sp
section
variable {X:Cx}{k j:Nat}{f C:Addr}{fd:FuncData}{ps:List Str}{sp:Sp}{x:Str}{p pos:Pos}{e:Expr}{es:List Expr}{t:TA}{dvs:List V}
def dI{b c:TE}(f:QE X e b)(d:QE X e c):QE X e (λσ H Q=>b σ H Q\/c σ H Q) :=
 ⟨λa s σ H Q I z=>z.elim (f.h a s σ H Q I) (d.h a s σ H Q I)⟩
def nK(F:mZ X.prog X.w X.K X.mg X.base x C j f fd ps dvs sp)(l:bV k X.A)(m:QA X (e::es) t)(d:j+1<=k:=by decide)(i:Gl X x:=by rfl)(a:(x == ("__debug__" : Str))=false:=by decide)(c:dA (e::es)=true:=by rfl) :
 QE X (.Call (.Name x p) (e::es) [] pos) (Ao C sp dvs E0 t):=by
 obtain⟨ds,hb,hd⟩:=F.b;exact⟨K7 F.mkx F.ok (l.mono d) i F.g hb hd qo m.h a (cv (dz c).1) (hZ (dz c).2)⟩
end
end L2
namespace L2
open PySem PySem.Spec PyProof.Rows PySem.W
structure gx (K:W.Frag) (C:Addr):Prop where
 ga:findIn K (.ref C) "__getattribute__" = some (some (.builtin "BaseException.__getattribute__"))
 noga:findIn K (.ref C) "__getattr__" = some none
 base:mroIn K C (.type "BaseException")=some true
 obj:mroIn K C (.type "object")=some true
 hd:hasDictIn K C=true
 cls:findIn K (.ref C) "__class__" = some (some (.builtin "object.__class__"))
 clsG:specialIn K (.builtin "object.__class__") "__get__" = some (some (.builtin "getset_descriptor.__get__"))
 clsT:takesIn K (.builtin "object.__class__")=some true
section
variable {prog:Program}{w:World}{A:Around}{E:Value->fy->Prop}{s:fy}{K:W.Frag}{x C:Addr}{ox:Obj}{od:Option Obj}{name:Str}{tk:Tok}{fill expr:Bool}
def FI {nameV:Value} {Q:Unit->fy->Prop} (f:K.In s.heap) (c:gx K C) (I:InstAt s.heap x ox C od) (i:Q () s):wpAny (model prog w) A (checkBuiltinCall "BaseException.__getattribute__" ⟨[.ref x,nameV],[]⟩) Q E s:=by
 have b:builtinKind "BaseException.__getattribute__" = some .slot:=by decide +kernel
 have a:splitId "BaseException.__getattribute__" = some ("BaseException", "__getattribute__"):=by decide +kernel
 have e:Looks (model prog w) s.heap (isInstance (.ref x) (.type "BaseException")) true:=I.type.andThen (looks_mroIn f c.base);have j:=PySem.F.args_bexc_ga (.ref x) nameV;simp only [checkBuiltinCall,b,a];refine on (e.here ?_);obtain⟨h,g,d,t,os⟩:=s
 repeat (any_goals (first|assumption|wp_step))
def zz{Q:Value->fy->Prop}(d:K.In s.heap)(c:gx K C)(I:InstAt s.heap x ox C od)
 (h:wpAny (model prog w) A.in1 (Builtin.«object.__getattribute__» ⟨[.ref x,.str name tk],[]⟩) (λr e=>match r with|.done (.ret v)=>handedIn v=true/\Q v e|_=>False) (λ_ _=>False) s):wpAny (model prog w) A (getAttrBy (.ref x) (.str name tk) fill expr) Q E s:=by
 have i:=I.type (M:=model prog w);have j:=looks_findIn (M:=model prog w) d c.ga;have k:=looks_findIn (M:=model prog w) d c.noga;have g:=PySem.F.excAttr_ValueError.ga.bind (.ref x);have a:(expr && onTheHeap (Value.builtin "BaseException.__getattribute__"))=false:=by cases expr<;>rfl
 have b:(onTheHeap (Value.ref C) && Value.builtin "BaseException.__getattribute__" == Value.builtin "object.__getattribute__")=false:=by
  have q:(Value.builtin "BaseException.__getattribute__" == Value.builtin "object.__getattribute__")=false:=by decide +kernel
  rw[q];rfl
 unfold getAttrBy;refine wpAny_holding (on (i.here (on (j.here ?_))));dsimp only;rw[X8 (by rw[b];exact Vn)];unfold getAttrByItsOwn callGetattribute boundAndCalled;rw[a,X8 Vn];refine on (k.here (on (wpAny_attempt (wpAny_holding ?_))));rw[g];refine on (X7 (wpAny_call (codeAny_call_builtin PySem.F.excAttr_ValueError.ga.plain PySem.F.entry_bexc_ga (FI d c I (wpAny_mono h (λr e z=>?_) λ_ _ z=>z.elim)))));rcases r with (_|_|_|_)|_<;>first|exact z.elim|skip
 all_goals (obtain⟨l,f⟩:=z;dsimp only;rw[handedOut_of l];exact X7 f)
def FG{g a:Value}{Q:Fin->fy->Prop}(e:K.In s.heap)(I:InstAt s.heap x ox C od)(hf:findObj K C od name=some (.bind g a))
 (h:wpAny (model prog w) A (call g [a,.ref x,.ref C]) (λv b=>Q (.done (.ret v)) b) E s):wpAny (model prog w) A (Builtin.«object.__getattribute__» ⟨[.ref x,.str name tk],[]⟩) Q E s:=by
 have c:=I.type (M:=model prog w);have d:=looks_find (M:=model prog w) e I hf;unfold Builtin.«object.__getattribute__»;refine on (X7 (on (X7 (on (c.here (on (d.here ?_)))))));show wpAny _ _ (holding [a] (call g [a,.ref x,.ref C]) >>= ret) _ _ _;exact on (wpAny_holding (wpAny_mono h (λv b z=>X7 z) λ_ _ z=>z))
def FF{v:Value}{Q:Fin->fy->Prop}(c:K.In s.heap)(I:InstAt s.heap x ox C od)(hf:findObj K C od name=some (.value v))
 (h:Q (.done (.ret v)) s):wpAny (model prog w) A (Builtin.«object.__getattribute__» ⟨[.ref x,.str name tk],[]⟩) Q E s:=by
 have a:=I.type (M:=model prog w);have b:=looks_find (M:=model prog w) c I hf;unfold Builtin.«object.__getattribute__»;refine on (X7 (on (X7 (on (a.here (on (b.here ?_)))))));exact X7 h
def Qw {a g:Value} (b:(clsIn K C).isSome=true) (e:findIn K (.ref C) name=some (some a)) (c:specialIn K a "__get__" = some (some g)) (d:takesIn K a=some true):findObj K C od name=some (.bind g a):=by
 obtain⟨f,b⟩:=Xh.mp b;unfold findObj;rw[b,Wq,e,Wq];simp only [c,d,Wq]
def gx.some(c:gx K C):(clsIn K C).isSome=true:=by
 obtain⟨b,a,_⟩:=any_some c.hd;rw[a];rfl
def FH{Q:Option Value->fy->Prop}(a:K.In s.heap)(c:gx K C)(I:InstAt s.heap x ox C od)(h:Q (some (.ref C)) { s with toks:=s.toks+1 }):wpAny (model prog w) A (getAttr? (.ref x) "__class__") Q E s:=by
 have hf:findObj K C od "__class__" = some (.bind (.builtin "getset_descriptor.__get__") (.builtin "object.__class__")):=Qw c.some c.cls c.clsG c.clsT;unfold getAttr? getAttrBy?;refine on (wpAny_mkText (on (wpAny_attempt (zz (s:={ s with toks:=s.toks+1 }) a c I (FG (s:={ s with toks:=s.toks+1 }) a I hf ?_)))));exact wpAny_call (class_get (s:={ s with toks:=s.toks+1 }) a I c.obj ⟨rfl,X7 h⟩)
def uq(c:gx K C):KitX K (.ref x) (.ref C) (λh=>InstAt h x ox C od) where
 ty:=λ_ _ _ I=>I.type
 it:=λ_ _ a _=>by
  have hcD:=c.some;unfold clsIn at hcD
  split at hcD
  ·rename_i c' d' cd' sl' ho;intro j l g m k q;unfold isType loadHead;exact on (wpAny_loadPart (k _ _ (a _ _ ho)) (X7 q))
  ·cases hcD
 ne:=λh i f d n e a b=>by
  have hcD:=c.some;unfold clsIn at hcD
  split at hcD
  ·rename_i c' d' cd' sl' ho;have y:=a _ _ ho;refine Bool.eq_false_iff.mpr λq=>?_;have q:=Value.ref.inj (beq_iff_eq.mp q);subst q;rw[b]at y;cases y
  ·cases hcD
 ca:=λa I h=>FH a c I h
end
inductive sP (K:W.Frag) (H:Hp):V->Value->Prop where
 | of {x:V} {t:Value} (h:c9 K H x t):sP K H x t
 | exc {e C:Addr} {q:Bool} (h:H e=some (XO e C none q)) (c:gx K C):sP K H (.ref e) (.ref C)
section
variable {X:Cx}{K:W.Frag}
def ND{d:List (Addr × Obj)}{σ:St}{H:Hp}{s:fy}{A:Around}{E:Value->fy->Prop}{Q:Value->fy->Prop}{c:Value}{b:Bool}{x:V}{u t:Value}(I:af X d σ H s)(f:aR x u)(ty:sP X.K H x t)(e:W.kitOne X.K t c=some b)(h:∀tk,Q (.bool b) { s with toks:=tk }) :
 wpAny (model X.prog X.w) A (call (.builtin "isinstance") [u,c]) Q E s:=by
 cases ty with
 | of ty=>exact uv I f ty e h
 | @exc a C q he hc =>
  cases (show u=Value.ref a from f);obtain⟨⟨tb,g,vs,y⟩,_⟩:=I.hok a _ he;exact W.kia_one (uq (ox:=g) (od:=none) hc) I.kIn ⟨y.at_,y.cls,by unfold notCls;rw[y.data],by rw[y.dict];trivial⟩ e (λz=>nomatch z) h
def JP{y n:Str}{k b pos:Pos}{body a:List Stmt}{g:Stmt}{f:Addr}{tb:(St->XK)->TS}{d:TS}{j:Nat}(h:X.K=K)(c:X.stack=X.env::X.outer/\X.env.frame=some X.env.locals)(hN:X.N.Nodup)(i:X.N[j]? = some n)(l:X.env.scope.names.lookup n=some .local)(o:X.mg y=some (.ref f))(hb:∀pn W Eb,jY (X.tryc pn W) Eb->fM (X.tryc pn W) body (tb Eb))(p:∀e,fM (X.hand e λ_ _=>False) (g::a) d)
 (m:Gl X y:=by rfl) (hd:(y == ("__debug__" : Str))=false:=by decide):QS X (.Try body [.ExceptHandler (some (.Name y k)) (some n) (g::a) b] [] [] pos) (Ad K (.ref f) tb j d):=by subst h;exact JQ c hN i l o hb p m hd
end
def fH(K:W.Frag)(C:Addr)(bmB:List Value)(newId:String):Bool:=match K.lookup C with
 | some ⟨.type "type",_,.cls cd,sl⟩=>(match cd.mro,sl.toList with
  | .ref C'::bm,[_,_,_,_,some (.builtin n),_]=>C' == C && (n == newId && (!cd.hasDel && (W.tailIn K bmB bm && W.nsOkIn K cd.ns)))
  | _,_=>false)
 | _=>false
def fH.obj{K:W.Frag}{h:Heap}{C:Addr}{bmB:List Value}{newId:String}(i:K.In h)(q:fH K C bmB newId=true) :
 ∃bm N e f bs hdct g b d c dd k0 k1 k2 k3 k5,h.get? C=some (excClassObj e f C N bs bm hdct g b d c dd k0 k1 k2 k3 k5 newId)/\OwnTail h bmB bm:=by
 unfold fH at q
 split at q
 ·rename_i dd cd sl ho
  split at q
  ·rename_i C' bm k0 k1 k2 k3 n k5 hm hs;simp only [VB,beq_iff_eq,Bool.not_eq_true']at q;obtain⟨o,j,a,m,_⟩:=q;subst o j;obtain⟨e,bs,mro,ns,f,hd,g,b,d,c,k⟩:=cd;simp only at hm a;subst hm a;obtain⟨l⟩:=sl;simp only at hs;subst hs;exact⟨bm,ns,e,f,bs,hd,g,b,d,c,dd,k0,k1,k2,k3,k5,i _ _ ho,W.tail_of_in i m⟩
  ·cases q
 ·cases q
section
variable {prog:Program}{w:World}{A:Around}{E:Value->fy->Prop}{h:Heap}{g:Array GenState}{d:Drawn}{t:Nat}{os:OsState}{K:W.Frag}
variable {nm q:Str}{C N:Addr}{bs bm bmB:List Value}{hdct:Bool}{sn:List Str}{sub:List Value}{ab:Bool}{col:Option Bool}{dd:Option Addr}{k0 k1 k2 k3 k5:Option Value}{B newId initId:String}{us:List Value}{fI:Addr}
def FD(F:ExcBaseFacts B newId initId bmB)(T:OwnTail h bmB bm)(u:K.In h){Q:Fin->fy->Prop}
 (hC:h.get? C=some (excClassObj nm q C N bs bm hdct sn sub ab col dd k0 k1 k2 k3 k5 newId)) (l:W.findIn K (.ref C) "__init__" = some (some (.ref fI))) (hf:W.typeIn K (.ref fI)=some (.type "function"))
 (n:∀h' e,Heap.MadeExcOf h h' e (.ref C) us->wpAny (model prog w) A (call (.ref fI) (.ref e::us)) (λr k=>r=.none/\Q (.done (.ret (.ref e))) k) E ⟨h',g,d,t,os⟩) (hz:us.length<=sizeLine) :
 wpAny (model prog w) A (Builtin.«type.__call__» ⟨.ref C::us,[]⟩) Q E ⟨h,g,d,t,os⟩:=by
 repeat (first|with_reducible refine wpAny_madeBy_exc hC ?_|with_reducible refine wpAny_loadPart_at hC ?_|wp_step)
 refine codeAny_call_builtin_code (Code.quiet_builtin _ F.quiet) (wpAny_check_new_subT F T hC (codeAny_exc_new_subT F T hC ?_ hz));show wpAny _ _ _ _ _ _;obtain⟨c,f⟩:∃c,c=(h.push { cls:=.type "tuple",data:=.seq us.toArray }).push { cls:=.ref C,data:=.fields #[.ref h.objs.size,.none,.none,.none,.bool false,.none] }:=⟨_,rfl⟩;have up:∀b o,h.get? b=some o->c.get? b=some o:=λb o z=>by rw[f];exact Vg _ (Vg _ z)
 have new:c.get? (h.objs.size+1)=some { cls:=.ref C,data:=.fields #[.ref h.objs.size,.none,.none,.none,.bool false,.none] }:=by rw[f];heap_get
 have i:c.get? h.objs.size=some { cls:=.type "tuple",data:=.seq us.toArray }:=by rw[f];exact Vg _ (Heap.get?_push_at Z Z)
 have hC2:=up _ _ hC;have j:K.In c:=λa o z=>up a o (u a o z);have s:=W.looks_findIn (M:=model prog w) j l;have p:=W.looks_typeIn (M:=model prog w) j hf;have m:(Value.ref C::bm).contains (.ref C)=true:=by simp
 rw[<- f];unfold isInstance
 repeat (first|with_reducible refine wpAny_loadPart_at new ?_|(with_reducible refine wpAny_isSubtype_exc hC2 ?_;rw[m])|wp_step)
 show wpAny _ _ (typeLookup (.ref C) _) _ _ _;refine s.at ?_;refine wpAny_holding (on ?_);unfold bindSpecial;refine on (p.at ?_);rw[X9 (by decide)];refine X7 (on (wpAny_mono (n c (h.objs.size+1) ⟨up,Wu (Wg _),h.objs.size,new,Wu (Va _),i⟩) (λr k ζ=>?_) λ_ _ x=>x));obtain⟨z1,z2⟩:=ζ;subst z1
 wp_walk
 exact z2
def FE(F:ExcBaseFacts B newId initId bmB)(T:OwnTail h bmB bm)(i:K.In h){Q:Value->fy->Prop}
 (hC:h.get? C=some (excClassObj nm q C N bs bm hdct sn sub ab col dd k0 k1 k2 k3 k5 newId)) (a:W.findIn K (.ref C) "__init__" = some (some (.ref fI))) (hf:W.typeIn K (.ref fI)=some (.type "function"))
 (c:∀h' e,Heap.MadeExcOf h h' e (.ref C) us->wpAny (model prog w) (A.under (.builtin "type.__call__" ⟨.ref C::us,[]⟩)) (call (.ref fI) (.ref e::us)) (λr f=>r=.none/\Q (.ref e) f) E ⟨h',g,d,t,os⟩) (hz:us.length<=sizeLine) :
 wpAny (model prog w) A (call (.ref C) us) Q E ⟨h,g,d,t,os⟩:=by
 have j:=tc_lookup;have k:=tc_bind (.ref C);have hT:(⟨h,g,d,t,os⟩:fy).TypeIs (.ref C) "type":=⟨_,hC,rfl⟩;refine wpAny_call (codeAny_of_tree ?_);show wpAny _ _ (callAny (.ref C) ⟨us,[]⟩) _ _ _
 repeat (any_goals (first|with_reducible refine wpAny_loadPart_at hC ?_|assumption|wp_step))
 refine⟨rfl,codeAny_call_builtin_at (Code.quiet_builtin _ (by decide +kernel)) entry_typeCall (wpAny_check_type_call_sub hC (FD (hz:=hz) F T i hC a hf λh' e b=>?_))⟩;exact c h' e b
end
section
variable {prog:Program}{w:World}{A:Around}{E:Value->fy->Prop}{s:fy}{K:W.Frag}
def R1 {C e:Addr} {od:Option Addr} {tb:Value} {h:Obj} {vs:Array Value} {us:List Value} {Q:Value->fy->Prop} (p:K.In s.heap) (hC:fH K C iX "ValueError.__new__" = true) (x:cF s.heap e C od tb h vs) (hz:us.length<=sizeLine)
 (k:∀h',(∀b o,b≠e->s.heap.get? b=some o->h'.get? b=some o)->(∃oe' vs',cF h' e C od tb oe' vs')->Q .none { s with heap:=h' }) :
 wpAny (model prog w) A (call (.builtin "ValueError.__init__") (.ref e::us)) Q E s:=by
 have F:=XS;obtain⟨D,N,y,B,bs,i,G,m,u,q,v,k0,k1,k2,k3,k5,hC0,T⟩:=fH.obj p hC;obtain⟨a,g,d,r,os⟩:=s;refine wpAny_call (codeAny_call_builtin F.init.plain F.initEntry (wpAny_check_init_subT F T hC0 x.at_ x.cls ?_));obtain⟨j,f⟩:∃j,vs[0]? = some j:=⟨vs[0]'(by rw[x.size];decide),by rw[XT]⟩;have ne:e≠a.objs.size:=Vi (Vb x.at_);have c:(a.push { cls:=.type "tuple",data:=.seq us.toArray }).get? e=some h:=Vg _ x.at_;unfold Builtin.«BaseException.__init__» Builtin.BaseException.bexcPut
 repeat (any_goals (first|assumption|with_reducible refine wpAny_field c x.data f ?_|with_reducible refine wpAny_setField c x.data (by rw[x.size];decide) ?_|wp_step))
 have self:=WG (Obj.mapFields (·.setIfInBounds 0 (.ref a.objs.size))) c (by rw[iM x.data];rfl);have n:Q .none ⟨(a.push { cls:=.type "tuple",data:=.seq us.toArray }).update e (Obj.mapFields (·.setIfInBounds 0 (.ref a.objs.size))),g,d,r,os⟩ :=
  k _ (λb o l z=>(Wa _ _ (Ne.symm l)).trans (Vg _ z)) ⟨_,vs.setIfInBounds 0 (.ref a.objs.size),self,by rw[iM x.data];exact x.cls,by rw[iM x.data];exact x.dict,by rw[iM x.data],by simp[x.size],by rw[XU,X8 (by decide)];exact x.tb1,λz=>by rw[XU,X8 (by decide)];exact x.cx z⟩
 split
 ·repeat (any_goals (first|assumption|wp_step))
 ·repeat (any_goals (first|assumption|wp_step))
end
structure zr (K:W.Frag) (C f:Addr):Prop where
 x:fH K C iX "ValueError.__new__" = true
 init:W.findIn K (.ref C) "__init__" = some (some (.ref f))
 fn:W.isFn K (.ref f)=true
 kp:W.keepIn K (.ref C)=true
structure EE (P:Program) (w:World) (K:W.Frag) (mg:Str->Option Value) (base:Heap) (x:Str) (C:Addr) (k:Nat) (f:Addr) (fd:FuncData) (ps:List Str) (sp:Sp):Prop where
 g:mg x=some (.ref C)
 mkx:zr K C f
 b:ax K fd ps []
 ok:bN P w K mg base cn k f fd ps sp
def Gg{H:Hp}{e:Addr}{o:HO}(h:H e=some o):upd H e o=H:=funext λb=>by
 by_cases q:b=e
 ·subst q;rw[aX,h]
 ·rw[au q]
def GT {h:Heap} {a:List Value} (self:Value) (T:OwnTail h iX a):refuseLoop self "__setattr__" a=pure ():=by
 induction T with
 | base=>exact PySem.F.store_ValueError.passes self
 | own _ _ _ _ ih=>rw[refuseLoop_ref];exact ih
section
variable {prog:Program}{w:World}{A:Around}{E:Value->fy->Prop}{h:Heap}{g:Array GenState}{d:Drawn}{t:Nat}{os:OsState}{K:W.Frag}{C e:Addr}{od:Option Addr}{tb v:Value}{oe:Obj}{vs:Array Value}{name:Str}{tk:Tok}
def FC {Q:Fin->fy->Prop} (m:K.In h) (hC:fH K C iX "ValueError.__new__" = true) (c:gx K C) (B:W.findIn K (.ref C) name=some none) (x:cF h e C od tb oe vs)
 (k0:od=none->∀h' d0 oe' tk',h.get? d0=none->(∀b o,b≠e->h.get? b=some o->h'.get? b=some o)->cF h' e C (some d0) tb oe' vs->h'.Ns1 d0 (λy=>if y=name then some v else none)->Q (.done (.ret .none)) ⟨h',g,d,tk',os⟩)
 (k1:∀d0,od=some d0->∃mA ns,h.Ns1 d0 mA/\Within mA ns/\ns.length+1<=1000/\∀h' tk',(∀b o,b≠d0->h.get? b=some o->h'.get? b=some o)->h'.Ns1 d0 (λy=>if y=name then some v else mA y)->Q (.done (.ret .none)) ⟨h',g,d,tk',os⟩) :
 wpAny (model prog w) A (Builtin.«object.__setattr__» ⟨[.ref e,.str name tk,v],[]⟩) Q E ⟨h,g,d,t,os⟩:=by
 obtain⟨U,N,nm,qn,bs,f,sn,R,ab,V,dd,s0,s1,s2,s3,s5,hC0,T⟩:=fH.obj m hC;have s:refuseLoop (.ref e) "__setattr__" (.ref C::U)=pure ():=by rw[refuseLoop_ref];exact GT _ T
 have I:=W.looks_findIn (M:=model prog w) m B;have p:f=true:=by
  obtain⟨cd,a,q⟩:=W.any_some c.hd;have L:=W.looks_clsIn (M:=model prog w) m a;unfold W.clsIn at a
  split at a
  ·rename_i ho;have y:=m _ _ ho;rw[hC0]at y;cases y;cases a;exact q
  ·cases a
 subst p;unfold Builtin.«object.__setattr__»
 repeat (first|rw[refuse_eq]|rw[s]|(with_reducible refine wpAny_loadPart_at x.at_ ?_;rw[x.cls])|with_reducible refine wpAny_mroOf_exc hC0 ?_|with_reducible refine I.at ?_|wp_step)
 rw[x.dict];cases od with
 | none =>
  dsimp only;rw[X8 (by simp[typeHasDict]),x.data];have u:(h.push { cls:=.type "dict",data:=.dict #[] }).get? e=some oe:=Vg _ x.at_;have ne:e≠h.objs.size:=Vi (Vb x.at_);refine on (wpAny_alloc' (on (wpAny_update' u (X7 ?_))));obtain⟨i,l⟩:∃i,i=(h.push { cls:=.type "dict",data:=.dict #[] }).update e λo=>{ cls:=o.cls,dict:=some h.objs.size,data:=o.data,slots:=o.slots }:=⟨_,rfl⟩;have S:i.get? h.objs.size=some { cls:=.type "dict",data:=.dict #[] }:=by rw[l];exact (XV _ _ _ _ ne.symm).trans (Heap.get?_push_at Z Z)
  have ge:i.get? e=some { cls:=oe.cls,dict:=some h.objs.size,data:=oe.data,slots:=oe.slots }:=by
   rw[l];refine WG _ u ?_;obtain⟨Y,O,G,F⟩:=oe;have q:=x.data;simp only at q;subst q
   rfl
  have nd:i.Ns h.objs.size (λ_=>none):=⟨_,#[],_,S,rfl,λe J=>Ya J (by simp),λ_=>rfl⟩;rw[<- l];show wpAny _ _ (Builtin.ObjectAttr.storeInDict h.objs.size (.str name tk) name v) _ _ _;unfold Builtin.ObjectAttr.storeInDict Builtin.ObjectAttr.newKeyGuard;refine on (X7 (on (wpAny_nsSet1 (Heap.Ns1.of_empty nd) λh' j sb=>?_)));obtain⟨oD,esD,epD,hoD,hdD,hcD⟩:=j.count (Within.cons name v Within.nil);refine on (wpAny_lookBehind hoD (by rw[hdD];exact pastItsLine_dict (Vs hcD (by rw[Vt,WW,sizeLine_eq];omega))) ?_)
  wp_walk
  exact k0 rfl h' h.objs.size _ _ (Wu (Va _)) (λb o r z=>(sb.2 b (Vi (Vb z))).trans (by rw[l];exact (XV _ _ _ _ r).trans (Vg _ z)))
   ⟨(sb.2 e ne).trans ge,x.cls,rfl,x.data,x.size,x.tb1,x.cx⟩ j
 | some d0 =>
  obtain⟨mA,ns,n,D,hz,k⟩:=k1 d0 rfl;dsimp only;refine X7 ?_;show wpAny _ _ (Builtin.ObjectAttr.storeInDict d0 (.str name tk) name v) _ _ _;unfold Builtin.ObjectAttr.storeInDict Builtin.ObjectAttr.newKeyGuard;refine on (X7 (on (wpAny_nsSet1 n λh' j sb=>?_)));obtain⟨oD,esD,epD,hoD,hdD,hcD⟩:=j.count (Within.cons name v D);refine on (wpAny_lookBehind hoD (by rw[hdD];exact pastItsLine_dict (Vs hcD (by rw[Vt,sizeLine_eq];omega))) ?_)
  wp_walk
  exact k h' _ (λb o r z=>(sb.2 b r).trans z) j
end
section
variable {X:Cx}{pins:List (Addr × Obj)}{σ:St}{H:Hp}{s:fy}{h':Heap}{e C d0:Addr}{fs:List (Str × V)}{f:Str}
def af.none_of{a:Addr}(I:af X pins σ H s)(h:s.heap.get? a=none):H a=none:=by
 cases q:H a with
 | none=>rfl
 | some u=>obtain⟨z,y⟩:=bK.there (I.hok a u q);rw[h]at y;cases y
def af.xdict{l:Obj}{vs:Array Value}{t':Nat}(I:af X pins σ H s)(hx:H e=some (XN e C none))(i:s.heap.get? d0=none)(kp:∀b o,b≠e->s.heap.get? b=some o->h'.get? b=some o)(j:cF h' e C (some d0) .none l vs)
 (nd:∃mA,h'.Ns1 d0 mA/\∀f,cT (fs.lookup f) (mA f)):af X pins σ (upd (upd H d0 (.xd fs)) e (XN e C (some d0))) { s with heap:=h',toks:=t' }:=by
 have h:=I.none_of i;have k:d0≠e:=λz=>by rw[z,hx]at h;cases h
 have g:∀b u,s.heap.get? b=some u->b≠d0:=λb u q z=>by rw[z,i]at q;cases q
 have a:∀b,H b=none->b≠e:=λb q z=>by rw[z,hx]at q;cases q
 have two:∀b o,b≠e->H b=some o->upd (upd H d0 (.xd fs)) e (XN e C (some d0)) b=some o:=λb o n q=>by rw[au n,au (aO q h)];exact q
 refine I.un ⟨λb u q n _ _=>kp b u (a b n) q,λb u q n _ _=>⟨u.slots,kp b u (a b n) q⟩,λb u q n _=>by rw[au (a b n),au (g b u q)];exact n,λb u q _=>?_,λb xs q=>two b _ (λz=>by rw[z,hx]at q;cases q) q,λb u xs q=>two b _ (λz=>by rw[z,hx]at q;cases q) q,λb ps q=>⟨#[],?_⟩⟩ λb u q=>?_
 ·by_cases z:b=e
  ·subst z;exact⟨_,j.at_⟩
  ·exact⟨u,kp b u z q⟩
 ·rw[two b _ (λz=>by rw[z,hx]at q;cases q) q];simp
 ·by_cases hb:b=e
  ·subst hb;rw[aX]at q;cases q;exact sZ j
  ·rw[au hb]at q;by_cases hd:b=d0
   ·subst hd;rw[aX]at q;cases q;exact nd
   ·rw[au hd]at q;refine (I.hok b u q).stay (λc v d z=>?_) (λc z=>two c _ (λy=>by rw[y,hx]at z;cases z) z) λc xs z=>two c _ (λy=>by rw[y,hx]at z;cases z) z;rcases d with rfl|d
    ·exact kp c v hb z
    ·exact kp c v (λy=>by rw[y,hx]at d;cases d) z
def af.xput{e:List (Str × V)}{t':Nat}(I:af X pins σ H s)(hd:H d0=some (.xd fs))(kp:∀b o,b≠d0->s.heap.get? b=some o->h'.get? b=some o)
 (nd:∃mA,h'.Ns1 d0 mA/\∀f,cT (e.lookup f) (mA f)):af X pins σ (upd H d0 (.xd e)) { s with heap:=h',toks:=t' }:=by
 have a:∀b,H b=none->b≠d0:=λb q z=>by rw[z,hd]at q;cases q
 have one:∀b o,b≠d0->H b=some o->upd H d0 (.xd e) b=some o:=λb o n q=>by rw[au n];exact q
 refine I.un ⟨λb u q n _ _=>kp b u (a b n) q,λb u q n _ _=>⟨u.slots,kp b u (a b n) q⟩,λb u q n _=>by rw[au (a b n)];exact n,λb u q _=>?_,λb xs q=>one b _ (λz=>by rw[z,hd]at q;cases q) q,λb u xs q=>one b _ (λz=>by rw[z,hd]at q;cases q) q,λb ps q=>⟨#[],?_⟩⟩ λb u q=>?_
 ·by_cases z:b=d0
  ·subst z;obtain⟨_,⟨o,_,_,y,_⟩,_⟩:=nd;exact⟨o,y⟩
  ·exact⟨u,kp b u z q⟩
 ·rw[one b _ (λz=>by rw[z,hd]at q;cases q) q];simp
 ·by_cases hb:b=d0
  ·subst hb;rw[aX]at q;cases q;exact nd
  ·rw[au hb]at q;refine (I.hok b u q).stay (λc v d z=>?_) (λc z=>one c _ (λy=>by rw[y,hd]at z;cases z) z) λc xs z=>one c _ (λy=>by rw[y,hd]at z;cases z) z;rcases d with rfl|d
   ·exact kp c v hb z
   ·exact kp c v (λy=>by rw[y,hd]at d;cases d) z
def FT{mA:Str->Option Value}(r:∀f,cT (fs.lookup f) (mA f)):Within mA (fs.map (·.1)):=λy d=>by
 have z:=r y;cases q:fs.lookup y with
 | none =>
  rw[q]at z;cases p:mA y with
  | none=>exact Ya p d
  | some u=>rw[p]at z;exact z.elim
 | some v =>
  clear z d r
  induction fs with
  | nil=>cases q
  | cons a l ih =>
   obtain⟨a,b⟩:=a;rw[VR]at q;by_cases c:(y == a)=true
   ·rw[beq_iff_eq.mp c];exact Vz
   ·have c:(y == a)=false:=by simpa using c
    rw[c]at q;exact Vx _ (ih q)
structure zn (K:W.Frag) (C:Addr):Prop where
 x:fH K C iX "ValueError.__new__" = true
 c:gx K C
 sa:W.findIn K (.ref C) "__setattr__" = some (some (.builtin "object.__setattr__"))
def Ir{A:Around}{E:Value->fy->Prop}{od:Option Addr}{y:V}{u:Value}{Q:Unit->fy->Prop}(I:af X pins σ H s)(hx:H e=some (XN e C od))(S:zn X.K C)(D:cU X.K C f)(v:aR y u)
 (k0:od=none->∀d0,H d0=none->d0≠e->∀s',af X pins σ (upd (upd H d0 (.xd [(f,y)])) e (XN e C (some d0))) s'->Q () s')
 (k1:∀d0,od=some d0->∃fs,H d0=some (.xd fs)/\fs.length<999/\∀s',af X pins σ (upd H d0 (.xd (cI f y fs))) s'->Q () s'):wpAny (model X.prog X.w) A (setAttr (.ref e) f u) Q E s:=by
 obtain⟨⟨G,vs,b⟩,_⟩:=I.hok e _ hx;have l:=PySem.F.store_ValueError;obtain⟨j,B⟩:∃j,W.InstAt s.heap e G C j:=by
  cases od with
  | none=>exact⟨none,b.at_,b.cls,by unfold W.notCls;rw[b.data],by rw[b.dict];trivial⟩
  | some d0 =>
   obtain⟨fs,hd,_⟩:=k1 d0 rfl;obtain⟨mA,⟨o,es,N,z,_⟩,_⟩:=(show ∃mA,s.heap.Ns1 d0 mA/\∀f,cT (fs.lookup f) (mA f) from I.hok d0 _ hd);exact⟨some o,b.at_,b.cls,by unfold W.notCls;rw[b.data],by rw[b.dict];exact z⟩
 have L:W.Looks (model X.prog X.w) s.heap (isInstance (.ref e) (.type "object")) true:=B.type.andThen (W.looks_mroIn I.kIn S.c.obj);have M:argsOk "object.__setattr__" ⟨[.ref e,.str f s.toks,u],[]⟩:=l.args _ _ _;refine W.set_plain I.kIn B S.sa (codeAny_call_builtin l.slot.plain l.entry ?_);refine @W.check_slot (model X.prog X.w) _ _ { s with toks:=s.toks+1 } "object.__setattr__" "object" "__setattr__" (.ref e) [.str f s.toks,u] [] _ l.kind l.split L M ?_;refine FC (h:=s.heap) (g:=s.gens) (d:=s.drawn) (t:=s.toks+1) (os:=s.os) I.kIn S.x S.c D b (λz h' d1 J i p kp n m=>?_) (λd1 z=>?_)
 ·subst z;have a:=I.none_of p;refine k0 rfl d1 a (λq=>by rw[q,hx]at a;cases a) _ (I.xdict (t':=i) hx p kp n ⟨_,m,λg=>?_⟩);by_cases q:g=f
  ·subst q;rw[X9 rfl,VR,beq_self_eq_true];exact v
  ·rw[X8 q,VR,show (g == f)=false by simpa using q];trivial
 ·obtain⟨fs,hd,hz,k⟩:=k1 d1 z;obtain⟨mA,a,r⟩:=(show ∃mA,s.heap.Ns1 d1 mA/\∀f,cT (fs.lookup f) (mA f) from I.hok d1 _ hd);refine⟨mA,fs.map (·.1),a,FT r,by rw[U9];omega,λh' i kp m=>k _ ?_⟩;refine I.xput (t':=i) hd kp ⟨_,m,λg=>?_⟩;rw[uo];by_cases q:g=f
  ·rw[X9 q,X9 q];exact v
  ·rw[X8 q,X8 q];exact r g
end
def Jr(K:W.Frag)(c d:TE)(f:Str):TS:=λD σ H=>d σ H λy b=>c σ b λx a=>∃e C od,x=.ref e/\a e=some (XN e C od)/\zn K C/\cU K C f /\
 (od=none->∀d0,a d0=none->d0≠e->D.nx σ (upd (upd a d0 (.xd [(f,y)])) e (XN e C (some d0))))/\(∀d0,od=some d0->∃fs,a d0=some (.xd fs)/\fs.length<999/\D.nx σ (upd a d0 (.xd (cI f y fs))))
def N8{v:V}{u:Value}(r:aR v u):W.handedIn u=true:=by
 cases v<;>first|(obtain rfl:=r;rfl)|(obtain⟨_,rfl⟩:=r;rfl)
structure Uv (K:W.Frag) (Y:Addr):Prop where
 sp:W.specialIn K (.ref Y) "__getattribute__" = some (some (.builtin "type.__getattribute__"))
 rd:W.readsIn K Y (.type "type")=true
 fc:W.findCls K (.ref Y) (.type "type") "__init__" = some (.val (.builtin "ValueError.__init__"))
def Ax(K:W.Frag)(t:TA):TE:=λσ H Q=>t σ H λvs a=>match vs with
 | .ref e::bQ=>bQ.length<=1000/\∃C od,a e=some (XN e C od)/\fH K C iX "ValueError.__new__" = true/\Q .non a
 | _=>False
def GU(K:W.Frag)(b:TE)(f:Str):TE:=λσ H Q=>b σ H λx a=>∃e C d0 fs v,x=.ref e/\(a e=some (XN e C (some d0))\/∃q,a e=some (XO e C (some d0) q))/\a d0=some (.xd fs)/\gx K C/\cU K C f/\fs.lookup f=some v/\Q v a
section
variable {X:Cx}{K:W.Frag}{Y:Addr}{y f:Str}{np apos pos pos':Pos}{a o value:Expr}{es:List Expr}{t:TA}{ta tv:TE}
def tV(h:X.K=K)(n:QE X o ta)(l:QE X value tv)(hs:swapsWith value (some (.Attribute o f pos')) pos.line X.env=pure false:=by rfl):QS X (.Assign [.Attribute o f pos'] value pos) (Jr K ta tv f):=⟨by
 subst h;intro a s σ H D I h;refine plainObj_wpAny_Assign_Attribute (aB (l.h a s σ H _ I h) λu s1 ⟨y,i,r,j,q⟩=>aB (n.h a s1 σ i _ r q) λv G ⟨x,F,g,p,e,C,od,ex,hx,S,m,k0,k1⟩=>?_) hs;subst ex;obtain rfl:v=Value.ref e:=p;exact Ir g hx S m j (λz d0 d b B c=>⟨σ,_,c,k0 z d0 d b⟩) λd0 z=>let ⟨fs,d,b,k⟩:=k1 d0 z;⟨fs,d,b,λB c=>⟨σ,_,c,k⟩⟩⟩
def J6{pl:Sem Bool}(h:X.K=K)(B:Uv K Y)(L:X.mg y=some (.ref Y))(O:QA X (a::es) t)(n:Gl X y:=by rfl)(hd:(y == ("__debug__" : Str))=false:=by decide)(l:dA (a::es)=true:=by rfl)
 (N:eval (.Call (.Attribute (.Name y np) "__init__" apos) (a::es) [] pos) X.env=(do
   let ov <- eval (.Name y np) X.env
   standAt apos.atName
   let (f,first) <- holding [ov] (getMethod ov "__init__" pl)
   callWith pos f first (backTo pos (starEach (a::es) X.env)) (backToKw pos (keywordEach [] X.env))):=by rfl) :
 QE X (.Call (.Attribute (.Name y np) "__init__" apos) (a::es) [] pos) (Ax K t):=⟨by
 subst h;intro b s σ H Q I h;have ho:PE X (.Name y np) (tC (.ref Y)):=(fS (v:=.ref Y) n L rfl hd).h;refine W.methodCall_KW (pl:=pl) (aB (ho b s σ H (λv U=>v=.ref Y/\Ax X.K t σ U Q) I ⟨rfl,h⟩) λu s1 ζ=>?_) N;obtain⟨x,p,g,R,ex,q⟩:=ζ;subst ex;obtain rfl:u=Value.ref Y:=R;refine W.method_cls g.kIn B.sp (W.cls_value (s:=s1) g.kIn B.rd B.fc Z ?_);have m:=g.tok (s1.toks+1);have z:=O.h pos b { s1 with toks:=s1.toks+1 } σ p _ m q;rw[cv (dz l).1]at z ⊢;refine Calls.callWith_builtin (first:=[]) (hZ (dz l).2) (Calls.evalArgs_plain (aB z λus G ζ=>?_));obtain⟨vs,i,j,r,d⟩:=ζ;cases vs with
 | nil=>exact d.elim
 | cons v0 bQ =>
  cases v0 with
  | ref e =>
   obtain⟨hz,C,od,hx,J,d⟩:=(show bQ.length<=1000/\∃C od,i e=some (XN e C od)/\fH X.K C iX "ValueError.__new__" = true/\Q .non i from d);cases r with
   | cons r1 r2 =>
    obtain rfl:=(show _=Value.ref e from r1);obtain⟨⟨V,M,S⟩,_⟩:=j.hok e _ hx;refine R1 j.kIn J S (cQ (by rw[<- aJ.length r2];omega)) λh' kp ζ=>?_;obtain⟨F,D,c⟩:=ζ;have k:=af.write (t':=G.toks) (x:=e) (e:=e) (h':=h') (o:=XN e C od) j (by rw[hx];trivial) (.inl rfl) kp ⟨_,c.at_⟩ (sZ c);rw[Gg hx]at k;exact⟨.non,i,k,Z,d⟩
  | _=>exact d.elim⟩
def tW(h:X.K=K)(k:QE X o ta)(hb:attributeBase o f X.env (eval o X.env)=eval o X.env:=by rfl):QE X (.Attribute o f pos) (GU K ta f):=⟨by
 subst h;intro g s σ H Q I h;refine Ej hb (aB (k.h g s σ H _ I h) λu s1 ζ=>?_);obtain⟨x,m,d,B,e,C,d0,fs,v,ex,hx,hd,c,n,l,q⟩:=ζ;subst ex;obtain rfl:u=Value.ref e:=B;obtain⟨tb,b,vs,J,a⟩:∃tb b vs q,cF s1.heap e C (some d0) tb b vs q:=by
  rcases hx with hx|⟨q,hx⟩
  ·obtain⟨⟨b,vs,a⟩,_⟩:=d.hok e _ hx;exact⟨.none,b,vs,false,a⟩
  ·obtain⟨⟨tb,b,vs,a⟩,_⟩:=d.hok e _ hx;exact⟨tb,b,vs,q,a⟩
 obtain⟨mA,y,r⟩:=(show ∃mA,s1.heap.Ns1 d0 mA/\∀f,cT (fs.lookup f) (mA f) from d.hok d0 _ hd);obtain⟨o,ho,p⟩:=qG y;obtain⟨u,D,i⟩:∃u,mA f=some u/\aR v u:=by
  have z:=r f;rw[l]at z;cases q:mA f with
  | none=>rw[q]at z;exact z.elim
  | some u=>rw[q]at z;exact⟨u,Z,z⟩
 have j:W.InstAt s1.heap e b C (some o):=⟨a.at_,a.cls,by unfold W.notCls;rw[a.data],by rw[a.dict];exact ho⟩;have hf:W.findObj X.K C (some o) f=some (.value u):=by
  obtain⟨G,F,q⟩:=W.any_some c.hd;unfold W.findObj W.ownOf;rw[F,Wq,show W.findIn X.K (.ref C) f=some none from n,Wq];simp[q,p,D]
 unfold getAttr;refine on (wpAny_mkText (zz (s:={ s1 with toks:=s1.toks+1 }) d.kIn c j (FF (s:={ s1 with toks:=s1.toks+1 }) d.kIn j hf ⟨N8 i,⟨v,m,d.tok _,i,q⟩⟩)))⟩
end
inductive pC (K:W.Frag) (H:Hp):V->Value->Prop where
 | of {x:V} {t:Value} (h:sP K H x t):pC K H x t
 | exd {e C d0:Addr} {fs:List (Str × V)} (h:H e=some (XN e C (some d0))\/∃q,H e=some (XO e C (some d0) q)) (hd:H d0=some (.xd fs)) (c:gx K C):pC K H (.ref e) (.ref C)
def uZ(K:W.Frag):List V->Hp->VK->Prop:=λxs H Q=>match xs with
 | [x,.ty T]=>∃t b,pC K H x t/\W.kitOne K t (.type T)=some b/\Q (.bl b) H
 | [x,.ref C]=>∃t b,pC K H x t/\W.kitOne K t (.ref C)=some b/\Q (.bl b) H
 | _=>False
section
variable {X:Cx}{K:W.Frag}
def CG{i:List (Addr × Obj)}{σ:St}{H:Hp}{s:fy}{A:Around}{E:Value->fy->Prop}{Q:Value->fy->Prop}{c:Value}{b:Bool}{x:V}{u t:Value}(I:af X i σ H s)(j:aR x u)(ty:pC X.K H x t)(e:W.kitOne X.K t c=some b)(h:∀tk,Q (.bool b) { s with toks:=tk }) :
 wpAny (model X.prog X.w) A (call (.builtin "isinstance") [u,c]) Q E s:=by
 cases ty with
 | of ty=>exact ND I j ty e h
 | @exd a C d0 fs he hd hc =>
  cases (show u=Value.ref a from j);obtain⟨tb,g,vs,m,d⟩:∃tb g vs q,cF s.heap a C (some d0) tb g vs q:=by
   rcases he with hx|⟨q,hx⟩
   ·obtain⟨⟨g,vs,d⟩,_⟩:=I.hok a _ hx;exact⟨.none,g,vs,false,d⟩
   ·obtain⟨⟨tb,g,vs,d⟩,_⟩:=I.hok a _ hx;exact⟨tb,g,vs,q,d⟩
  obtain⟨mA,k,r⟩:=(show ∃mA,s.heap.Ns1 d0 mA/\∀f,cT (fs.lookup f) (mA f) from I.hok d0 _ hd);obtain⟨o,ho,l⟩:=qG k;exact W.kia_one (uq (ox:=g) (od:=some o) hc) I.kIn ⟨d.at_,d.cls,by unfold W.notCls;rw[d.data],by rw[d.dict];exact ho⟩ e (λz=>nomatch z) h
def RB:ck X (.builtin "isinstance") (uZ X.K):=by
 intro f s σ H xs us Q I r q;unfold uZ at q
 split at q
 ·obtain⟨t,b,e,c,q⟩:=q;obtain⟨u,g,rfl,a,d⟩:=m9 r;cases d;exact CG I a e c λh=>⟨.bl b,H,I.tok _,Z,q⟩
 ·obtain⟨t,b,e,c,q⟩:=q;obtain⟨u,g,rfl,a,d⟩:=m9 r;cases d;exact CG I a e c λh=>⟨.bl b,H,I.tok _,Z,q⟩
 ·exact q.elim
def D6 (h:X.K=K):ck X (.builtin "isinstance") (uZ K):=by subst h;exact RB
end
section
variable {M:Model}{A:Around}{E:Value->fy->Prop}{env:Env}
def JD{s:fy}{x:Sem Value}{Q:Flow->fy->Prop}(z:A.handled=none)
 (h:wpAny M A x (λv c=>∃e C od m vs u q N bs j a r f o i p k0 k1 k2 k3 k5 newId,v=.ref e/\cF c.heap e C od .none m vs /\
   c.heap.get? C=some (excClassObj u q C N bs j a r f o i p k0 k1 k2 k3 k5 newId)/\j.contains (.type "BaseException")=true/\E (.ref e) c) E s) :
 wpAny M A (raiseStmt env (some x) none) Q E s:=by
 unfold raiseStmt;refine on (wpAny_mono h (λv c F=>?_) λ_ _ x=>x);obtain⟨e,C,od,m,vs,u,q,N,bs,j,a,r,f,o,i,p,k0,k1,k2,k3,k5,newId,rfl,k,hC,b,hE⟩:=F;have hcB:(Value.ref C::j).contains (.type "BaseException")=true:=by rw[List.contains_cons,b,Bool.or_true]
 obtain⟨J,g,d,I,os⟩:=c;obtain⟨G,D,B,y⟩:=m;have l:=k.at_;have n:=k.cls;have hd:=k.data;simp only at l n hd;subst n hd
 repeat (first|with_reducible refine wpAny_field l rfl k.tb1 ?_|with_reducible refine wpAny_loadPart_at l ?_|with_reducible refine wpAny_loadPart_at hC ?_|(with_reducible refine wpAny_isSubtype_exc hC ?_;rw[hcB])|wp_step)
 exact wpAny_raiseNew_none z hE
end
def Ew(C:Addr)(Es:St->XK)(σ:St):VK:=λx H=>∃e od,x=.ref e/\H e=some (XN e C od)/\Es σ (.ref C) (some e) (upd H e (XO e C od))
def GV(C:Addr)(sp:Sp)(Es:St->XK)(t:TA):TS:=λ_ σ H=>t σ H λvs a=>vs.length<=1000/\∀e,a e=none->sp (.ref e::vs) (upd a e (XN e C none)) (λv b=>v=.non/\Ew C Es σ (.ref e) b) E0
section
variable {X:Cx}{k j:Nat}{f C:Addr}{fd:FuncData}{ps:List Str}{sp:Sp}{x m:Str}{np cpos pos apos:Pos}{a e o:Expr}{es:List Expr}{ta:TE}{t:TA}{Es:St->XK}{dvs:List V}
def Jv{b:List (Addr × Obj)}{σ:St}{H:Hp}{s:fy}{Q:VK}{us:List Value}{vs:List V}(M:zr X.K C f)(F:bN X.prog X.w X.K X.mg X.base cn k f fd ps sp)(L:bV (k+1) X.A)(hb:ax X.K fd ps [])(I:af X b σ H s)(r:aJ vs us)(hz:vs.length<=1000)
 (h:∀e,H e=none->sp (.ref e::vs) (upd H e (XN e C none)) (λv J=>v=.non/\Q (.ref e) J) E0):wpAny (model X.prog X.w) X.A (call (.ref C) us) (λu n=>(∃e,u=.ref e/\s.heap.get? e=none)/\EP X b σ Q u n) X.xe s:=by
 obtain⟨bm,N,nm,qn,bs,l,sn,G,ab,U,dd,k0,k1,k2,k3,k5,hC0,T⟩:=fH.obj I.kIn M.x;refine FE (h:=s.heap) (g:=s.gens) (d:=s.drawn) (t:=s.toks) (os:=s.os) XS T I.kIn hC0 M.init (beq_iff_eq.mp M.fn) (λh' e m=>?_) (cQ (by rw[<- r.length];omega));obtain⟨t',B,q,Y⟩:=m.there;have R:cF h' e C none .none _ _:=⟨B,rfl,rfl,rfl,rfl,rfl,λ_=>rfl⟩;have c:=I.adopt (t':=s.toks) (o:=XN e C none) m.keeps m.new (sZ R);have i:=h e (I.none_of m.new);have j:aJ (V.ref e::vs) (Value.ref e::us):=.cons rfl r;have y:(Value.ref e::us++([]:List Value)).length=ps.length:=by
  have z:=j.length;rw[F.len _ _ _ _ i]at z;rw[VI];exact z.symm
 refine wpAny_call (codeAny_mono (F.run _ X.stack _ _ ⟨Value.ref e::us,[]⟩ (Value.ref e::us) _ _ E0 (L.make C us []) (c.env0.make C us []) (by have:=hb _ (Value.ref e::us) c.kIn y;rwa [VI]at this) j i) λr n a=>?_);cases r with
 | error e=>exact a.elim
 | ok fl =>
  cases fl with
  | ret u =>
   obtain⟨v,W,O,p,S,D⟩:=c.after a;subst S;exact⟨p,⟨e,Z,m.new⟩,⟨V.ref e,W,O,Z,D⟩⟩
  | next=>exact False.elim a
  | brk=>exact False.elim a
  | cont=>exact False.elim a
def JS(F:EE X.prog X.w X.K X.mg X.base x C j f fd ps sp)(hr:bV k X.A)(S:X.calm=true)(hx:jY X Es)(ha:QA X (a::es) t)(hj:j+1<=k:=by decide)(O:Gl X x:=by rfl)(n:(x == ("__debug__" : Str))=false:=by decide)(L:dA (a::es)=true:=by rfl) :
 QS X (.Raise (some (.Call (.Name x np) (a::es) [] cpos)) none pos) (GV C sp Es t):=⟨by
 intro c s σ H D I h;have ev:wpAny (model X.prog X.w) X.A (eval (.Call (.Name x np) (a::es) [] cpos) X.env) (λu M=>(∃e,u=.ref e/\(X.ex=[]->X.s₀.heap.get? e=none))/\EP X c σ (Ew C Es σ) u M) X.xe s:=by
  refine wpAny_Call_Name_kw (jO I O F.g ?_ n);refine W.callWith_K (h₀:=X.base) I.ok.mod.kin F.mkx.kp (aB (ha.h cpos c s σ H _ I h) λus s1 ζ=>?_) (cv (dz L).1) (hZ (dz L).2);obtain⟨vs,H1,o,r,hz,q⟩:=ζ;refine ⟨o.kIn,?_⟩;refine wpAny_mono (Jv F.mkx F.ok (hr.mono hj) F.b o r hz q) (λu M ζ=>?_) λ_ _ z=>z;obtain⟨⟨e,z1,z2⟩,z3⟩:=ζ;exact ⟨⟨e,z1,λh0=>o.newx h0 z2⟩,z3⟩
 rw[arm_exec_Raise];refine on (wpAny_standAt (JD (I.ok.hd S) ?_));refine on (wpAny_mono ev (λv s3 hv=>on (wpAny_standAt (X7 ?_))) λ_ _ z=>z);obtain⟨⟨V,z1,z2⟩,y,H2,m,G,l,od,R,J,q2⟩:=hv;rw[R]at G;have i:v=Value.ref l:=G;rw[i]at z1;obtain rfl:l=V:=Value.ref.inj z1;rw[i];obtain⟨⟨oe,vs,xa⟩,_⟩:=m.hok l _ J;obtain⟨bm,N,nm,qn,bs,d,sn,p,U,B,Y,k0,k1,k2,k3,k5,hC0,T⟩:=fH.obj m.kIn F.mkx.x;exact⟨l,C,od,oe,vs,nm,qn,N,bs,bm,d,sn,p,U,B,Y,k0,k1,k2,k3,k5,_,Z,xa,hC0,T.hasType XS.hasBase,hx.up c _ _ (Qu m J z2 q2)⟩⟩
end
structure TD (k:Nat) (A:Around):Prop where
 dp:A.depth+3*k+5<recursionLimit
 un:A.units+16*k+200<cLine
structure zw (P:Program) (w:World) (K:W.Frag) (mg:Str->Option Value) (base:Heap) (k:Nat) (f:Addr) (fd:FuncData) (ps:List Str) (sp:Sp):Prop where
 len:∀vs H Q E,sp vs H Q E->vs.length=ps.length
 run:∀(A:Around) (outer:List Env) (s:fy) (H:Hp) (args:Args) (us:List Value) (vs:List V) (Q:VK) (E:XK),TD k A->ju P w K mg base A outer s H->BindsTo s fd args (ps.zip us)->aJ vs us->sp vs H Q E ->
  codeAny (model P w) A (.call (.ref f) args) (CR cn outer P w H s Q E) s
structure UX (P:Program) (w:World) (K:W.Frag) (mg:Str->Option Value) (base:Heap) (x:Str) (C:Addr) (k:Nat) (f:Addr) (fd:FuncData) (ps:List Str) (sp:Sp):Prop where
 g:mg x=some (.ref C)
 mkx:zr K C f
 b:ax K fd ps []
 ok:zw P w K mg base k f fd ps sp
section
variable {X:Cx}{k j:Nat}{f C:Addr}{fd:FuncData}{ps:List Str}{sp:Sp}{x m:Str}{p pos:Pos}{e:Expr}{es:List Expr}{t:TA}{dvs:List V}{ds:List Value}{Es:St->XK}
structure UW (P:Program) (w:World) (K:W.Frag) (mg:Str->Option Value) (base:Heap) (x:Str) (k:Nat) (f:Addr) (fd:FuncData) (ps:List Str) (sp:Sp):Prop where
 g:mg x=some (.ref f)
 kp:W.keepIn K (.ref f)=true
 b:ax K fd ps []
 ok:zw P w K mg base k f fd ps sp
end
section
variable {X:Cx}{K:W.Frag}{o i value:Expr}{td ty tv:TE}{pos pos':Pos}
def Qj:R2:=λy x H Q=>∃a ov,x=.ref a/\fN H a y ov/\Q (.bl (!ov.isSome)) H
def PR(h:X.A.units+64<cLine):be X (compareOp .NotIn) Qj:=by
 intro b s σ H x y v u Q I d c q;obtain⟨a,f,rfl,g,q⟩:=q;obtain rfl:u=Value.ref a:=c;exact Q0 (by omega) I g d λi e=>⟨.bl (!f.isSome),H,e,rfl,q⟩
def qe(c:X.A.units+64<cLine)(ho:QE X o td)(a:QE X i ty)(b:QE X value tv)(hs:swapsWith value (some (.Subscript o i pos')) pos.line X.env=pure false:=by rfl):QS X (.Assign [.Subscript o i pos'] value pos) (Bk td ty tv):=⟨Kz (by omega) ho.h a.h b.h hs⟩
end
def Dy(K:W.Frag):List V->Hp->VK->Prop:=λxs H Q=>∃(a C d0:Addr) (fs:List (Str × V)) (d:Addr) (c:List Addr) (b:Bool),xs=[.ref a,.ref d]/\(H a=some (XN a C (some d0))\/∃q,H a=some (XO a C (some d0) q))/\H d0=some (.xd fs)/\gx K C/\H d=some (.tup (c.map V.ref))/\W.kitAny K (.ref C) (c.map Value.ref)=some b/\Q (.bl b) H
theorem zO:∀ {a:List Addr} {us:List Value},aJ (a.map V.ref) us->us=a.map Value.ref
 | [],_,.nil=>rfl
 | c::a,_,.cons r rr=>by
  cases r;rw[zO rr];rfl
section
variable {X:Cx}{K:W.Frag}
def RD:ck X (.builtin "isinstance") (Dy X.K):=by
 intro j s σ H xs us Q I r q;obtain⟨a,C,d0,fs,l,U,b,rfl,F,hd,v,G,e,q⟩:=q;obtain⟨u,O,rfl,y,B⟩:=m9 r;cases y;cases B;obtain⟨tb,g,vs,M,c⟩:∃tb g vs q,cF s.heap a C (some d0) tb g vs q:=by
  rcases F with hx|⟨q,hx⟩
  ·obtain⟨⟨g,vs,c⟩,_⟩:=I.hok a _ hx;exact⟨.none,g,vs,false,c⟩
  ·obtain⟨⟨tb,g,vs,c⟩,_⟩:=I.hok a _ hx;exact⟨tb,g,vs,q,c⟩
 obtain⟨mA,J,S⟩:=(show ∃mA,s.heap.Ns1 d0 mA/\∀f,cT (fs.lookup f) (mA f) from I.hok d0 _ hd);obtain⟨o,ho,R⟩:=qG J;obtain⟨_,d,p,⟨D,k,i,n,h⟩⟩:=(show _/\∃d:List Value,aJ _ d/\IsTup s.heap l d.toArray from I.hok l _ G);obtain⟨L,od,x,m⟩:=D;simp only at i h;subst i h;rw[zO p]at k;exact W.kia_tup (uq (ox:=g) (od:=some o) v) I.kIn ⟨c.at_,c.cls,by unfold W.notCls;rw[c.data],by rw[c.dict];exact ho⟩ k e (λz=>nomatch z) λN=>⟨.bl b,H,I.tok _,rfl,q⟩
def RC (h:X.K=K):ck X (.builtin "isinstance") (Dy K):=by subst h;exact RD
end
section
variable {X:Cx}{K:W.Frag}{k j:Nat}{f C:Addr}{fd:FuncData}{ps:List Str}{sp:Sp}{x m:Str}{p pos apos pos' tpos:Pos}{e o value:Expr}{es:List Expr}{ta tv:TE}{t:TA}
def J2{f:Str}(h:X.K=K)(a:QE X o ta)(b:QE X value tv):QS X (.AugAssign (.Attribute o f tpos) .Add value pos) (Bi K ta tv Bs f):=by subst h;exact⟨Ku a.h b.h NP⟩
structure UT (P:Program) (w:World) (K:W.Frag) (mg:Str->Option Value) (base:Heap) (C:Addr) (m:Str) (k:Nat) (f:Addr) (fd:FuncData) (ps:List Str) (sp:Sp):Prop where
 c:dH K C
 mt:bE K C m f
 b:ax K fd ps []
 ok:zw P w K mg base k f fd ps sp
end
section
variable {X:Cx}{K:W.Frag}
def Qm:R2:=λy x H Q=>∃a ov,x=.ref a/\fN H a y ov/\Q (.bl ov.isSome) H
def Dt(h:X.A.units+64<cLine):be X (compareOp .In) Qm:=by
 intro b s σ H x y v u Q I d c q;obtain⟨a,f,rfl,g,q⟩:=q;obtain rfl:u=Value.ref a:=c;exact Q3 (by omega) I g d λi e=>⟨.bl f.isSome,H,e,rfl,q⟩
def uU(K:W.Frag):V->List V->Hp->VK->Prop:=λx vs H Q=>∃(a:Addr) (y:V) (xs:List V) (j:Nat),x=.ref a/\vs=[y]/\H a=some (.lst xs)/\fZ y=true/\xs.all fZ=true/\(∃z,xs[j]? = some z/\dh z y=true)/\(∀i z,i<j->xs[i]? = some z->dh z y=false)/\Q (.int (j:Int)) H
def MR:gz X "list.index" (uU X.K):=by
 intro r s σ H x vs v us Q I V N q;obtain⟨a,y,xs,j,rfl,rfl,hx,U,fx,⟨z,hz,S⟩,l,q⟩:=q;cases V;obtain⟨u,rfl,R⟩:=iH N;obtain⟨b,k,pl,hsz⟩:=I.list (.of hx);have W:=k.length;have G:j<b.length:=by have:=(Vh.mp hz).1;omega
 obtain⟨⟨M,O,L,J⟩,n,C,p,o,B⟩:=pl;simp only at p o B;subst p o B;have at_:∀i (d:i<b.toArray.size),∃z,xs[i]? = some z/\eJ y b.toArray[i]=dh z y:=λi d=>by
  have c:i<xs.length:=by rw[Vl]at d;omega
  obtain⟨w,hw,h⟩:=k.get (i:=i) (x:=xs[i]) (by simp[c]);have e:b.toArray[i]=w:=by simpa using (Vh.mp hw).2
  refine⟨xs[i],by simp[c],?_⟩;rw[e];exact wN h (WD.mp fx _ (Xo c))
 refine call_meets WH ⟨_,C,Z⟩ PySem.F.entry_list_index (PySem.F.args_list_index_2 _ _)
  (SeqAt.list_indexAt a b.toArray n _ _ u (eJ y) j (by simpa using G) ?_ ?_ ?_) ⟨C,λw hw=>mG R U k fx w (by simpa using hw),⟨.int j,H,I.tok _,⟨_,rfl⟩,q⟩⟩
 ·have:sizeLine<=2 ^ 40:=by decide
  have:(2:Int) ^ 63=9223372036854775808:=by decide
  have:(2:Nat) ^ 40=1099511627776:=by decide
  omega
 ·obtain⟨D,f,m⟩:=at_ j (by simpa using G);rw[hz]at f;cases f;rw[m];exact S
 ·intro i d g;obtain⟨D,f,m⟩:=at_ i d;rw[m];exact l i D g f
def qA (h:X.K=K):gz X "list.index" (uU K):=by subst h;exact MR
end
section
open HT
variable {prog:Program}{w:World}{A:Around}{E:Value->fy->Prop}{s:fy}
def O3{t f:Addr}{items:Array Value}{i g:Value}{lo c:Option Int}{Q:Value->fy->Prop}(a:IsTup s.heap t items)(hs:s.heap.IsSliceOf f i g .none)(pl:IsPart i lo)(j:IsPart g c)
 (hw:sIx items.size 0 lo=0/\sIx items.size items.size c=items.size) (h:Q (.ref t) s):wpAny (model prog w) A (getItem (.ref t) (.ref f)) Q E s:=by
 obtain⟨os,e,d,k⟩:=id hs;have hTs:s.TypeIs (.ref f) "slice":=⟨os,e,d⟩;unfold getItem
 try with_reducible refine wpAny_holding ?_
 first|refine on (X7 ?_)|skip
 refine on (wpAny_sequenceKey a.typeIs (by decide) ?_);refine on (wpAny_callSpecial?_slot (name:=Str.ofString "__getitem__") a.typeIs Wj
  (wpAny_call_entry Wj a.typeIs entry_tuple_getitem ?_ (args_tuple_getitem _ _)))
 show wpAny _ _ (Builtin.Tuple.tupleItemsOf (.ref t) >>= _) _ _ s;refine on (tupleItemsOf_ a ?_);refine on (wpAny_typeOf hTs ?_);rw[X9 (by decide)];refine on (AS hs pl j ?_);have b:((((sIx items.size 0 lo:Nat):Int) == 0 && (1:Int) == 1 && (sIx items.size items.size c-sIx items.size 0 lo) == items.size)=true):=by
  rw[hw.1,hw.2];simp
 show wpAny _ _ (if (((sIx items.size 0 lo:Nat):Int) == 0 && (1:Int) == 1 && (sIx items.size items.size c-sIx items.size 0 lo) == items.size)=true then _ else _) _ _ s;rw[X9 b];unfold Builtin.Tuple.tupleIsExact;refine on (on (wpAny_typeOf a.typeIs (X7 ?_)));rw[X9 (by decide)];refine on (wpAny_rule ?_)
 first
  | exact X7 ⟨_,rfl,X7 h⟩
  | exact on (X7 ⟨_,rfl,X7 h⟩)
  | exact on (X7 (X7 ⟨_,rfl,X7 h⟩))
end
section
variable {X:Cx}{K:W.Frag}{pos:Pos}
def Na:TE:=λ_ H Q=>∀p H',bz H p (.dT []) H'->Q (.ref p) H'
def BB:QE X (.Dict [] [] pos) Na:=⟨Lb.imp λσ H Q q=>λp a=>q p _ (.mk' a)⟩
def Dv(K:W.Frag):V->Option Int->Option Int->Hp->VK->Prop:=λx lo b H Q=>match x with
 | .ref a=>∃xs,bw K H a xs/\H a=some (.tup xs)/\∀p H',aj H H'->H' p=some (.tup (dR xs lo b))->Q (.ref p) H'
 | _=>False
def PF:jq X (Dv X.K):=by
 intro c s σ H x v m k lo e l Q I g hs pl f q;cases x with
 | ref a =>
  obtain⟨xs,i,n,q⟩:=q;by_cases hw:HT.sIx xs.length 0 lo=0/\HT.sIx xs.length xs.length e=xs.length
  ·cases g;obtain⟨d,r,h,hz⟩:=I.tuple i;have b:d.toArray.size=xs.length:=by rw[Vl];exact r.length.symm
   refine⟨"tuple",_,Wj.lookup,h.typeIs,?_⟩;refine O3 h hs pl f (by rw[b];exact hw) ?_;refine⟨.ref a,H,I,Z,q a H (aj.refl _) ?_⟩;rw[n];unfold dR;rw[hw.1,hw.2,Xp,VW (by omega)]
  ·exact Ik c s σ H _ v m k lo e l Q I g hs pl f ⟨a,xs,Z,i,hw,λp j=>q p _ (bz.mk' j).sm (bz.mk' j).at_⟩
 | _=>exact False.elim q
def Dr(h:X.K=K):jq X (Dv K):=by subst h;exact PF
end
section
variable {X:Cx}{o:Expr}{es:List Expr}{kk:Nat}{pp apos cpos:Pos}{td:TE}
def Qp{K:W.Frag}{a b:Addr}{xs zs:List V}{g:TG}{tb:TS}{D:ff}{σ:St}{H:Hp}(d:Nat->St->Hp->Prop)(s:d 0 σ H)(C:∀i σ H,i<=xs.length->i<=zs.length->d i σ H->aH K H a xs/\aH K H b zs)
 (hs:∀i x z p σ H c,xs[i]? = some x->zs[i]? = some z->d i σ H->bz H p (.tup [x,z]) c->g (.ref p) σ c λj f=>tb { D with nx:=d (i+1),ct:=d (i+1),bk:=D.nx } j f) (hd:∀σ H,d (min xs.length zs.length) σ H->D.nx σ H) :
 ∃W:Nat->Nat->St->Hp->Prop,(∃m,W 0 m σ H)/\∀i m σ H,W i m σ H ->
  ((jZ K a b).stop i H/\D.nx σ H)\/((jZ K a b).go i H/\∃N:St->Hp->Prop,(∀h c,N h c->∃m',m'<m/\W (i+1) m' h c)/\∀x c,(jZ K a b).yld i H x c->g x σ c λj f=>tb { D with nx:=N,ct:=N,bk:=D.nx } j f):=by
 refine⟨λi m σ H=>m=xs.length-i/\i<=xs.length/\i<=zs.length/\d i σ H,⟨xs.length,by simp,Vq _,Vq _,s⟩,?_⟩;rintro i m σ H ⟨rfl,r,k,p⟩;obtain⟨q,l⟩:=C i σ H r k p;by_cases hlt:i<xs.length/\i<zs.length
 ·refine .inr ⟨⟨xs,zs,xs[i]'hlt.1,zs[i]'hlt.2,q,by simp[hlt.1],l,by simp[hlt.2]⟩,d (i+1),λh c o=>⟨xs.length-(i+1),by omega,rfl,hlt.1,hlt.2,o⟩,λx c y=>?_⟩;obtain⟨pp,v,u,rfl,y,n,B⟩:=y;exact hs i v u pp σ H c (y xs q) (n zs l) p B
 ·have e:i=min xs.length zs.length:=by omega
  exact .inl ⟨⟨xs,zs,q,l,by omega⟩,hd σ H (by rw[<- e];exact p)⟩
end
def gD(m x:Nat):Nat:=(x*5+1)%m
def iQ(m:Nat):Nat->Nat->Nat
 | 0,x=>x
 | n+1,x=>iQ m n (gD m x)
theorem qQ(m:Nat):∀(a b x:Nat),iQ m (a+b) x=iQ m b (iQ m a x)
 | 0,b,x=>by rw[V0];rfl
 | a+1,b,x=>by rw[Nat.add_right_comm];exact qQ m a b (gD m x)
def qp(m:Nat):Nat->Nat->Nat->Nat
 | 0,_,acc=>acc
 | n+1,x,acc=>qp m n (gD m x) (acc ||| (1 <<< x))
theorem BW(m j:Nat):∀(n x a:Nat),(qp m n x a).testBit j=true->a.testBit j=true\/∃k,k<n/\iQ m k x=j
 | 0,x,a,h=>.inl h
 | n+1,x,a,h=>by
  rcases BW m j n (gD m x) (a ||| (1 <<< x)) h with h|⟨k,hk,e⟩
  ·rw[Nat.testBit_or,W1]at h;rcases h with h|h
   ·exact .inl h
   ·refine .inr ⟨0,by omega,?_⟩;rw[Nat.one_shiftLeft,Nat.testBit_two_pow]at h;exact Yb h
  ·exact .inr ⟨k+1,by omega,e⟩
def cK(m:Nat):Prop:=qp m m 0 0=2 ^ m-1/\iQ m m 0=0
def cK.to0{m:Nat}(h:cK m){j:Nat}(a:j<m):∃k,k<m/\iQ m k 0=j:=by
 have:(qp m m 0 0).testBit j=true:=by rw[h.1,Nat.testBit_two_pow_sub_one];exact Yc a
 rcases BW m j m 0 0 this with z|z
 ·rw[Nat.zero_testBit]at z;cases z
 ·exact z
def cK.all{m:Nat}(h:cK m){i j:Nat}(e:i<m)(d:j<m):∃k,k<m/\iQ m k i=j:=by
 obtain⟨a,f,rfl⟩:=h.to0 e;obtain⟨b,hb,rfl⟩:=h.to0 d;by_cases c:a<=b
 ·exact⟨b-a,by omega,by rw[<- qQ,Nat.add_sub_cancel' c]⟩
 ·refine⟨m-a+b,by omega,?_⟩;rw[<- qQ,show a+(m-a+b)=m+b by omega,qQ,h.2]
def zN:cK 8:=by unfold cK;decide +kernel
def FY:cK 16:=by unfold cK;decide +kernel
def FW:cK 32:=by unfold cK;decide +kernel
def FU:cK 64:=by unfold cK;decide +kernel
def FZ:cK 128:=by unfold cK;decide +kernel
def FX:cK 256:=by unfold cK;decide +kernel
def FV:cK 512:=by unfold cK;decide +kernel
def Ga:cK 1024:=by unfold cK;decide +kernel
def pD(owner:Array (Option Nat))(j:Nat):Prop:=(owner.getD j (some 0)).isNone=false
def DC{mask:Nat}{owner:Array (Option Nat)}{f i p:Nat}(h:SetTable.layClean.free mask owner (f+1) i p=none):pD owner i/\SetTable.layClean.free mask owner f ((i*5+1+p/32)%(mask+1)) (p/32)=none:=by
 unfold SetTable.layClean.free at h
 split at h
 ·cases h
 ·rename_i e;refine⟨?_,h⟩;have a:0∈List.range (SetTable.runEnd mask i+1-i):=V5.mpr (by unfold SetTable.runEnd;split<;>omega);have:=V3.mp e 0 a;rw[Nat.add_zero]at this;exact Bool.eq_false_iff.mpr this
theorem DB{mask:Nat}{owner:Array (Option Nat)}:∀(f i:Nat),SetTable.layClean.free mask owner f i 0=none->∀k,k<f->pD owner (iQ (mask+1) k i)
 | 0,_,_,k,hk=>Ya hk (W3 _)
 | f+1,i,h,k,hk=>by
  obtain⟨a,b⟩:=DC h;rw[show i*5+1+0/32=i*5+1 by omega,Nat.zero_div]at b;cases k with
  | zero=>exact a
  | succ k=>exact DB f _ b k (by omega)
theorem DE{mask:Nat}{owner:Array (Option Nat)}:∀(n f i p:Nat),p<32 ^ n->SetTable.layClean.free mask owner (f+n) i p=none->i<mask+1->∃i',i'<mask+1/\SetTable.layClean.free mask owner f i' 0=none
 | 0,f,i,p,hp,h,hi=>by
  obtain rfl:p=0:=by rw[Nat.pow_zero]at hp;omega
  exact⟨i,hi,h⟩
 | n+1,f,i,p,hp,h,hi=>by
  obtain⟨_,b⟩:=DC (f:=f+n) h;exact DE n f _ (p/32) (Nat.div_lt_of_lt_mul (by rw[Nat.pow_succ,Nat.mul_comm]at hp;exact hp)) b (Nat.mod_lt _ (by omega))
def Qo{mask:Nat}{owner:Array (Option Nat)}{h:Int}(f:cK (mask+1)){j:Nat}(b:j<mask+1)(c:¬pD owner j):∃j',SetTable.layClean.free mask owner (SetTable.turns mask) (SetTable.bits h%(mask+1)) (SetTable.bits h)=some j':=by
 cases e:SetTable.layClean.free mask owner (SetTable.turns mask) (SetTable.bits h%(mask+1)) (SetTable.bits h) with
 | some j'=>exact⟨j',rfl⟩
 | none =>
  exfalso
  have hb:SetTable.bits h<32 ^ 13:=by
   unfold SetTable.bits;have:=Int.emod_lt_of_pos h (show (0:Int)<2 ^ 64 by decide);have:=Int.emod_nonneg h (show (2 ^ 64:Int)≠0 by decide);have e:(32:Nat) ^ 13=2*2 ^ 64:=by decide
   rw[e];omega
  obtain⟨i,a,d⟩:=DE (mask:=mask) (owner:=owner) 13 (mask+2) _ _ hb (show SetTable.layClean.free mask owner (SetTable.turns mask) (SetTable.bits h%(mask+1)) (SetTable.bits h)=none from e) (Nat.mod_lt _ (by omega));obtain⟨k,g,rfl⟩:=f.all a b;exact c (DB _ _ d k (by omega))
theorem DD{mask:Nat}{owner:Array (Option Nat)}:∀(f i p j:Nat),SetTable.layClean.free mask owner f i p=some j->owner.getD j (some 0)=none
 | 0,_,_,_,h=>by unfold SetTable.layClean.free at h;cases h
 | f+1,i,p,j,h=>by
  unfold SetTable.layClean.free at h
  split at h
  ·rename_i k e;cases h;have:=WI e;exact X4.mp this
  ·exact DD f _ _ j h
def Iu{l:List (Option Nat)}{j k:Nat}(h:l[j]? = some none):List.Perm ((l.set j (some k)).filterMap id) (k::l.filterMap id):=by
 induction l generalizing j with
 | nil=>cases h
 | cons a l ih =>
  cases j with
  | zero =>
   cases h;exact .rfl
  | succ j =>
   have h:l[j]? = some none:=h;cases a with
   | none=>exact ih h
   | some b =>
    show List.Perm (b::(l.set j (some k)).filterMap id) (k::b::l.filterMap id);exact ((ih h).cons b).trans (List.Perm.swap ..)
def N7{l:List (Option Nat)}(h:(l.filterMap id).length<l.length):∃j,j<l.length/\l[j]? = some none:=by
 induction l with
 | nil=>cases h
 | cons a l ih =>
  cases a with
  | none=>exact⟨0,Nat.succ_pos _,rfl⟩
  | some b =>
   have h:(l.filterMap id).length+1<l.length+1:=h;obtain⟨j,c,e⟩:=ih (by omega);exact⟨j+1,Nat.succ_lt_succ c,e⟩
def qM(mask:Nat)(a:Option (Array (Option Nat) × Nat))(h:Int):Option (Array (Option Nat) × Nat):=do
 let (owner,k) <- a
 let j <- SetTable.layClean.free mask owner (SetTable.turns mask) (SetTable.bits h%(mask+1)) (SetTable.bits h)
 pure (owner.setIfInBounds j (some k),k+1)
def No{mask:Nat}(m:cK (mask+1)){owner:Array (Option Nat)}{k:Nat}(h:Int)(sz:owner.size=mask+1)(f:List.Perm (owner.toList.filterMap id) (List.range k))(lt:k<mask+1) :
 ∃owner',qM mask (some (owner,k)) h=some (owner',k+1)/\owner'.size=mask+1/\List.Perm (owner'.toList.filterMap id) (List.range (k+1)):=by
 have c:(owner.toList.filterMap id).length<owner.toList.length:=by rw[f.length_eq,V4,VE,sz];exact lt
 obtain⟨i,b,g⟩:=N7 c;rw[VE,sz]at b;have n:¬pD owner i:=by
  unfold pD;rw[Xv,<- XW,g]
  decide
 obtain⟨j,d⟩:=Qo (h:=h) m b n;have a:=DD _ _ _ _ d;have l:owner.toList[j]? = some none:=by
  rw[Xv,<- XW]at a;cases e:owner.toList[j]? with
  | none=>rw[e]at a;cases a
  | some v=>rw[e]at a;exact congrArg some a
 refine⟨owner.setIfInBounds j (some k),?_,?_,?_⟩
 ·unfold qM;simp only [Option.bind_eq_bind,Wq];rw[d]
  rfl
 ·rw[XR];exact sz
 ·rw[Array.toList_setIfInBounds];refine (Iu l).trans ((f.cons k).trans ?_);rw[List.range_succ];exact (List.perm_append_singleton k (List.range k)).symm
theorem CA{mask:Nat}(e:cK (mask+1)):∀(hs:e7) (owner:Array (Option Nat)) (k:Nat),owner.size=mask+1->List.Perm (owner.toList.filterMap id) (List.range k)->k+hs.length<=mask+1 ->
 ∃owner',hs.foldl (qM mask) (some (owner,k))=some (owner',k+hs.length)/\owner'.size=mask+1/\List.Perm (owner'.toList.filterMap id) (List.range (k+hs.length))
 | [],owner,k,sz,pm,_=>⟨owner,rfl,sz,pm⟩
 | h::hs,owner,k,sz,pm,le=>by
  rw[Vt]at le;obtain⟨o1,i,b,a⟩:=No e h sz pm (by omega);obtain⟨f,g,c,d⟩:=CA e hs o1 (k+1) b a (by omega);refine⟨f,?_,c,?_⟩
  ·rw[Wm,i,g,Vt,Nat.add_right_comm,Xw]
  ·rw[Vt,show k+(hs.length+1)=k+1+hs.length by omega];exact d
def JA(o:Array (Option Nat)):((List.range o.size).filterMap λj=>(o.getD j none).map λk=>(j,k)).map (λx=>x.2)=o.toList.filterMap id:=by
 rw[List.map_filterMap];have e:(λj=>Option.map (λx:Nat × Nat=>x.2) ((o.getD j none).map λk=>(j,k)))=λj=>(o[j]?).bind id:=by
  funext j
  rw[Xv];cases o[j]? with
  | none=>rfl
  | some v=>cases v<;>rfl
 rw[e];have a:=filterMap_getElem?_range o;rw[<- a,List.filterMap_filterMap]
def CC{mask finger moves:Nat}{led plain:Bool}{hs:Array Int}(d:cK (mask+1))(le:hs.size<=mask+1):∃t order,SetTable.laid mask finger moves led plain hs=some (t,order)/\t.mask=mask/\t.place.size=hs.size/\t.dummies = #[]/\List.Perm order.toList (List.range hs.size):=by
 obtain⟨o,e,sz,b⟩:=CA d hs.toList (Array.replicate (mask+1) none) 0 (Array.size_replicate ..) (by
  rw[Array.toList_replicate];have:∀n:Nat,(List.replicate n (none:Option Nat)).filterMap id=[]:=λn=>by
   induction n with
   | zero=>rfl
   | succ n ih=>rw[Wk];exact ih
  rw[this];exact .rfl) (by rw[VE];omega)
 have c:SetTable.layClean mask hs=some o:=by
  show Option.map _ (hs.foldl (qM mask) (some (Array.replicate (mask+1) none,0)))=_;rw[<- Array.foldl_toList,e]
  rfl
 have a:=JA o;rw[sz]at a;rw[VE,V0]at b;refine⟨_,_,by unfold SetTable.laid;rw[c];rfl,rfl,?_,rfl,?_⟩
 ·rw[Vl,U9,<- U9 (f:=λx:Nat × Nat=>x.2),a,b.length_eq,V4]
 ·show List.Perm (List.map _ _) _;rw[a];exact b
section
variable {prog:Program}{w:World}{A:Around}{E:Value->fy->Prop}{s:fy}
theorem wM{α:Type}:∀ {l:List α} {i:Nat} (h:i<l.length),List.Perm (l[i]::l.eraseIdx i) l
 | a::l,0,_=>.rfl
 | a::l,i+1,h=>by
  have h:i<l.length:=Nat.lt_of_succ_lt_succ h;show List.Perm (l[i]::a::l.eraseIdx i) (a::l);exact (List.Perm.swap ..).trans ((wM h).cons a)
theorem BK{α:Type}(next:Nat->Nat):∀(a k:Nat) (left:List α) (b:Array α),left.length=a->List.Perm (pickOrder.go next a k left b).toList (b.toList++left)
 | 0,k,left,b,h=>by
  obtain rfl:=WJ h;unfold pickOrder.go;rw[VI]
 | a+1,k,left,b,h=>by
  unfold pickOrder.go;have lt:next k%left.length<left.length:=Nat.mod_lt _ (by omega)
  rw[VG lt];dsimp only;refine (BK next a (k+1) _ _ (by rw[XX lt];omega)).trans ?_;rw[Array.toList_push,VF];refine List.Perm.append_left _ ?_;exact wM lt
def KL{α:Type}(next:Nat->Nat)(xs:Array α):List.Perm (pickOrder next xs).toList xs.toList:=by
 have:=BK next xs.size 0 xs.toList #[] (VE ..)
 exact this
def pS(w:World):Bool:=w.params.followText "set-order"
def zK{Q:Bool->fy->Prop}(h:Q (pS w) s):wpAny (model prog w) A setsByText Q E s:=by
 unfold setsByText;exact on (wpAny_askSetting (X7 h))
structure SI (prog:Program) (w:World) (h:Heap) (a:Addr) (o:Obj) (es:Array (Int × Value)) (ep:Nat) (t:SetTable):Prop where
 ho:h.get? a=some o
 hex:o.ExactSet
 hd:o.data=.set es ep t
 hel:ElemsOf (intKind prog w) es.toList
 hb:es.size<scanBound
 hf:t.fits es.size=true
def SI.at{h h':Heap}{a:Addr}{o:Obj}{es:Array (Int × Value)}{b:Nat}{t:SetTable}(I:SI prog w h a o es b t)(e:h'.get? a=some o):SI prog w h' a o es b t:=⟨e,I.hex,I.hd,I.hel,I.hb,I.hf⟩
def QM:∀(l:List (Int × Value)),ElemsOf (intKind prog w) l->∀e∈l,∃i t,e.2=.int i t:=λl h e a=>by
 obtain⟨⟨k,b,_⟩,_⟩:=h e a;obtain⟨t,e⟩:=Value.isInt_shape b;exact⟨k,t,e⟩
def FL{Q:Bool->fy->Prop}(a:List Addr)(hs:∀b∈a,∃o es d t,SI prog w s.heap b o es d t)(h:Q true s):wpAny (model prog w) A (setsQuiet a) Q E s:=by
 unfold setsQuiet;refine on ?_;refine wpAny_forIn_list _ (λl b f=>f=s/\b=⟨none,⟨⟩⟩/\∀x∈l,∃o es d t,SI prog w s.heap x o es d t) _ ?_ ?_ a _ ⟨rfl,rfl,hs⟩
 ·rintro x bQ b f ⟨rfl,rfl,k⟩;obtain⟨o,es,d,t,I⟩:=k x (Vz ..);refine on (wpAny_setEntries_of I.ho I.hd I.hf ?_);dsimp only;refine on ?_;refine XY _ (λl b c=>c=f/\b=(none,())/\ElemsOf (intKind prog w) l) _ ?_ ?_ es _ ⟨rfl,rfl,I.hel⟩
  ·rintro e g b c ⟨rfl,rfl,j⟩;obtain⟨i,p,n⟩:=QM _ j e (Vz ..);rw[n];exact X7 ⟨rfl,rfl,j.tail⟩
  ·rintro b c ⟨rfl,rfl,_⟩;exact X7 ⟨rfl,rfl,λy m=>k y (Vx _ m)⟩
 ·rintro b f ⟨rfl,rfl,_⟩;exact X7 h
def GZ{a:Addr}{o:Obj}{es:Array (Int × Value)}{e:Nat}{t:SetTable}{Q:Array (Int × Value)->fy->Prop}(I:SI prog w s.heap a o es e t)(c:pS w=true\/(t.led=true/\t.plain=true)\/es.size<=1)
 (h:∀es',List.Perm es'.toList es.toList->Q es' s):wpAny (model prog w) A (setWalk a) Q E s:=by
 unfold setWalk;refine on (wpAny_setState_of I.ho I.hd I.hf ?_);dsimp only;refine on (zK ?_);cases b:pS w with
 | true =>
  simp only [↓reduceIte];exact on (wpAny_askSetting (X7 (h _ (KL _ _))))
 | false =>
  have c:(t.led=true/\t.plain=true)\/es.size<=1:=c.resolve_left (by rw[b];decide);simp only [VU,↓reduceIte];have nd:(!t.plain && decide (es.size > 1))=false:=by
   rcases c with c|c
   ·rw[c.2];rfl
   ·rw[Yd (by omega),Xl]
  have d:(!t.led && decide (es.size > 1))=false:=by
   rcases c with c|c
   ·rw[c.1];rfl
   ·rw[Yd (by omega),Xl]
  show wpAny _ _ (if (!t.plain && decide (es.size > 1))=true then _ else (do (if (!t.led && decide (es.size > 1))=true then unsupported "set:maker-not-led" else pure ());pure es)) Q E s;rw[nd,d];simp only [VU,↓reduceIte];exact on (X7 (X7 (h _ .rfl)))
def zG{a:Addr}{d:List Addr}{filled:Option Addr}{o:Obj}{es:Array (Int × Value)}{g:Nat}{t:SetTable}{Q:Array (Int × Value)->fy->Prop}(I:SI prog w s.heap a o es g t)
 (hO:∀b∈d,∃o es g t,SI prog w s.heap b o es g t) (hF:∀f,filled=some f->∃o es g t,SI prog w s.heap f o es g t)
 (h:∀es',List.Perm es'.toList es.toList->Q es' s) (hf:∀f o i e j tf',filled=some f->SI prog w s.heap f o i e j->tf'.fits i.size=true->Q es { s with heap:=s.heap.update f (Obj.putSet i tf') }) :
 wpAny (model prog w) A (setWalkUnseen a d filled) Q E s:=by
 unfold setWalkUnseen;refine on (wpAny_setState_of I.ho I.hd I.hf ?_);dsimp only;refine on (zK ?_);by_cases c:(pS w || (t.led && t.plain) || decide (es.size<=1))=true
 ·rw[X9 c];refine GZ I ?_ h;simp only [W1,VB,decide_eq_true_eq]at c;rcases c with (c|c)|c
  ·exact .inl c
  ·exact .inr (.inl c)
  ·exact .inr (.inr c)
 ·rw[X8 c];refine on (FL (a::d) (λb hb=>?_) ?_)
  ·rcases Vr.mp hb with rfl|hb
   ·exact⟨o,es,g,t,I⟩
   ·exact hO b hb
  simp only [Wp,VU,↓reduceIte];refine on (wpAny_rule ?_);cases filled with
  | none=>exact X7 (h es .rfl)
  | some f =>
   obtain⟨of,i,e,j,J⟩:=hF f rfl;dsimp only;refine on (wpAny_setState_of J.ho J.hd J.hf ?_);dsimp only
   split
   ·refine on (wpAny_storeSet_of J.ho J.hd (X7 (hf f of i e j _ Z J ?_)) (fits_of_scanBound J.hb));exact J.hf
   ·exact X7 (h es .rfl)
def SI.setOf{h:Heap}{a:Addr}{o:Obj}{es:Array (Int × Value)}{b:Nat}{t:SetTable}(I:SI prog w h a o es b t):h.SetOf (intKind prog w) a (λk=>es.toList.any λe=>Value.isInt k e.2) es.size :=
 ⟨o,es,b,t,I.ho,I.hex,I.hd,I.hel,λk=>V1,I.hb,I.hf,rfl⟩
def SI.of{h:Heap}{a:Addr}{S:Int->Bool}{n:Nat}(hS:h.SetOf (intKind prog w) a S n):∃o es b t,SI prog w h a o es b t/\(∀k,S k=true ↔ ∃e∈es.toList,Value.isInt k e.2=true)/\es.size=n:=by
 obtain⟨o,es,b,t,ho,hex,hd,hel,d,hb,hf,c⟩:=hS;exact⟨o,es,b,t,⟨ho,hex,hd,hel,hb,hf⟩,d,c⟩
def SI.ty {a:Addr} {o:Obj} {es:Array (Int × Value)} {b:Nat} {t:SetTable} (I:SI prog w s.heap a o es b t):s.TypeIs (.ref a) "set":=⟨o,I.ho,I.hex.1⟩
def SI.put{h:Heap}{a:Addr}{o:Obj}{es es':Array (Int × Value)}{b:Nat}{t t':SetTable}(I:SI prog w h a o es b t)(hel:ElemsOf (intKind prog w) es'.toList)(hb:es'.size<scanBound)(hf:t'.fits es'.size=true) :
 SI prog w (h.update a (Obj.putSet es' t')) a { o with data:=.set es' (b+1) t' } es' (b+1) t' :=
 ⟨(SetOf_store (knd:=intKind prog w) (S':=λk=>es'.toList.any λe=>Value.isInt k e.2) I.ho I.hex I.hd hel (λk=>V1) hb hf).1,I.hex,rfl,hel,hb,hf⟩
def pN{a:Addr}{o:Obj}{es:Array (Int × Value)}{b:Nat}{t:SetTable}{Q:Nat->fy->Prop}(I:SI prog w s.heap a o es b t)(h:Q es.size s):wpAny (model prog w) A (Builtin.Frozenset.sizeOf a) Q E s:=by
 unfold Builtin.Frozenset.sizeOf;exact on (wpAny_setEntries_of I.ho I.hd I.hf (X7 h))
def pO {a:Addr} {Q:Bool->fy->Prop} (hT:s.TypeIs (.ref a) "set") (h:Q true s):wpAny (model prog w) A (Builtin.Frozenset.isAnySet (.ref a)) Q E s:=by
 unfold Builtin.Frozenset.isAnySet;unfold orM;exact on (wpAny_isInstance hT sub_set_self (X7 h))
def zL {a:Addr} {Q:Value->fy->Prop} (hT:s.TypeIs (.ref a) "set") (h:Q (.type "set") s):wpAny (model prog w) A (Builtin.Frozenset.baseOf a) Q E s:=by
 unfold Builtin.Frozenset.baseOf;exact on (wpAny_isInstance hT sub_set_self (X7 h))
def tq{id:String}{a:Addr}{o:Obj}{es:Array (Int × Value)}{b:Nat}{t:SetTable}{Q:Unit->fy->Prop}(I:SI prog w s.heap a o es b t)(h:Q () s):wpAny (model prog w) A (Builtin.Frozenset.unchanged id a b) Q E s:=by
 unfold Builtin.Frozenset.unchanged;refine on (wpAny_setEpoch_of I.ho I.hd I.hf ?_);rw[bne_self_eq_false];exact X7 h
def Ky(l:List (Int × Value))(k:Int):Prop:=∃e∈l,Value.isInt k e.2=true
def qN{l b:List (Int × Value)}(p:List.Perm l b)(k:Int):Ky l k ↔ Ky b k:=⟨λ⟨e,a,h⟩=>⟨e,p.mem_iff.mp a,h⟩,λ⟨e,a,h⟩=>⟨e,p.mem_iff.mpr a,h⟩⟩
def FR{id:String}{a b r:Addr}{L:Obj}{V:Array (Int × Value)}{i:Nat}{U:SetTable}{B:Int->Bool}{O:Nat}{l:List (Int × Value)}{Q:Unit->fy->Prop}
 (N:SI prog w s.heap a L V i U) (HB:s.heap.SetOf (intKind prog w) b B O) (HR:s.heap.SetOf (intKind prog w) r (λ_=>false) 0) (m:r≠a) (F:r≠b) (hw:ElemsOf (intKind prog w) l) (hz:l.length+1<scanBound)
 (h:∀h' S n,Heap.SameBut r s.heap h'->h'.SetOf (intKind prog w) r S n->(∀k,S k=true ↔ Ky l k/\B k=false)->Q () { s with heap:=h' }) :
 wpAny (model prog w) A (forIn l PUnit.unit λx _=>do
  holding [x.2] (do
   let d <- setFind b x.2 x.1
   let there <- pure d.isSome
   if (!there)=true then do
    let _ <- setAddHashed r x.2 x.1
    pure PUnit.unit
   else pure PUnit.unit)
  Builtin.Frozenset.unchanged id a i
  pure (ForInStep.yield PUnit.unit)) (λ_=>Q ()) E s:=by
 refine wpAny_forIn_list _ (λbQ b' J=>∃h' S n done,J = { s with heap:=h' }/\Heap.SameBut r s.heap h'/\h'.SetOf (intKind prog w) r S n/\done++bQ=l/\n<=done.length/\∀k,S k=true ↔ Ky done k/\B k=false) _ ?_ ?_ l _ ⟨s.heap,_,0,[],rfl,Wc _ _,HR,rfl,Va _,λk=>⟨λz=>Bool.noConfusion z,λ⟨⟨e,q,_⟩,_⟩=>nomatch q⟩⟩
 ·rintro x bQ u J ⟨h',S,n,done,rfl,sb,hR,j,R,C⟩;have hx:x∈l:=by rw[<- j];exact VA _ (Vz ..)
  have ll:=congrArg List.length j;rw[Vc,Vt]at ll;obtain⟨⟨k,g,W⟩,M⟩:=hw x hx;have v:∀c,c.get? a=h'.get? a->SI prog w c a L V i U:=λc e=>N.at (by rw[e,sb.2 a (Ne.symm m)];exact N.ho);have D:h'.SetOf (intKind prog w) b B O:=by
   obtain⟨o,es,Y,t,ho,z⟩:=HB;exact⟨o,es,Y,t,by rw[sb.2 b (Ne.symm F)];exact ho,z⟩
  have ks:∀f,Ky (done++[x]) f ↔ Ky done f\/f=k:=λf=>by
   constructor
   ·rintro⟨e,q,z⟩;rcases Vm.mp q with y|y
    ·exact .inl ⟨e,y,z⟩
    ·rw[Vp.mp y]at z;exact .inr (Value.isInt_inj _ _ _ z g)
   ·rintro (⟨e,q,z⟩|rfl)
    ·exact⟨e,VQ _ q,z⟩
    ·exact⟨x,VA _ (Vp.mpr Z),g⟩
  rw[W];refine on (wpAny_holding (on (wpAny_setFind_of (s:={ s with heap:=h' }) g M D λr' G=>on (X7 ?_))));rw[G];cases hSb:B k with
  | true =>
   simp only [Wp,VU,↓reduceIte];refine X7 (on (tq (s:={ s with heap:=h' }) (v h' rfl) (X7 ⟨h',S,n,done++[x],rfl,sb,hR,by rw[VF];exact j,by rw[Vc];exact Nat.le_succ_of_le R,λf=>?_⟩)));rw[C f,ks f];refine⟨λζ=>?_,λ⟨y,z⟩=>⟨y.resolve_right (λe=>by rw[e,hSb]at z;cases z),z⟩⟩;obtain⟨y,z⟩:=ζ;exact ⟨.inl y,z⟩
  | false =>
   simp only [Bool.not_false,↓reduceIte];refine on (wpAny_setAddHashed_of (s:={ s with heap:=h' }) g M hR (by omega) λc p I=>X7 (on (tq (s:={ s with heap:=c }) (v c (p.2 a (Ne.symm m))) (X7 ⟨c,_,_,done++[x],rfl,sb.trans p,I,by rw[VF];exact j,?_,λf=>?_⟩))))
   ·rw[Vc];show _<=_+1
    split<;>omega
   ·rw[W1,decide_eq_true_eq,C f,ks f];refine⟨λz=>z.elim (λy=>⟨.inl y.1,y.2⟩) (λe=>⟨.inr e,by rw[e];exact hSb⟩),λζ=>?_⟩;obtain⟨y,z⟩:=ζ;exact y.elim (λy=>.inl ⟨y,z⟩) .inr
 ·rintro u J ⟨h',S,n,done,rfl,sb,hR,j,R,C⟩;rw[VI]at j;exact h h' S n sb hR (by rw[<- j];exact C)
def Et:∀n,n<1001->(SetTable.sizeAbove n=8\/SetTable.sizeAbove n=16\/SetTable.sizeAbove n=32\/SetTable.sizeAbove n=64\/SetTable.sizeAbove n=128\/SetTable.sizeAbove n=256\/SetTable.sizeAbove n=512\/SetTable.sizeAbove n=1024)/\n<SetTable.sizeAbove n:=by decide +kernel
def Er{n:Nat}(h:n<1001):cK (SetTable.sizeAbove n-1+1)/\n<=SetTable.sizeAbove n-1/\SetTable.sizeAbove n<=1024:=by
 obtain⟨a,b⟩:=Et n h;refine⟨?_,by omega,by rcases a with a|a|a|a|a|a|a|a<;>rw[a]<;>decide⟩;rw[show SetTable.sizeAbove n-1+1=SetTable.sizeAbove n by omega];rcases a with a|a|a|a|a|a|a|a<;>rw[a]
 ·exact zN
 ·exact FY
 ·exact FW
 ·exact FU
 ·exact FZ
 ·exact FX
 ·exact FV
 ·exact Ga
def BV{es:Array (Int × Value)}{a:Array Nat}(p:List.Perm a.toList (List.range es.size)):List.Perm (a.filterMap λi=>es[i]?).toList es.toList:=by
 rw[Array.toList_filterMap];exact (p.filterMap _).trans (by rw[filterMap_getElem?_range])
def qj{es es':Array (Int × Value)}(p:List.Perm es'.toList es.toList):es'.size=es.size:=by rw[<- VE,p.length_eq,VE]
def rf{t:SetTable}{n:Nat}(b:t.place.size=n)(a:t.place.size+t.dummies.size<=t.mask):t.fits n=true:=by
 unfold SetTable.fits SetTable.fill;rw[VB,beq_iff_eq,decide_eq_true_eq];exact⟨b,a⟩
def re{t:SetTable}{n:Nat}(h:t.fits n=true):t.place.size=n/\t.place.size+t.dummies.size<=t.mask:=by
 unfold SetTable.fits SetTable.fill at h;rw[VB,beq_iff_eq,decide_eq_true_eq]at h;exact h
def zJ{es es':Array (Int × Value)}{t':SetTable}{Q:Array (Int × Value) × SetTable->fy->Prop}{x:Sem (Array (Int × Value) × SetTable)}(sz:es'.size=es.size)(h:Q (es',t') s) :
 wpAny (model prog w) A (if (es'.size != es.size)=true then x else pure (es',t')) Q E s:=by
 rw[sz,bne_self_eq_false,X8 Vn];exact X7 h
def zI{r:Addr}{o:Obj}{es:Array (Int × Value)}{m:Nat}{t:SetTable}{b:Nat}{Q:Unit->fy->Prop}(I:SI prog w s.heap r o es m t)(hw:b<1001)(q:es.size<=b\/es.size<=7)
 (h:∀o' es' c t' h',Heap.SameBut r s.heap h'->SI prog w h' r o' es' c t'->List.Perm es'.toList es.toList->t'.mask=SetTable.sizeAbove b-1->t'.dummies = #[]->Q () { s with heap:=h' }):wpAny (model prog w) A (setRelay r b) Q E s:=by
 obtain⟨n,ge,le⟩:=Er hw;have p:7<=SetTable.sizeAbove b-1:=by
  obtain⟨a,_⟩:=Et b hw;rcases a with a|a|a|a|a|a|a|a<;>rw[a]<;>decide
 unfold setRelay;refine on (wpAny_setState_of I.ho I.hd I.hf ?_);dsimp only;rw[X8 (by rw[sizeLine_eq];omega)];unfold SetTable.relaid;obtain⟨t',d,l,g,c,k,j⟩:=CC (mask:=SetTable.sizeAbove b-1) (finger:=t.finger) (moves:=t.movedTo (SetTable.sizeAbove b-1)) (led:=t.led) (plain:=t.plain) (hs:=es.map λe=>e.1) n (by rw[W4];omega);rw[W4]at c j;have f:=BV j;have sz:=qj f;rw[l];refine on ?_;exact zJ (es':=d.filterMap λi=>es[i]?) (t':=t') sz (wpAny_storeSet_of I.ho I.hd (h _ _ _ _ _ (WK s.heap r _) (I.put (I.hel.perm f) (by rw[sz];exact I.hb) (rf (by rw[c,sz]) (by rw[c,k,g];show _+0<=_;omega))) f g k) (fits_of_scanBound (by rw[sz];exact I.hb)))
def FM{a r:Addr}{N or:Obj}{f:Array (Int × Value)}{G p:Nat}{l u:SetTable}{Q:Unit->fy->Prop}(g:SI prog w s.heap a N f G l)(q:SI prog w s.heap r or #[] p u)(x:u.mask=7/\u.dummies = #[])(ne:r≠a)(ln:f.size<=250)
 (h:∀L es' b t' h',Heap.SameBut r s.heap h'->SI prog w h' r L es' b t'->List.Perm es'.toList f.toList->Q () { s with heap:=h' }):wpAny (model prog w) A (setMerge r a) Q E s:=by
 have D:u.place.size=0:=(re q.hf).1;unfold setMerge;have O:(r == a)=false:=by rw[beq_eq_false_iff_ne];exact ne
 rw[O];simp only [VU,↓reduceIte];refine on (wpAny_setState_of g.ho g.hd g.hf ?_);dsimp only;by_cases em:f.isEmpty=true
 ·rw[X9 em];have R:s = { s with heap:=s.heap }:=by cases s;rfl
  refine X7 ?_;rw[R];exact h or #[] p u s.heap (Wc _ _) q (by rw[Array.isEmpty_iff.mp em])
 ·rw[X8 em];unfold setRoomFor;refine on (on (wpAny_setState_of q.ho q.hd q.hf ?_));dsimp only;refine wpAny_mono (Q:=λ_ s1=>∃v o1 m B d,s1 = { s with heap:=v }/\Heap.SameBut r s.heap v/\SI prog w v r o1 m B d/\m = #[]/\d.dummies = #[]/\cK (d.mask+1)/\f.size<=d.mask) ?_ ?_ (λ_ _ z=>z)
  ·have U:u.roomFor f.size=if f.size*5>=21 then some (f.size*2) else none:=by
    unfold SetTable.roomFor SetTable.fill;rw[D,x.1,x.2];show (if (0+0+f.size)*5>=7*3 then some ((0+f.size)*2) else none)=_;rw[V0]
   rw[U];by_cases c:f.size*5>=21
   ·rw[X9 c];refine zI q (by omega) (.inr (Vq _)) λL es' b t' h' sb Y C k J=>?_;have S:es' = #[]:=by
     have:=qj C;exact Array.eq_empty_of_size_eq_zero this
    obtain⟨F,ge,_⟩:=Er (n:=f.size*2) (by omega);exact⟨h',L,es',b,t',rfl,sb,Y,S,J,by rw[k];exact F,by rw[k];omega⟩
   ·rw[X8 c];refine X7 ⟨s.heap,or,#[],p,u,rfl,Wc _ _,q,rfl,x.2,by rw[x.1];exact zN,by rw[x.1];omega⟩
  ·rintro _ s1 ⟨v,o1,m,B,d,rfl,y,j,rfl,J,F,le⟩;have W:d.place.size=0:=(re j.hf).1;refine on (wpAny_setState_of j.ho j.hd j.hf ?_);dsimp only;have rd:d.road l=if d.mask == l.mask && l.dummies.isEmpty then .slotForSlot else .clean:=by
    unfold SetTable.road SetTable.fill;rw[W,J]
    rfl
   rw[rd];have ft:=re g.hf;by_cases c:(d.mask == l.mask && l.dummies.isEmpty)=true
   ·rw[X9 c];dsimp only;exact wpAny_storeSet_of j.ho j.hd (h _ _ _ _ _ (y.trans (WK v r _)) (j.put g.hel g.hb (rf ft.1 ft.2)) .rfl) (fits_of_scanBound g.hb)
   ·rw[X8 c];dsimp only;obtain⟨t',o,V,k,b,I,C⟩:=CC (mask:=d.mask) (finger:=d.finger) (moves:=d.moves) (led:=d.led && l.led) (plain:=d.plain && l.plain) (hs:=f.map λe=>e.1) F (by rw[W4];omega);rw[W4]at b C;have M:=BV C;have sz:=qj M;rw[V];refine on ?_;exact zJ (es':=o.filterMap λi=>f[i]?) (t':=t') sz (wpAny_storeSet_of j.ho j.hd (h _ _ _ _ _ (y.trans (WK v r _)) (j.put (g.hel.perm M) (by rw[sz];exact g.hb) (rf (by rw[b,sz]) (by rw[b,I,k];show _+0<=_;omega))) M) (fits_of_scanBound (by rw[sz];exact g.hb)))
def FN{a:Addr}{o:Obj}{es:Array (Int × Value)}{f:Nat}{t:SetTable}{k:Int}{x:Value}{Q:Option Nat->fy->Prop}(b:Value.isInt k x=true)(c:x.scannable=true)(I:SI prog w s.heap a o es f t)
 (h:Q (es.toList.findIdx? λe=>Value.isInt k e.2) s):wpAny (model prog w) A (setFind a x ((intKind prog w).hash k)) Q E s:=by
 unfold setFind setFindIn;refine on (wpAny_setState_of I.ho I.hd I.hf ?_);dsimp only;rw[byScan_of c I.hb I.hel];simp only [↓reduceIte];refine on (wpAny_rule ?_);refine on (wpAny_setScan_of (knd:=intKind prog w) b I.ho I.hd I.hf I.hel ?_);have d:List.findIdx? (λe:Int × Value=>(intKind prog w).is k e.2) es.toList=List.findIdx? (λe=>Value.isInt k e.2) es.toList:=rfl;rw[d];cases hr:List.findIdx? (λe=>Value.isInt k e.2) es.toList with
 | none=>rw[hr]at h;exact X7 h
 | some j=>rw[hr]at h;dsimp only;rw[V0];exact X7 h
def Dk(l:List (Int × Value)):Prop:=l.Pairwise λe a=>∀k,Value.isInt k e.2=true->Value.isInt k a.2=true->False
def wO{l c:List (Int × Value)}(p:List.Perm l c)(h:Dk l):Dk c:=(p.pairwise_iff λ{x y} z k a b=>z k b a).mp h
def rm(es:Array (Int × Value))(i:Nat):(SetTable.eraseAt es i).toList=es.toList.eraseIdx i:=by
 unfold SetTable.eraseAt;rw[Array.toList_append,XZ,XZ,List.eraseIdx_eq_take_drop_succ];simp[List.extract_eq_take_drop,VW]
def QR{t:SetTable}{n i:Nat}(h:t.fits n=true)(c:i<n):(t.drop i).fits (n-1)=true:=by
 obtain⟨d,b⟩:=re h;have e:t.place[i]? = some t.place[i]:=XT (by omega);unfold SetTable.drop;rw[e];dsimp only;have s1:(SetTable.eraseAt t.place i).size=n-1:=by
  unfold SetTable.eraseAt;rw[Array.size_append,Xn,Xn];omega
 have a:(SetTable.insertAt t.dummies (SetTable.below t.dummies t.place[i]) t.place[i]).size=t.dummies.size+1:=by
  rw[<- VE,(SetTable.insertAt_perm ..).length_eq,VE,Array.size_push]
 exact rf s1 (by dsimp only;rw[s1,a];omega)
def FO{r:Addr}{o:Obj}{es:Array (Int × Value)}{n:Nat}{t:SetTable}{k:Int}{x:Value}{Q:Bool->fy->Prop}(f:Value.isInt k x=true)(j:x.scannable=true)(I:SI prog w s.heap r o es n t)(dk:Dk es.toList)
 (h:∀b o' es' ep' t' h',Heap.SameBut r s.heap h'->SI prog w h' r o' es' ep' t'->Dk es'.toList->es'.size<=es.size->(∀d,Ky es'.toList d ↔ Ky es.toList d/\d≠k)->Q b { s with heap:=h' }):wpAny (model prog w) A (setDiscardHashed r x ((intKind prog w).hash k)) Q E s:=by
 unfold setDiscardHashed;refine on (FN f j I ?_);cases hr:List.findIdx? (λe=>Value.isInt k e.2) es.toList with
 | none =>
  dsimp only;have q:s = { s with heap:=s.heap }:=by cases s;rfl
  refine X7 ?_;rw[q];refine h false o es n t s.heap (Wc _ _) I dk (Va _) λd=>⟨λz=>⟨z,λe=>?_⟩,λz=>z.1⟩;obtain⟨v,a,y⟩:=z;have:=List.findIdx?_eq_none_iff.mp hr v a;rw[e]at y;rw[y]at this;cases this
 | some i =>
  dsimp only;obtain⟨l,p,_⟩:=List.findIdx?_eq_some_iff_getElem.mp hr;have m:i<es.size:=by rw[<- VE];exact l
  refine on (wpAny_setState_of I.ho I.hd I.hf ?_);dsimp only;have g:=wM l;have c:=wO g.symm dk;have sz:(SetTable.eraseAt es i).size=es.size-1:=by rw[<- VE,rm,XX l,VE]
  have u:ElemsOf (intKind prog w) (SetTable.eraseAt es i).toList:=by
   rw[rm];exact λe a=>I.hel e (g.mem_iff.mp (Vx _ a))
  refine on (wpAny_storeSet_of I.ho I.hd ?_ (fits_of_scanBound (by have:=I.hb;omega)));refine on (wpAny_point (X7 (h true _ _ _ _ _ (WK s.heap r _) (I.put u (by have:=I.hb;omega) (by rw[sz];exact QR I.hf m)) ?_ (by omega) λd=>?_)))
  ·rw[rm];exact (List.pairwise_cons.mp c).2
  ·rw[rm]
   constructor
   ·rintro⟨e,a,z⟩;refine⟨⟨e,g.mem_iff.mp (Vx _ a),z⟩,λB=>?_⟩;rw[B]at z;exact (List.pairwise_cons.mp c).1 e a k p z
   ·rintro⟨⟨e,a,z⟩,nk⟩;rcases Vr.mp (g.mem_iff.mpr a) with y|y
    ·rw[y]at z;exact Ya (Value.isInt_inj _ _ _ z p) nk
    ·exact⟨e,y,z⟩
def FJ{r:Addr}{o:Obj}{es:Array (Int × Value)}{c:Nat}{t:SetTable}{Q:Unit->fy->Prop}(I:SI prog w s.heap r o es c t)(i:es.size<=250)
 (h:∀b es' a t' h',Heap.SameBut r s.heap h'->SI prog w h' r b es' a t'->List.Perm es'.toList es.toList->Q () { s with heap:=h' }):wpAny (model prog w) A (setTidy r) Q E s:=by
 unfold setTidy;refine on (wpAny_setState_of I.ho I.hd I.hf ?_);dsimp only
 split
 ·have g:SetTable.grown es.size=es.size*4:=by
   unfold SetTable.grown;rw[X8 (by omega)]
  rw[g];exact zI I (by omega) (.inl (by omega)) λb es' a t' h' sb f e _ _=>h b es' a t' h' sb f e
 ·have d:s = { s with heap:=s.heap }:=by cases s;rfl
  refine X7 ?_;rw[d];exact h o es c t s.heap (Wc _ _) I .rfl
def FQ{id:String}{b r:Addr}{ob or:Obj}{I g:Array (Int × Value)}{n F:Nat}{tb tr:SetTable}{Q:Unit->fy->Prop}(c:SI prog w s.heap b ob I n tb)(W:SI prog w s.heap r or g F tr)(dk:Dk g.toList)(ne:b≠r)(ln:g.size<=250)(lb:I.size<=g.size)
 (h:∀p es' a t' h',Heap.SameBut r s.heap h'->SI prog w h' r p es' a t'->(∀k,Ky es'.toList k ↔ Ky g.toList k/\¬Ky I.toList k)->Q () { s with heap:=h' }):wpAny (model prog w) A (Builtin.Frozenset.differenceUpdate id r (.ref b)) Q E s:=by
 unfold Builtin.Frozenset.differenceUpdate;have n1:((Value.ref b:Value) == .ref r)=false:=by
  rw[beq_eq_false_iff_ne];intro z;cases z;exact ne Z
 rw[n1];simp only [VU,↓reduceIte];refine on (pO c.ty ?_);simp only [↓reduceIte];unfold Builtin.Frozenset.addrOf;refine on (X7 ?_);refine on (pN c ?_);refine on (pN W ?_);rw[X8 (by omega)];refine on (wpAny_setEpoch_of c.ho c.hd c.hf ?_);refine on (wpAny_holding (on (zG (filled:=none) c (λx hx=>by rw[Vp.mp hx];exact⟨_,_,_,_,W⟩) (λf z=>nomatch z) (λG pm=>?_) (λf _ _ _ _ _ z=>nomatch z))));have L:ElemsOf (intKind prog w) G.toList:=c.hel.perm pm;refine on ?_;refine XY _ (λbQ _ Y=>∃h' p es' a t' done,Y = { s with heap:=h' }/\Heap.SameBut r s.heap h'/\SI prog w h' r p es' a t'/\Dk es'.toList/\es'.size<=g.size/\done++bQ=G.toList/\∀k,Ky es'.toList k ↔ Ky g.toList k/\¬Ky done k) _ ?_ ?_ G _ ⟨s.heap,or,g,F,tr,[],rfl,Wc _ _,W,dk,Va _,rfl,λk=>⟨λz=>⟨z,λ⟨e,B,_⟩=>nomatch B⟩,λz=>z.1⟩⟩
 ·rintro x bQ u Y ⟨h',p,es',a,t',done,rfl,sb,I',C,m,o,N⟩;have hx:x∈G.toList:=by rw[<- o];exact VA _ (Vz ..)
  obtain⟨⟨k,i,hh⟩,sc⟩:=L x hx;rw[hh];refine on (wpAny_holding (FO (s:={ s with heap:=h' }) i sc I' C λbb M l j R D d J a0 O S=>?_));have V:SI prog w D b ob I n tb:=c.at (by rw[d.2 b ne,sb.2 b ne];exact c.ho);refine on (tq (s:={ s with heap:=D }) V (X7 ⟨D,M,l,j,R,done++[x],rfl,sb.trans d,J,a0,Vs O m,by rw[VF];exact o,λk'=>?_⟩));rw[S k',N k']
  constructor
  ·rintro⟨⟨y,z⟩,nk⟩;refine⟨y,λζ=>?_⟩;obtain⟨e,B,v⟩:=ζ;rcases Vm.mp B with q|q
   ·exact z ⟨e,q,v⟩
   ·rw[Vp.mp q]at v;exact nk (Value.isInt_inj _ _ _ v i)
  ·rintro⟨y,z⟩
   refine⟨⟨y,λζ=>?_⟩,λek=>z ⟨x,VA _ (Vp.mpr rfl),by rw[ek];exact i⟩⟩;obtain⟨e,B,v⟩:=ζ;exact z ⟨e,VQ _ B,v⟩
 ·rintro u Y ⟨h',p,es',a,t',done,rfl,sb,I',C,m,o,N⟩;rw[VI]at o;refine X7 (FJ (s:={ s with heap:=h' }) I' (by omega) λM l j R D d J U=>h M l j R D (sb.trans d) J λk=>?_);rw[qN U k,N k,o,qN pm k]
def FP{id:String}{a b:Addr}{oa W:Obj}{q M:Array (Int × Value)}{y C:Nat}{ta tb:SetTable}{Q:Value->fy->Prop}(l:SI prog w s.heap a oa q y ta)(u:SI prog w s.heap b W M C tb)(dk:Dk q.toList)(la:q.size<=250)
 (h:∀S n h',s.heap.objs.size<h'.objs.size->(∀c o,s.heap.get? c=some o->h'.get? c=some o)->h'.SetOf (intKind prog w) s.heap.objs.size S n->(∀k,S k=true ↔ Ky q.toList k/\¬Ky M.toList k)->Q (.ref s.heap.objs.size) { s with heap:=h' }) :
 wpAny (model prog w) A (Builtin.Frozenset.difference id a (.ref b)) Q E s:=by
 have B:a<s.heap.objs.size:=Vb l.ho;have m:b<s.heap.objs.size:=Vb u.ho;unfold Builtin.Frozenset.difference;refine on (pO u.ty ?_);simp only [Wp,VU,↓reduceIte,Bool.false_and];unfold Builtin.Frozenset.addrOf;refine on (X7 ?_);refine on (pN u ?_);refine on (pN l ?_);have kp:∀(L:Obj) (h':Heap),Heap.SameBut s.heap.objs.size (s.heap.push L) h'->(s.heap.objs.size<h'.objs.size)/\∀c o,s.heap.get? c=some o->h'.get? c=some o:=λL h' sb=>by
  refine⟨by rw[sb.1];simp[Heap.push],λc o e=>?_⟩;have lt:c<s.heap.objs.size:=Vb e;rw[sb.2 c (Vi lt)];exact Vg _ e
 by_cases c:q.size/4 > M.size
 ·rw[X9 c];refine on (wpAny_rule ?_);unfold Builtin.Frozenset.copyOf Builtin.Frozenset.addrOf;refine on (on (zL l.ty ?_));refine on (wpAny_newSet_of (knd:=intKind prog w) λled hS=>?_);dsimp only;refine on (X7 ?_);have N:SI prog w (s.heap.push { cls:=.type "set",dict:=none,data:=.set #[] 0 (.fresh 0 0 led) }) s.heap.objs.size { cls:=.type "set",dict:=none,data:=.set #[] 0 (.fresh 0 0 led) } #[] 0 (.fresh 0 0 led):=⟨VH _ rfl,⟨rfl,rfl,rfl⟩,rfl,λe R=>(by simp at R),by decide,rfl⟩;refine on (FM (s:={ s with heap:=s.heap.push { cls:=.type "set",dict:=none,data:=.set #[] 0 (.fresh 0 0 led) } }) (l.at (Vg _ l.ho)) N ⟨rfl,rfl⟩ (V6 B) la λo1 a5 af t1 j F I1 r=>X7 ?_);dsimp only;refine on (X7 ?_);have sz:=qj r;have i:SI prog w j b W M C tb:=u.at (by rw[F.2 b (Vi m)];exact Vg _ u.ho);refine on (wpAny_holding (FQ (s:={ s with heap:=j }) i I1 (wO r.symm dk) (Vi m) (by omega) (by omega) λo2 ae ad t2 I v I2 O=>X7 ?_));obtain⟨k1,k2⟩:=kp _ I (F.trans v);exact h _ _ I k1 k2 I2.setOf λk=>by rw[V1];exact (O k).trans (by rw[qN r k])
 ·rw[X8 c];refine on (zL l.ty ?_);refine on (wpAny_newSet_of (knd:=intKind prog w) λled hS=>?_);dsimp only;refine on (X7 ?_);have N:SI prog w (s.heap.push { cls:=.type "set",dict:=none,data:=.set #[] 0 (.fresh 0 0 led) }) s.heap.objs.size { cls:=.type "set",dict:=none,data:=.set #[] 0 (.fresh 0 0 led) } #[] 0 (.fresh 0 0 led):=⟨VH _ rfl,⟨rfl,rfl,rfl⟩,rfl,λe R=>(by simp at R),by decide,rfl⟩;have g:=l.at (h':=s.heap.push { cls:=.type "set",dict:=none,data:=.set #[] 0 (.fresh 0 0 led) }) (Vg _ l.ho);have i:=u.at (h':=s.heap.push { cls:=.type "set",dict:=none,data:=.set #[] 0 (.fresh 0 0 led) }) (Vg _ u.ho);refine on (wpAny_setEpoch_of g.ho g.hd g.hf ?_);refine on (wpAny_holding (on ?_));have p:∀(G:Array (Int × Value)) (j:Heap),Heap.SameBut s.heap.objs.size (s.heap.push { cls:=.type "set",dict:=none,data:=.set #[] 0 (.fresh 0 0 led) }) j->j.SetOf (intKind prog w) s.heap.objs.size (λ_=>false) 0->List.Perm G.toList q.toList ->
   wpAny (model prog w) A (do
    forIn G PUnit.unit λx _=>do
     holding [x.2] (do
      let d <- setFind b x.2 x.1
      let there <- pure d.isSome
      if (!there)=true then do
       let _ <- setAddHashed s.heap.objs.size x.2 x.1
       pure PUnit.unit
      else pure PUnit.unit)
     Builtin.Frozenset.unchanged id a y
     pure (ForInStep.yield PUnit.unit)
    pure PUnit.unit) (λ_ s'=>wpAny (model prog w) A (pure (Value.ref s.heap.objs.size)) Q E s') E { s with heap:=j }:=λG j sb hR D=>by
   have U:SI prog w j a oa q y ta:=g.at (by rw[sb.2 a (Vi B)];exact g.ho);have Y:SI prog w j b W M C tb:=i.at (by rw[sb.2 b (Vi m)];exact i.ho);refine on ?_;rw[<- Array.forIn_toList];refine FR (s:={ s with heap:=j }) (Q:=λ_ s'=>wpAny (model prog w) A (pure PUnit.unit) _ E s') U Y.setOf hR (V6 B) (V6 m) (l.hel.perm D) (by rw[D.length_eq,VE];unfold scanBound;omega) λI S n v hS2 O=>X7 (X7 ?_);obtain⟨k1,k2⟩:=kp _ I (sb.trans v);refine h S n I k1 k2 hS2 λk=>?_;rw[O k,qN D k,<- W5,V1];exact Iff.rfl
  refine zG (filled:=some s.heap.objs.size) g (λx hx=>?_) (λf z=>by cases z;exact⟨_,_,_,_,N⟩) (λG D=>p G _ (Wc _ _) hS D) (λf o' ef V tf aa z J ht=>?_)
  ·rcases Vr.mp hx with rfl|hx
   ·exact⟨_,_,_,_,i⟩
   ·rw[Vp.mp hx];exact⟨_,_,_,_,N⟩
  ·cases z;obtain⟨rfl,rfl,rfl⟩:ef = #[]/\V=0/\o' = { cls:=.type "set",dict:=none,data:=.set #[] 0 (.fresh 0 0 led) }:=by
    have e:=J.ho;rw[N.ho]at e;cases e;have e2:=J.hd;cases e2;exact⟨rfl,rfl,rfl⟩
   refine p q _ (WK _ _ _) ?_ .rfl;have:=(J.put J.hel J.hb ht).setOf;exact this
def QL:entryFor table "set.__sub__" = some Builtin.«frozenset.__sub__» :=
 entryFor_alias (id' := "frozenset.__sub__") (by kernel_rfl) rfl (by decide +kernel) (by kernel_rfl)
def FK{a b:Addr}{p u:Obj}{e j:Array (Int × Value)}{f i:Nat}{v tb:SetTable}{Q:Value->fy->Prop}(d:SI prog w s.heap a p e f v)(g:SI prog w s.heap b u j i tb)(dk:Dk e.toList)(m:e.size<=250)
 (h:∀S n h',s.heap.objs.size<h'.objs.size->(∀c o,s.heap.get? c=some o->h'.get? c=some o)->h'.SetOf (intKind prog w) s.heap.objs.size S n->(∀k,S k=true ↔ Ky e.toList k/\¬Ky j.toList k)->Q (.ref s.heap.objs.size) { s with heap:=h' }) :
 wpAny (model prog w) A (binaryOp .Sub (.ref a) (.ref b)) Q E s:=by
 refine wpAny_binaryOp_same (T := "set") (id := "set.__sub__") d.ty g.ty F.fills_set_sub F.slot_set_sub ?_;refine wpAny_call_entry F.slot_set_sub d.ty QL ?_ (F.args_set_sub_2 _ _);unfold Builtin.«frozenset.__sub__»;show wpAny _ _ (do
  let (self,other) <- Builtin.Frozenset.slot1 "__sub__" ⟨[.ref a,.ref b],[]⟩
  let (l,r):=(self,other)
  if !(<- Builtin.Frozenset.isAnySet l <&&> Builtin.Frozenset.isAnySet r) then rule "frozenset.__sub__.declined"; return <- ret .notImplemented
  ret (<- Builtin.Frozenset.difference "frozenset.__sub__" (<- Builtin.Frozenset.addrOf l) r)) _ _ _
 unfold Builtin.Frozenset.slot1 slotArgs;simp only [List.isEmpty_nil,Wp,VU,↓reduceIte,bind_assoc,Vt,WW,V0,bne_self_eq_false];refine on (X7 ?_);dsimp only;refine on (X7 ?_);dsimp only;unfold andM;refine on (on (pO d.ty ?_));refine pO g.ty ?_;simp only [Wp,VU,↓reduceIte];unfold Builtin.Frozenset.addrOf;refine on (X7 ?_);refine on (FP d g dk m λS n h' k1 k2 hS q=>?_);exact X7 ⟨_,rfl,⟨(λz=>nomatch z),h S n h' k1 k2 hS q⟩⟩
theorem AV:∀ {ks:e7} {l:List (Int × Value)},ks.Nodup->(∀k∈ks,Ky l k)->l.length=ks.length->Dk l/\∀e∈l,∃k∈ks,Value.isInt k e.2=true
 | [],l,_,_,len=>by
  obtain rfl:=WJ len;exact⟨.nil,λe h=>nomatch h⟩
 | k::r,l,nd,cov,len=>by
  obtain⟨e,h,i⟩:=cov k (Vz ..);obtain⟨x,y,rfl⟩:=List.append_of_mem h;have g:List.Perm (x++e::y) (e::(x++y)):=List.perm_middle;obtain⟨m,j⟩:=Ww.mp nd;obtain⟨d,o⟩:=AV (ks:=r) (l:=x++y) j (λn c=>by
   obtain⟨f,a,z⟩:=cov n (Vx _ c);rcases Vr.mp (g.mem_iff.mp a) with q|q
   ·rw[q]at z;exact Ya (Value.isInt_inj _ _ _ z i ▸ c) m
   ·exact⟨f,q,z⟩) (by have:=g.length_eq;rw[len]at this;simp only [Vt]at this;omega)
  refine⟨wO g.symm (List.pairwise_cons.mpr ⟨λf a n z p=>?_,d⟩),λf a=>?_⟩
  ·obtain⟨k2,b,z2⟩:=o f a;have s:=Value.isInt_inj _ _ _ z i;have u:=Value.isInt_inj _ _ _ p z2;exact m (by rw[<- s,u];exact b)
  ·rcases Vr.mp (g.mem_iff.mp a) with q|q
   ·exact⟨k,Vz ..,by rw[q];exact i⟩
   ·obtain⟨k2,b,z2⟩:=o f q;exact⟨k2,Vx _ b,z2⟩
theorem vj(val:Nat->Int):∀i,(firstMet val i).Nodup
 | 0=>.nil
 | i+1=>by
  rw[firstMet_succ];unfold step_dedup
  split
  ·exact vj val i
  ·rename_i h;refine List.nodup_append.mpr ⟨vj val i,List.pairwise_singleton ..,λa c b hb e=>h ?_⟩;rw[Vp.mp hb]at e;exact V1.mpr ⟨a,c,by rw[e];exact beq_self_eq_true _⟩
def Jz(ns:e7):(List.range ns.length).map (λi=>ns.getD i 0)=ns:=by
 refine List.ext_getElem (by simp) λi b a=>?_;simp[WL];rw[VG a]
 rfl
def zH{l:Addr}{items:Array Value}{ns:e7}{Q:Value->fy->Prop}(p:A.handled=none)(n:s.heap.IsList l items)(f:IntsAre items.toList ns)(hb:ns.length<=250)
 (h:∀h' d o es c t,SI prog w h' s.heap.objs.size o es c t->Dk es.toList->es.size<=ns.length->(∀k,Ky es.toList k ↔ k∈ns)->(∀b u,s.heap.get? b=some u->h'.get? b=some u)->Q (.ref s.heap.objs.size) { s with heap:=h',toks:=d }) :
 wpAny (model prog w) A (call (.type "set") [.ref l]) Q E s:=by
 have j:items.size=ns.length:=by rw[<- VE];exact IntsAre.length f
 refine PySem.call_set_list p n f (by rw[j];unfold scanBound;omega) λh' d hS kp=>?_;obtain⟨o,es,c,t,I,g,m⟩:=SI.of hS;have mem:∀k,(firstMet (λi=>ns.getD i 0) items.size).any (· == k)=true ↔ k∈ns:=λk=>by
  rw[firstMet_any,j,Jz,V1];refine⟨λζ=>?_,λa=>⟨k,a,beq_self_eq_true _⟩⟩;obtain⟨x,hx,e⟩:=ζ;exact (beq_iff_eq.mp e) ▸ hx
 have len:=firstMet_length_le (λi=>ns.getD i 0) items.size;refine h h' d o es c t I (AV (vj _ items.size) (λk a=>(g k).mp (V1.mpr ⟨k,a,beq_self_eq_true _⟩)) (by rw[VE,m])).1 (by rw[m];omega) (λk=>(g k).symm.trans (mem k)) λb u e=>kp b u (Vb e) e
end
section
variable {X:Cx}{pins:List (Addr × Obj)}{σ:St}{H:Hp}{s:fy}
def af.addPin(I:af X pins σ H s){a:Addr}{o:Obj}(ho:s.heap.get? a=some o)(hH:H a=none)(d:a≠X.env.locals)(hf:a∉X.fs)(c:∀v,o.data ≠ .cell v):af X ((a,o)::pins) σ H s:=by
 refine⟨I.ok,I.os,I.bare,I.base,I.loc,I.cell,I.free,I.freeC,λp b=>?_,I.hok,I.len⟩;rcases Vm.mp b with z|z
 ·exact I.pin p (VQ _ z)
 ·rcases Vr.mp z with rfl|z
  ·exact⟨ho,hH,d,hf,c⟩
  ·exact I.pin p (VA _ z)
def af.dropPin{q:Addr × Obj}(I:af X (q::pins) σ H s):af X pins σ H s:=by
 refine⟨I.ok,I.os,I.bare,I.base,I.loc,I.cell,I.free,I.freeC,λp a=>I.pin p ?_,I.hok,I.len⟩;rcases Vm.mp a with z|z
 ·exact VQ _ z
 ·exact VA _ (Vx _ z)
theorem uB:∀ {ns:e7} {us:List Value},aJ (ns.map V.int) us->IntsAre us ns
 | [],us,h=>by cases h;exact .nil
 | n::ns,us,h=>by
  cases h with
  | cons a b =>
   obtain⟨t,rfl⟩:=a;exact .cons n t (uB b)
def Af(K:W.Frag)(c tb:TE):TE:=λσ H Q=>c σ H λx b=>∃(p:Addr) (ns:e7),x=.ref p/\aH K b p (ns.map V.int)/\ns.length<=250/\tb σ b λy a=>∃(q:Addr) (ms:e7),y=.ref q/\aH K a q (ms.map V.int)/\ms.length<=250/\∀n:Nat,(0<n ↔ ∃k∈ns,k∉ms)->Q (.int (n:Int)) a
def K3 {g xs:Str} {pl p1 p2 pos B i o:Pos} {ea U:Expr} {ta tb:TE} (hc:X.calm=true) (hmL:X.mg g=none) (hvL:bootBuiltins g=some (.builtin "len")) (hmS:X.mg xs=none) (hvS:bootBuiltins xs=some (.type "set")) (ha:PE X ea ta) (hb:PE X U tb)
 (hgL:Gl X g:=by rfl) (hgS:Gl X xs:=by rfl) (hxL:g ≠ "__name__":=by decide) (hxS:xs ≠ "__name__":=by decide) (hdL:(g == ("__debug__" : Str))=false:=by decide) (hdS:(xs == ("__debug__" : Str))=false:=by decide) (sa:dg ea=false:=by rfl) (sb:dg U=false:=by rfl) :
 PE X (.Call (.Name g pl) [.BinOp (.Call (.Name xs p1) [ea] [] B) .Sub (.Call (.Name xs p2) [U] [] i) o] [] pos) (Af X.K ta tb):=by
 intro l s σ H Q I h;refine wpAny_Call_Name_kw (ia I hgL hmL hvL ?_ hxL hdL);refine XF ?_ (cv Z) Z;rw[cv rfl];refine Calls.spliced_cons ?_;refine wpAny_BinOp ?_;refine wpAny_Call_Name_kw (ia I hgS hmS hvS ?_ hxS hdS);refine V7 ?_ (cv sa) Z;rw[cv sa];refine Calls.spliced_cons (aB (ha l s σ H _ I h) λv s1 ζ=>?_);obtain⟨x,H1,f,r1,W⟩:=ζ;obtain⟨p,ns,rfl,hp,lp,W⟩:=W;cases r1;refine Calls.spliced_nil ?_;obtain⟨al,rv,R,_⟩:=f.list hp;refine zH (f.ok.hd hc) R.isList (by simpa using uB rv) lp λh1 M oA eA epA tA G dkA lA kA F=>?_;have a0:H1 s1.heap.objs.size=none:=f.hok.fresh (Va _);have I2:=(f.kept (h':=h1) (t':=M) F).addPin G.ho a0 (V6 f.lt) (f.nofs (Va _)) (λv z=>by rw[G.hd]at z;cases z);refine wpAny_Call_Name_kw (ia I2 hgS hmS hvS ?_ hxS hdS);refine V7 ?_ (cv sb) Z;rw[cv sb];refine Calls.spliced_cons (aB (hb _ _ σ H1 _ I2 W) λv s3 ζ=>?_);obtain⟨y,H2,D,r3,N⟩:=ζ;obtain⟨q,ms,rfl,hq,lq,N⟩:=N;cases r3;refine Calls.spliced_nil ?_;obtain⟨aa,V,J,_⟩:=D.list hq;refine zH (D.ok.hd hc) J.isList (by simpa using uB V) lq λh4 c oB eB epB tB IB dkB lB kB r=>?_;have L:SI X.prog X.w h4 s1.heap.objs.size oA eA epA tA:=G.at (r _ _ (D.pin _ (VA _ (Vz ..))).1);refine FK (s:={ s3 with heap:=h4,toks:=c }) L IB dkA (by omega) λS n h5 au Y hS hk=>?_;refine Calls.spliced_nil ?_;obtain⟨o6,a,av,t6,d,j,ai⟩:=SI.of hS;refine call_len_set (s:={ s3 with heap:=h5,toks:=c }) d.ho d.hex d.hd d.hf (by have:=d.hb;unfold scanBound at this;omega) ?_;refine⟨.int (a.size:Int),H2,(D.dropPin.kept (h':=h5) (t':=c+1+1) λb u e=>Y b u (r b u e)),⟨_,Z⟩,N a.size ?_⟩
 constructor
 ·intro m;have C:a.toList[0]'(by rw[VE];exact m)∈a.toList:=Xo _;obtain⟨⟨k,O,_⟩,_⟩:=d.hel _ C;obtain⟨a1,a2⟩:=(hk k).mp ((j k).mpr ⟨_,C,O⟩);exact⟨k,(kA k).mp a1,λz=>a2 ((kB k).mpr z)⟩
 ·rintro⟨k,k1,k2⟩;obtain⟨e,C,_⟩:=(j k).mp ((hk k).mpr ⟨(kA k).mpr k1,λz=>k2 ((kB k).mp z)⟩);rw[<- VE];exact List.length_pos_of_mem C
def JR {K:W.Frag} {a xs:Str} {pl j i pos c d b:Pos} {f e:Expr} {g tb:TE} (hK:X.K=K) (k:X.calm=true) (hmL:X.mg a=none) (hvL:bootBuiltins a=some (.builtin "len")) (hmS:X.mg xs=none) (hvS:bootBuiltins xs=some (.type "set")) (l:QE X f g) (hb:QE X e tb)
 (hgL:Gl X a:=by rfl) (hgS:Gl X xs:=by rfl) (hxL:a ≠ "__name__":=by decide) (hxS:xs ≠ "__name__":=by decide) (hdL:(a == ("__debug__" : Str))=false:=by decide) (hdS:(xs == ("__debug__" : Str))=false:=by decide) (sa:dg f=false:=by rfl) (sb:dg e=false:=by rfl) :
 QE X (.Call (.Name a pl) [.BinOp (.Call (.Name xs j) [f] [] c) .Sub (.Call (.Name xs i) [e] [] d) b] [] pos) (Af K g tb):=by
 subst hK;exact⟨K3 k hmL hvL hmS hvS l.h hb.h hgL hgS hxL hxS hdL hdS sa sb⟩
end
def Bv{X:Cx}{i j:Nat}{x y:Str}{a b:Expr}{f:TA}{d e pt pos:Pos}{kt k2 pt2}(m:X.calm=true)(hN:X.N.Nodup)(k:X.N[i]? = some x)(g:X.N[j]? = some y)(c:i≠j)
 (hx:X.env.scope.names.lookup x=some .local) (l:X.env.scope.names.lookup y=some .local) (n:QA X [a,b] f)
 (hw:swappedStores [.Tuple [.Name x d,.Name y e] kt pt] (.Tuple [a,b] k2 pt2) X.env=pure (some [x,y]))
 (hs:swapsWithSole [.Tuple [.Name x d,.Name y e] kt pt] (.Tuple [a,b] k2 pt2) pos.line X.env=pure false:=by rfl) :
 QS X (.Assign [.Tuple [.Name x d,.Name y e] kt pt] (.Tuple [a,b] k2 pt2) pos) (Ai i j f):=⟨Ko m hN k g c hx l n.h hw hs⟩
open PySem.AutoSeq1 (wpAny_loadPart')
open PySem.MeetsSeq
def NR(n:Int)(ns:e7):bG (.int n) (ns.map V.int)=decide (n∈ns):=by
 induction ns with
 | nil=>rfl
 | cons m ns ih =>
  unfold bG at *;rw[VM,Wh,ih];simp only [dh,Vr];by_cases e:m=n
  ·simp[e]
  ·have:¬n=m:=λz=>e z.symm;simp[e,this]
section
variable {X:Cx}{o e:Expr}{apos cpos:Pos}{td ty:TE}
def BD (d:X.A.units+64<cLine) (ho:QE X o td) (a:QE X e ty) (hb:attributeBase o "get" X.env (eval o X.env)=eval o X.env:=by rfl)
 (hf:((backTo cpos (starEach [e] X.env)).all (λx=>!x.1) && (backToKw cpos (keywordEach [] X.env)).all (λx=>x.1.isSome)
   && decide (([e]:List Expr).length+([]:List Keyword).length+(if ([]:List Keyword).isEmpty then 0 else 1)<30))=true:=by rfl)
 (c:(apos.endLine == cpos.line)=true:=by rfl) (b:backTo cpos (starEach [e] X.env)=[(false,eval e X.env)]:=by rfl) :
 QE X (.Call (.Attribute o "get" apos) [e] [] cpos) (Av td ty):=⟨Ld (by omega) ho.h a.h ⟨hb,hf,c,b⟩⟩
end
section
variable {X:Cx}{K:W.Frag}
def TL(H:Hp)(y:V):Prop:=fZ y=true\/∃a zs,y=.ref a/\H a=some (.lst zs)
end
def strOf? : Value->Option Str
 | .str x _=>some x
 | _=>none
def refOf? : Value->Option Addr
 | .ref a=>some a
 | _=>none
def strOf?.eq{v:Value}{x:Str}(h:strOf? v=some x):∃t,v=.str x t:=by
 cases v<;>first|(cases h;exact⟨_,Z⟩)|cases h
def refOf?.eq{v:Value}{a:Addr}(h:refOf? v=some a):v=.ref a:=by
 cases v<;>first|(cases h;rfl)|cases h
def jl:List DictEntry->Option (List (Int × Str × Addr))
 | []=>some []
 | e::r=>(strOf? e.key).bind λx=>(refOf? e.val).bind λa=>(jl r).map λl=>(e.hash,x,a)::l
theorem jl.pairs{P:Program}{w:World}:∀ {es:List DictEntry} {m:List (Int × Str × Addr)},jl es=some m->(∀p∈m,p.1=hashStr w p.2.1) ->
 (∀e∈es,∃k,(cD P w).is k e.key=true/\e.hash=(cD P w).hash k)/\Pairs (cD P w) es (m.map λp=>((Sum.inr p.2.1:aV),Value.ref p.2.2))
 | [],m,h,_=>by cases h;exact⟨λ_ z=>(nomatch z),.nil⟩
 | e::r,m,h,hs=>by
  unfold jl at h;obtain⟨x,hx,h⟩:=WF.mp h;obtain⟨a,q,h⟩:=WF.mp h;obtain⟨l,f,h⟩:=Wr.mp h;subst h;obtain⟨j,g⟩:=strOf?.eq hx;obtain⟨d,n⟩:=jl.pairs (P:=P) (w:=w) f λp o=>hs p (Vx _ o);have c:(cD P w).is (.inr x) e.key=true:=by rw[g];exact Ce P w x j
  refine⟨λi b=>?_,.cons c (refOf?.eq q) n⟩;rcases Vr.mp b with rfl|b
  ·exact⟨.inr x,c,hs _ Vz⟩
  ·exact d i b
structure pK (K:W.Frag) (w:World) (a:Addr) (m:List (Int × Str × Addr)):Prop where
 ex:∃es ep,K.lookup a=some ⟨.type "dict",none,.dict es ep,#[]⟩/\jl es.toList=some m
 hs:∀p∈m,p.1=hashStr w p.2.1
 nd:(m.map (·.2.1)).Nodup
 ns:(a == sysModules)=false
def pK.rd{K:W.Frag}{a:Addr}{m:List (Int × Str × Addr)}{P:Program}{w:World}{h:Heap}(D:pK K w a m)(X:K.In h):h.DictOf (cD P w) a (m.map λp=>((Sum.inr p.2.1:aV),Value.ref p.2.2)):=by
 obtain⟨es,f,l,e⟩:=D.ex;obtain⟨g,d⟩:=jl.pairs (P:=P) (w:=w) e D.hs;refine⟨_,es,f,X _ _ l,⟨rfl,rfl,rfl⟩,rfl,λe c=>g e (XQ.mpr c),d,?_⟩;rw[Wo];have:(((λx=>x.1) ∘ λp:Int × Str × Addr=>((Sum.inr p.2.1:aV),Value.ref p.2.2)):Int × Str × Addr->aV)=(λi:Str=>(Sum.inr i:aV)) ∘ (·.2.1):=rfl;rw[this,<- Wo];exact List.Pairwise.map _ (λa b (z:a≠b) (q:(Sum.inr a:aV)=Sum.inr b)=>z (Sum.inr.inj q)) D.nd
def iA(m:List (Int × Str × Addr))(z:Str):Option Addr:=(m.find? λp=>decide (p.2.1=z)).map (·.2.2)
theorem uO:∀(m:List (Int × Str × Addr)) (z:Str),valueAt (m.map λp=>((Sum.inr p.2.1:aV),Value.ref p.2.2)) (Sum.inr z)=(iA m z).map Value.ref
 | [],z=>rfl
 | p::m,z=>by
  have ih:=uO m z;unfold iA valueAt at ih ⊢;rw[VM,VS,VS];by_cases c:p.2.1=z
  ·have c':(Sum.inr p.2.1:aV)=Sum.inr z:=congrArg _ c;simp only [Yc c,Yc c',Wi]
  ·have c':¬(Sum.inr p.2.1:aV)=Sum.inr z:=λq=>c (Sum.inr.inj q);simp only [Yd c,Yd c'];exact ih
def Ql(a:Addr)(m:List (Int × Str × Addr))(neg:Bool):R2:=λx y H Q=>∃z,x=.str z/\y=.ref a/\Q (.bl (if neg then !(iA m z).isSome else (iA m z).isSome)) H
section
variable {X:Cx}{K:W.Frag}{w:World}{a:Addr}{m:List (Int × Str × Addr)}
def PQ(h:X.K=K)(hw:X.w=w)(D:pK K w a m):be X (compareOp .NotIn) (Ql a m true):=by
 subst h hw;intro b s σ H x y v u Q I d c q;obtain⟨z,rfl,rfl,q⟩:=q;obtain rfl:u=Value.ref a:=c;refine wpAny_notIn_of (jf (k:=.inr z) d) D.ns (D.rd (P:=X.prog) (w:=X.w) I.kIn).mapOf ?_;rw[uO,WY];exact⟨.bl _,H,I.tok _,Z,q⟩
def J3{i:Expr}{e:TE}{x:Str}{p pos:Pos}(h:X.K=K)(hw:X.w=w)(D:pK K w a m)(o:Gl X x)(r:X.mg x=some (.ref a))(n:QE X i e)(hs:EA i:=by intro _ _;rfl)(hd:(x == ("__debug__" : Str))=false:=by decide) :
 QE X (.Subscript (.Name x p) i pos) (λσ H Q=>e σ H λy d=>∃z b,y=.str z/\iA m z=some b/\Q (.ref b) d):=⟨by
 subst h hw;intro c s σ H Q I h;have ho:PE X (.Name x p) (tC (.ref a)):=(fS (v:=.ref a) o r rfl hd).h;refine G0 PySem.F.slot_dict_getitem.lookup hs (aB (ho c s σ H (λv M=>v=.ref a/\e σ M λy d=>∃z b,y=.str z/\iA m z=some b/\Q (.ref b) d) I ⟨rfl,h⟩) λu s1 ⟨x,d,L,C,ex,B⟩=>aB (n.h c s1 σ d _ L B) λN O ⟨y,l,f,q,z,b,G,g,J⟩=>?_);subst ex G;obtain rfl:u=Value.ref a:=C;have j:=D.rd (P:=X.prog) (w:=X.w) f.kIn;exact⟨j.typeIs,wpAny_getItem_of (jf (k:=.inr z) q) j.mapOf (by rw[uO,g];rfl) ⟨.ref b,l,f.tok _,rfl,J⟩⟩⟩
end
structure UY (P:Program) (w:World) (K:W.Frag) (mg:Str->Option Value) (base:Heap) (x:Str) (k:Nat) (f:Addr) (fd:FuncData) (ps:List Str) (dvs:List V) (sp:Sp):Prop where
 g:mg x=some (.ref f)
 kp:W.keepIn K (.ref f)=true
 b:∃ds,ax K fd ps ds/\aJ dvs ds
 ok:bN P w K mg base cn k f fd ps sp
def io:List Value->Option (List Addr)
 | []=>some []
 | .ref m::u=>(match io u with|some l=>some (m::l)|none=>none)
 | _=>none
theorem io.vals:∀ {us:List Value} {ns:List Addr},io us=some ns->aJ (ns.map V.ref) us
 | [],ns,h=>by cases h;exact .nil
 | .ref m::u,ns,h=>by
  unfold io at h;cases q:io u with
  | none=>rw[q]at h;cases h
  | some l=>rw[q]at h;cases h;exact .cons Z (io.vals q)
def zY {K:W.Frag} {a:Addr} {od:Option Addr} {b:Array Value} {n:Nat} {c:Array (Option Value)} {ns:List Addr} (h:K.lookup a=some ⟨.type "tuple",od,.seq b n,c⟩) (d:io b.toList=some ns) (hz:b.size<=1000:=by decide) (H:Hp):bw K H a (ns.map V.ref) :=
 .inr ⟨_,b,n,h,rfl,rfl,sz (XM hz),io.vals d⟩
end L2
namespace L2
open PySem
def Rh{lo c:Int}{n:Nat}{cs:St}{k:TT}{q:TE}{H:Hp}{Q:VK}(f:Nat->List V->Hp->Prop)(u:f 0 [] H)(v:∀i ys H,i<=n->f i ys H->ys.length<=i)(hz:n<=sizeLine)
 (hs:∀i ys H (N:List V->Hp->Prop),i<n->f i ys H->(∀a d,f (i+1) a d->N a d)->k (some (.int (lo+i*c))::cs) H λb o=>if b=true then q (some (.int (lo+i*c))::cs) o λy B=>N (ys++[y]) B else N ys o)
 (hd:∀ys H p d,f n ys H->bz H p (.lst ys) d->Q (.ref p) d) :
 jv (j1 lo c n) H (List.replicate 1 none++cs) (bU 0) k q Q:=by
 refine⟨λi m ys σ H=>m=n-i/\i<=n/\f i ys H/\∃h,σ=h::cs,⟨n,by simp,Vq _,u,none,rfl⟩,?_⟩;rintro i m ys σ l ⟨rfl,s,p,h,rfl⟩;have C:=v i ys l s p;by_cases hlt:i<n
 ·refine .inr ⟨hlt,by omega,λa r d=>f (i+1) a d/\∃h,r=h::cs,λa r d ⟨j,e⟩=>⟨n-(i+1),by omega,rfl,hlt,j,e⟩,λx d y=>?_⟩;obtain⟨e,y⟩:=y;subst e y;exact hs i ys d (λa d=>f (i+1) a d/\∃h,some (V.int (lo+i*c))::cs=h::cs) hlt p λ_ _ z=>⟨z,_,Z⟩
 ·have e:i=n:=by omega
  subst e;exact .inl ⟨Va _,by omega,λj d g=>hd ys l j d p g⟩
def Rg{lo c:Int}{n:Nat}{cs:St}{h:TE}{H:Hp}{Q:VK}(d:List V)(k:d.length=n)(hz:n<=sizeLine)
 (hs:∀(i:Nat) y a (N:VK),i<n->d[i]? = some y->aj H a->(∀b,aj a b->N y b)->h (some (.int (lo+i*c))::cs) a N) (hd:∀p a,bz H p (.lst d) a->Q (.ref p) a) :
 jv (j1 lo c n) H (List.replicate 1 none++cs) (bU 0) gW h Q:=by
 refine Rh (λi ys a=>aj H a/\ys=d.take i) ⟨aj.refl _,rfl⟩ (λi ys a f z=>by rw[z.2,Vk];omega) hz (λi ys a N f z hN=>?_) λys a p b z g=>?_
 ·obtain⟨s,rfl⟩:=z;have e:i<d.length:=by omega
  have j:d[i]? = some d[i]:=VG e;simp only [gW,if_true];exact hs i _ a _ f j s λb l=>hN _ _ ⟨s.trans l,by rw[fh j]⟩
 ·obtain⟨s,rfl⟩:=z;rw[<- k,Vw]at g;exact hd p b (g.after s)
def Qn(K:W.Frag)(neg:Bool):R2:=λx y H Q=>∃xs d,bA K H (.list xs) y/\bA K H d x/\PyData.canLayAll0 xs=true/\d.canLay0=true/\min (PyData.depthAll xs) d.depth<=60/\Q (.bl (if neg then !xs.any (λy=>PyData.eqv y d) else xs.any (λy=>PyData.eqv y d))) H
section
variable {X:Cx}{K:W.Frag}
def P8(h:X.K=K)(m:X.A.units+64<cLine):be X (compareOp .In) (Qn K false):=by
 subst h;intro a s σ H x y v u Q I i e q;obtain⟨xs,d,k,f,g,c,l,q⟩:=q;obtain⟨as,b⟩:=k X a σ s _ rfl I e;obtain⟨bs,j⟩:=f X a σ s _ rfl I i;exact SeqAt.in_list_reads b j g c (by omega) ⟨.bl _,H,I,rfl,q⟩
end
end L2
namespace My
open PySem L2
def U0{X:Cx}(K:W.Frag)(h:X.K=K:=by rfl):=bo (X:=X) (K:=K) h
def U1{X:Cx}(K:W.Frag)(h:X.K=K:=by rfl):=jm (X:=X) (K:=K) h
def U2{X:Cx}(K:W.Frag)(h:X.K=K:=by rfl):=bv (X:=X) (K:=K) h
def U3{X:Cx}(K:W.Frag)(h:X.K=K:=by rfl):=az (X:=X) (K:=K) h
def U4{X:Cx}(K:W.Frag)(h:X.K=K:=by rfl):=gl (X:=X) (K:=K) h
def U5{X:Cx}(K:W.Frag)(h:X.K=K:=by rfl):=gw (X:=X) (K:=K) h
def top(i:Nat):Stmt:=PySem.Challenge.pw_bytetongue_k63_first_fault.main.body.getD i (.Pass ⟨0,0,0,0⟩)
abbrev me:Stmt:=bX (top 2) 0
abbrev lX:Stmt:=bX (top 2) 1
abbrev mf:Stmt:=bX (top 2) 2
abbrev lV:Stmt:=bX (top 2) 3
abbrev mi:Stmt:=bX (top 2) 4
abbrev lY:Stmt:=bX (top 2) 5
abbrev mh:Stmt:=bX (top 2) 7
abbrev mj:Stmt:=bX (top 2) 8
abbrev lW:Stmt:=bX (top 2) 9
abbrev ma:Stmt:=bX (top 2) 10
abbrev l7:Stmt:=bX (top 2) 11
abbrev l8:Stmt:=bX (top 2) 12
abbrev lZ:Stmt:=bX (top 2) 13
abbrev mx:Stmt:=bX (top 11) 0
abbrev lC:Stmt:=top 13
abbrev kP:Stmt:=top 14
abbrev kZ:Stmt:=top 24
abbrev lh:Stmt:=top 25
abbrev lf:Stmt:=top 26
abbrev kW:Stmt:=top 27
abbrev kY:Stmt:=top 28
abbrev kX:Stmt:=top 29
abbrev jI:Stmt:=top 30
abbrev lH:Stmt:=bX (top 32) 1
abbrev lG:Stmt:=bX (top 32) 4
abbrev lJ:Stmt:=bX (top 32) 5
abbrev lI:Stmt:=bX (top 32) 6
abbrev kU:Stmt:=top 39
abbrev lD:Stmt:=top 40
abbrev lj:Stmt:=top 41
abbrev kT:Stmt:=top 42
abbrev jJ:Stmt:=top 43
abbrev mw:Stmt:=bX (top 44) 2
abbrev jL:Stmt:=bX (top 44) 3
abbrev kQ:Stmt:=top 49
abbrev mq:Stmt:=bX (top 50) 0
abbrev mm:Stmt:=bX (top 50) 1
abbrev mn:Stmt:=bX (top 50) 3
abbrev jK:Stmt:=bX (top 50) 5
abbrev ml:Stmt:=bX (top 50) 7
abbrev mv:Stmt:=bX (top 50) 8
abbrev kR:Stmt:=top 52
abbrev lF:Stmt:=top 54
abbrev kS:Stmt:=top 58
abbrev lT:Stmt:=bX (top 59) 0
abbrev lR:Stmt:=bX (top 59) 1
abbrev lQ:Stmt:=bX (top 59) 7
abbrev lP:Stmt:=bX (top 59) 8
abbrev lU:Stmt:=bX (top 59) 9
abbrev lg:Stmt:=top 63
abbrev lm:Stmt:=top 64
abbrev ls:Stmt:=top 65
abbrev lM:Stmt:=bX (top 66) 0
abbrev lO:Stmt:=bX (top 66) 1
abbrev lK:Stmt:=bX (top 66) 5
abbrev lN:Stmt:=bX (top 66) 6
abbrev kL:Stmt:=top 68
abbrev kI:Stmt:=top 69
abbrev kF:Stmt:=top 70
abbrev kJ:Stmt:=top 71
abbrev kN:Stmt:=top 72
abbrev i8:Stmt:=top 73
abbrev jF:Stmt:=top 74
abbrev kE:Stmt:=top 75
abbrev jE:Stmt:=top 76
abbrev kl:Stmt:=top 77
abbrev kG:Stmt:=top 78
abbrev kz:Stmt:=top 79
abbrev km:Stmt:=top 80
abbrev iJ:Stmt:=top 81
abbrev kx:Stmt:=top 82
abbrev kH:Stmt:=top 83
abbrev kD:Stmt:=top 84
abbrev jG:Stmt:=top 85
abbrev ko:Stmt:=top 86
abbrev kO:Stmt:=top 87
abbrev ky:Stmt:=top 88
abbrev kK:Stmt:=top 89
abbrev kM:Stmt:=top 90
abbrev kr:Stmt:=top 91
abbrev ku:Stmt:=top 92
abbrev jH:Stmt:=top 93
def Ji:aL ["self", "tongue", "place"] ["self", "tongue", "place"] (am me):=by constructor<;>first|rfl|decide +kernel
def Je:aL ["self"] ["self"] (am lX):=by constructor<;>first|rfl|decide +kernel
def Jj:aL ["self"] ["self"] (am mf):=by constructor<;>first|rfl|decide +kernel
def Jc:aL ["self"] ["self"] (am lV):=by constructor<;>first|rfl|decide +kernel
def Jk:aL ["self"] ["self"] (am mi):=by constructor<;>first|rfl|decide +kernel
def Jf:aL ["self"] ["self"] (am lY):=by constructor<;>first|rfl|decide +kernel
def tS:aL ["self", "row", "signs", "byte"] ["self", "row"] (am mh):=by constructor<;>first|rfl|decide +kernel
def Be:aL ["self", "signs"] ["self"] (am mj):=by constructor<;>first|rfl|decide +kernel
def Jd:aL ["self", "byte"] ["self", "byte"] (am lW):=by constructor<;>first|rfl|decide +kernel
def Bd:aL ["self", "found"] ["self"] (am ma):=by constructor<;>first|rfl|decide +kernel
def Bc:aL ["self", "ahead_of_last"] ["self"] (am l7):=by constructor<;>first|rfl|decide +kernel
def Jh:aL ["self", "length", "kind"] ["self", "length", "kind"] (am l8):=by constructor<;>first|rfl|decide +kernel
def Jg:aL ["self", "length", "kind"] ["self", "length", "kind"] (am lZ):=by constructor<;>first|rfl|decide +kernel
def Jq:aL ["self", "place", "length", "kind"] ["self", "place", "length", "kind"] (am mx):=by constructor<;>first|rfl|decide +kernel
def IS:aL ["number", "bits"] ["number", "bits"] (am lC):=by constructor<;>first|rfl|decide +kernel
def pY:aL ["parts", "bits", "number", "part"] ["parts", "bits"] (am kP):=by constructor<;>first|rfl|decide +kernel
def IM:aL ["thing"] ["thing"] (am kZ):=by constructor<;>first|rfl|decide +kernel
def IP:aL ["thing"] ["thing"] (am lh):=by constructor<;>first|rfl|decide +kernel
def IN:aL ["number"] ["number"] (am lf):=by constructor<;>first|rfl|decide +kernel
def II:aL ["number"] ["number"] (am kW):=by constructor<;>first|rfl|decide +kernel
def IK:aL ["thing"] ["thing"] (am kY):=by constructor<;>first|rfl|decide +kernel
def IJ:aL ["thing"] ["thing"] (am kX):=by constructor<;>first|rfl|decide +kernel
def IL:aL ["thing"] ["thing"] (am jI):=by constructor<;>first|rfl|decide +kernel
def IY:aL ["self"] ["self"] (am lH):=by constructor<;>first|rfl|decide +kernel
def IW:aL ["self", "row", "page"] ["self", "row", "page"] (am lG):=by constructor<;>first|rfl|decide +kernel
def IZ:aL ["self", "row", "page"] ["self", "row", "page"] (am lJ):=by constructor<;>first|rfl|decide +kernel
def A7:aL ["self", "begun", "page", "found"] ["self", "begun", "page"] (am lI):=by constructor<;>first|rfl|decide +kernel
def IH:aL ["first"] ["first"] (am kU):=by constructor<;>first|rfl|decide +kernel
def IU:aL ["row", "place"] ["row", "place"] (am lD):=by constructor<;>first|rfl|decide +kernel
def tP:aL ["row", "place", "bounds"] ["row"] (am lj):=by constructor<;>first|rfl|decide +kernel
def A6:aL ["row", "lack"] ["row"] (am kT):=by constructor<;>first|rfl|decide +kernel
def IT:aL ["row"] ["row"] (am jJ):=by constructor<;>first|rfl|decide +kernel
def Jp:aL ["self", "row", "page"] ["self", "row", "page"] (am mw):=by constructor<;>first|rfl|decide +kernel
def Bh:aL ["self", "row", "page", "lack"] ["self", "row", "page"] (am jL):=by constructor<;>first|rfl|decide +kernel
def IG:aL ["units"] ["units"] (am kQ):=by constructor<;>first|rfl|decide +kernel
def Jo:aL ["self", "order"] ["self", "order"] (am mq):=by constructor<;>first|rfl|decide +kernel
def Jm:aL ["self"] ["self"] (am mm):=by constructor<;>first|rfl|decide +kernel
def Jn:aL ["self", "pair"] ["self", "pair"] (am mn):=by constructor<;>first|rfl|decide +kernel
def Jl:aL ["self", "row"] ["self", "row"] (am jK):=by constructor<;>first|rfl|decide +kernel
def Bf:aL ["self", "row", "page", "sign"] ["self", "row", "page"] (am ml):=by constructor<;>first|rfl|decide +kernel
def Bg:aL ["self", "row", "page", "rest"] ["self", "row", "page"] (am mv):=by constructor<;>first|rfl|decide +kernel
def pZ:aL ["tongue", "row", "reader", "text", "fault"] ["tongue", "row"] (am kR):=by constructor<;>first|rfl|decide +kernel
def IV:aL ["one", "other"] ["one", "other"] (am lF):=by constructor<;>first|rfl|decide +kernel
def qa:aL ["signs", "which", "places", "place", "sign"] ["signs", "which"] (am kS):=by constructor<;>first|rfl|decide +kernel
def Ja:aL ["self", "first", "second"] ["self", "first", "second"] (am lT):=by constructor<;>first|rfl|decide +kernel
def tR:aL ["self", "page", "place", "sign"] ["self", "page"] (am lR):=by constructor<;>first|rfl|decide +kernel
def I0:aL ["self", "byte", "page"] ["self", "byte", "page"] (am lQ):=by constructor<;>first|rfl|decide +kernel
def tQ:aL ["self", "row", "page", "sign"] ["self", "row", "page"] (am lP):=by constructor<;>first|rfl|decide +kernel
def Jb:aL ["self", "row", "page"] ["self", "row", "page"] (am lU):=by constructor<;>first|rfl|decide +kernel
def IO:aL ["thing"] ["thing"] (am lg):=by constructor<;>first|rfl|decide +kernel
def IQ:aL ["one", "other"] ["one", "other"] (am lm):=by constructor<;>first|rfl|decide +kernel
def nG:aL ["rows", "other", "entry", "one", "earlier"] ["rows"] (am ls):=by constructor<;>first|rfl|decide +kernel
def A9:aL ["self", "rows", "entry"] ["self", "rows"] (am lM):=by constructor<;>first|rfl|decide +kernel
def Bb:aL ["self", "sign", "row", "size"] ["self", "sign", "row"] (am lO):=by constructor<;>first|rfl|decide +kernel
def A8:aL ["self", "row", "page", "sign"] ["self", "row", "page"] (am lK):=by constructor<;>first|rfl|decide +kernel
def Ba:aL ["self", "row", "page", "rest"] ["self", "row", "page"] (am lN):=by constructor<;>first|rfl|decide +kernel
def IE:aL ["_law_script", "_law_at"] ["_law_script", "_law_at"] (am kL):=by constructor<;>first|rfl|decide +kernel
def ID:aL ["_law_found"] ["_law_found"] (am kI):=by constructor<;>first|rfl|decide +kernel
def AY:aL ["_law_number", "_law_k"] ["_law_number", "_law_k"] (am kF):=by constructor<;>first|rfl|decide +kernel
def pW:aL ["_law_number", "_law_sign"] ["_law_number"] (am kJ):=by constructor<;>first|rfl|decide +kernel
def AZ:aL ["_law_number", "_law_edges"] ["_law_number"] (am kN):=by constructor<;>first|rfl|decide +kernel
def ki:aL ["_law_number", "_law_sizes", "_law_base", "_law_first", "_law_second"] ["_law_number"] (am i8):=by constructor<;>first|rfl|decide +kernel
def i6:aL ["_law_number", "_law_signs", "_law_rows", "_law_k", "_law_far", "_law_row_here"] ["_law_number"] (am jF):=by constructor<;>first|rfl|decide +kernel
def kh:aL ["_law_cell", "_law_number", "_law_first", "_law_second", "_law_signs", "_law_rows"] ["_law_cell"] (am kE):=by constructor<;>first|rfl|decide +kernel
def pU:aL ["_law_model_here", "_law_word", "_law_first", "_law_second"] ["_law_model_here"] (am jE):=by constructor<;>first|rfl|decide +kernel
def Iz:aL ["_law_model_here"] ["_law_model_here"] (am kl):=by constructor<;>first|rfl|decide +kernel
def IC:aL ["_law_sign"] ["_law_sign"] (am kG):=by constructor<;>first|rfl|decide +kernel
def jD:aL ["_law_sign", "_law_word", "_law_units", "_law_row_here", "_law_number"] ["_law_sign", "_law_word"] (am kz):=by constructor<;>first|rfl|decide +kernel
def pV:aL ["_law_model_here", "_law_sign", "_law_page", "_law_word", "_law_first", "_law_second"] ["_law_model_here", "_law_sign", "_law_page"] (am km):=by constructor<;>first|rfl|decide +kernel
def kg:aL ["_law_model_here", "_law_cells", "_law_word", "_law_first", "_law_second", "_law_some"] ["_law_model_here", "_law_cells"] (am iJ):=by constructor<;>first|rfl|decide +kernel
def jC:aL ["_law_row_here", "_law_cell", "_law_pieces_here", "_law_at", "_law_number", "_law_size"] ["_law_row_here", "_law_cell"] (am kx):=by constructor<;>first|rfl|decide +kernel
def im:aL ["_law_kept", "_law_first", "_law_low", "_law_high", "_law_byte", "_law_size"] ["_law_kept"] (am kH):=by constructor<;>first|rfl|decide +kernel
def nE:aL ["_law_kept", "_law_word", "_law_units", "_law_k", "_law_one", "_law_other"] ["_law_kept", "_law_word"] (am kD):=by constructor<;>first|rfl|decide +kernel
def kj:aL ["_law_model_here", "_law_kept", "_law_page", "_law_word", "_law_first", "_law_second", "_law_here", "_law_there"] ["_law_model_here", "_law_kept", "_law_page"] (am jG):=by constructor<;>first|rfl|decide +kernel
def fO:aL ["_law_model_here", "_law_cells", "_law_edges", "_law_text_here", "_law_row_here", "_law_page", "_law_k", "_law_cell", "_law_way", "_law_part", "_law_after_here"] ["_law_model_here", "_law_cells"] (am ko):=by constructor<;>first|rfl|decide +kernel
def IF:aL ["_law_model_here", "_law_part", "_law_page"] ["_law_model_here", "_law_part", "_law_page"] (am kO):=by constructor<;>first|rfl|decide +kernel
def gh:aL ["_law_model_here", "_law_row_here", "_law_unit_here", "_law_parts_here", "_law_kept", "_law_page", "_law_byte", "_law_word"] ["_law_model_here", "_law_row_here"] (am ky):=by constructor<;>first|rfl|decide +kernel
def fP:aL ["_law_model_here", "_law_row_here", "_law_at", "_law_ends", "_law_word", "_law_part", "_law_page", "_law_unit_here", "_law_held", "_law_end", "_law_here"] ["_law_model_here", "_law_row_here"] (am kK):=by constructor<;>first|rfl|decide +kernel
def pX:aL ["_law_found", "_law_model_here", "_law_ends", "_law_sign", "_law_place", "_law_told"] ["_law_found", "_law_model_here", "_law_ends"] (am kM):=by constructor<;>first|rfl|decide +kernel
def jB:aL ["_law_tongue_here", "_law_row_here", "_law_told", "_law_kinds", "e"] ["_law_tongue_here", "_law_row_here"] (am kr):=by constructor<;>first|rfl|decide +kernel
def AX:aL ["_law_tongue_here", "_law_model_here", "_law_row_here", "_law_due_here", "_law_told"] ["_law_tongue_here", "_law_model_here", "_law_row_here", "_law_due_here"] (am ku):=by constructor<;>first|rfl|decide +kernel
def fo:aL ["_law_script", "_law_model_here", "_law_row_here", "_law_tongue_here", "_law_due_here", "_law_place", "_law_reader", "_law_at", "_law_piece", "_law_found", "_law_fault"] ["_law_script"] (am jH):=by constructor<;>first|rfl|decide +kernel
set_option genInjectivity false in
structure Adr where
 ph:Addr
 mR:FuncData
 ud_Reader_init_0:Tok
 y6:Addr
 wx:FuncData
 zc:Addr
 wE:FuncData
 yZ:Addr
 wv:FuncData
 ze:Addr
 wG:FuncData
 y7:Addr
 wy:FuncData
 zd:Addr
 wF:FuncData
 zf:Addr
 wH:FuncData
 y4:Addr
 ww:FuncData
 zb:Addr
 wD:FuncData
 y9:Addr
 wB:FuncData
 za:Addr
 wC:FuncData
 y8:Addr
 wA:FuncData
 sO:Addr
 wL:FuncData
 yQ:Addr
 wm:FuncData
 yy:Addr
 vQ:FuncData
 yJ:Addr
 wb:FuncData
 yM:Addr
 wf:FuncData
 yK:Addr
 wc:FuncData
 yF:Addr
 vX:FuncData
 yH:Addr
 vZ:FuncData
 yG:Addr
 vY:FuncData
 yI:Addr
 wa:FuncData
 iB:Addr
 jS:FuncData
 yU:Addr
 rh:FuncData
 ud_Tongue_whole_0:Tok
 yV:Addr
 ri:FuncData
 ud_Tongue_fill_0:Tok
 gO:Addr
 iV:FuncData
 ud_Tongue_look_0:Tok
 yD:Addr
 vW:FuncData
 yS:Addr
 wp:FuncData
 yN:Addr
 wg:FuncData
 yC:Addr
 vV:FuncData
 yR:Addr
 wn:FuncData
 sL:Addr
 oJ:FuncData
 ud_LeadTongue_whole_0:Tok
 sM:Addr
 oK:FuncData
 ud_LeadTongue_fill_0:Tok
 yz:Addr
 vS:FuncData
 sJ:Addr
 oH:FuncData
 ud_PairTongue_init_0:Tok
 zi:Addr
 wJ:FuncData
 zj:Addr
 wK:FuncData
 zg:Addr
 wI:FuncData
 sI:Addr
 oG:FuncData
 ud_PairTongue_whole_0:Tok
 sK:Addr
 oI:FuncData
 ud_PairTongue_fill_0:Tok
 yA:Addr
 vT:FuncData
 yT:Addr
 wq:FuncData
 yB:Addr
 vU:FuncData
 sG:Addr
 rk:FuncData
 yY:Addr
 wu:FuncData
 yX:Addr
 wt:FuncData
 sF:Addr
 oE:FuncData
 ud_ShiftTongue_whole_0:Tok
 sH:Addr
 oF:FuncData
 ud_ShiftTongue_fill_0:Tok
 yL:Addr
 we:FuncData
 yO:Addr
 wj:FuncData
 yP:Addr
 wl:FuncData
 sD:Addr
 rj:FuncData
 yW:Addr
 wr:FuncData
 sC:Addr
 oz:FuncData
 ud_TableTongue_whole_0:Tok
 sE:Addr
 oC:FuncData
 ud_TableTongue_fill_0:Tok
 yq:Addr
 vL:FuncData
 yn:Addr
 vH:FuncData
 yj:Addr
 vD:FuncData
 yo:Addr
 vJ:FuncData
 yu:Addr
 vO:FuncData
 yk:Addr
 vE:FuncData
 x9:Addr
 vp:FuncData
 yi:Addr
 vC:FuncData
 x6:Addr
 vm:FuncData
 x5:Addr
 vk:FuncData
 yl:Addr
 vF:FuncData
 yg:Addr
 vA:FuncData
 ya:Addr
 vq:FuncData
 x8:Addr
 vo:FuncData
 ye:Addr
 vy:FuncData
 ym:Addr
 vG:FuncData
 yh:Addr
 vB:FuncData
 yt:Addr
 vN:FuncData
 yb:Addr
 vt:FuncData
 yw:Addr
 vP:FuncData
 yf:Addr
 vz:FuncData
 yp:Addr
 vK:FuncData
 yr:Addr
 vM:FuncData
 yc:Addr
 vw:FuncData
 yd:Addr
 vx:FuncData
 yE:Addr
 rg:FuncData
 bH:Addr
 f6:Addr
 f9:Addr
 di:Addr
 cr:Addr
 cB:Addr
 rC:Addr
 rB:Addr
 rA:Addr
 dD:Addr
 rq:Addr
 rp:Addr
 jU:Addr
 ro:Addr
 GD:Tok
 GC:Tok
 zm:Addr
 h_FILLS_0:Int
 a_FILLS_0:Addr
 a_FILLS_0_0:Addr
 a_FILLS_0_1:Addr
 a_FILLS_0_2:Addr
 a_FILLS_0_3:Addr
 a_FILLS_0_4:Addr
 h_FILLS_1:Int
 a_FILLS_1:Addr
 a_FILLS_1_0:Addr
 a_FILLS_1_1:Addr
 a_FILLS_1_2:Addr
 a_FILLS_1_3:Addr
 a_FILLS_1_4:Addr
 GB:Tok
 GA:Tok
 Gz:Tok
 Gy:Tok
 Gx:Tok
 Gw:Tok
 Gv:Tok
 Gu:Tok
 Gs:Tok
 Gr:Tok
 Gq:Tok
 sN:Addr
 Gp:Tok
 Go:Tok
 Gn:Tok
 Eu:Addr
 a_SECONDS_0:Addr
 a_SECONDS_1:Addr
 a_SECONDS_2:Addr
 a_SECONDS_3:Addr
 a_SECONDS_4:Addr
 o9:Addr
structure Txt (w:World) (K:PySem.W.Frag) (mg:Str->Option Value) (t:Adr):Prop where
 Ue:dW K "__init__" "Reader.__init__" me t.ph t.mR [.int 0 t.ud_Reader_init_0]
 R3:ax K t.mR ["self", "tongue", "place"] [.int 0 t.ud_Reader_init_0]
 Ti:ax K t.mR ["self", "tongue", "place"] []
 T8:aT K "page" "Reader.page" lX t.y6 t.wx
 Tb:ax K t.wx ["self"] []
 Uf:aT K "held" "Reader.held" mf t.zc t.wE
 Tj:ax K t.wE ["self"] []
 T6:aT K "taken" "Reader.taken" lV t.yZ t.wv
 S9:ax K t.wv ["self"] []
 Uh:aT K "faults" "Reader.faults" mi t.ze t.wG
 Tl:ax K t.wG ["self"] []
 T9:aT K "over" "Reader.over" lY t.y7 t.wy
 Tc:ax K t.wy ["self"] []
 Ug:aT K "feed" "Reader.feed" mh t.zd t.wF
 Tk:ax K t.wF ["self", "row"] []
 Ui:aT K "end" "Reader.end" mj t.zf t.wH
 Tm:ax K t.wH ["self"] []
 T7:aT K "take" "Reader.take" lW t.y4 t.ww
 Ta:ax K t.ww ["self", "byte"] []
 Ud:aT K "look_at_begun" "Reader.look_at_begun" ma t.zb t.wD
 Th:ax K t.wD ["self"] []
 Ub:aT K "meet_none" "Reader.meet_none" l7 t.y9 t.wB
 Te:ax K t.wB ["self"] []
 Uc:aT K "meet" "Reader.meet" l8 t.za t.wC
 Tf:ax K t.wC ["self", "length", "kind"] []
 Ua:aT K "note" "Reader.note" lZ t.y8 t.wA
 Td:ax K t.wA ["self", "length", "kind"] []
 Us:aT K "__init__" "Faulty.__init__" mx t.sO t.wL
 Tw:ax K t.wL ["self", "place", "length", "kind"] []
 Fs:aT K "check_room" "check_room" lC t.yQ t.wm
 ST:ax K t.wm ["number", "bits"] []
 Qe:mg "check_room" = some (.ref t.yQ)
 Fa:aT K "together" "together" kP t.yy t.vQ
 Sy:ax K t.vQ ["parts", "bits"] []
 PD:mg "together" = some (.ref t.yy)
 Fk:aT K "is_number" "is_number" kZ t.yJ t.wb
 SL:ax K t.wb ["thing"] []
 P4:mg "is_number" = some (.ref t.yJ)
 Fn:aT K "is_byte" "is_byte" lh t.yM t.wf
 SO:ax K t.wf ["thing"] []
 P7:mg "is_byte" = some (.ref t.yM)
 Fl:aT K "is_head" "is_head" lf t.yK t.wc
 SM:ax K t.wc ["number"] []
 P5:mg "is_head" = some (.ref t.yK)
 Fg:aT K "is_tail" "is_tail" kW t.yF t.vX
 SG:ax K t.vX ["number"] []
 P0:mg "is_tail" = some (.ref t.yF)
 Fi:aT K "is_seen_byte" "is_seen_byte" kY t.yH t.vZ
 SJ:ax K t.vZ ["thing"] []
 P2:mg "is_seen_byte" = some (.ref t.yH)
 Fh:aT K "is_sign" "is_sign" kX t.yG t.vY
 SH:ax K t.vY ["thing"] []
 P1:mg "is_sign" = some (.ref t.yG)
 Fj:aT K "is_row" "is_row" jI t.yI t.wa
 SK:ax K t.wa ["thing"] []
 P3:mg "is_row" = some (.ref t.yI)
 TQ:aT K "unit" "Tongue.unit" lH t.iB t.jS
 sy:ax K t.jS ["self"] []
 TM:dW K "whole" "Tongue.whole" lG t.yU t.rh [.int 0 t.ud_Tongue_whole_0]
 UF:ax K t.rh ["self", "row", "page"] [.int 0 t.ud_Tongue_whole_0]
 SX:ax K t.rh ["self", "row", "page"] []
 TU:dW K "fill" "Tongue.fill" lJ t.yV t.ri [.int 0 t.ud_Tongue_fill_0]
 UH:ax K t.ri ["self", "row", "page"] [.int 0 t.ud_Tongue_fill_0]
 SY:ax K t.ri ["self", "row", "page"] []
 TR:dW K "look" "Tongue.look" lI t.gO t.iV [.int 0 t.ud_Tongue_look_0]
 UG:ax K t.iV ["self", "begun", "page"] [.int 0 t.ud_Tongue_look_0]
 oY:ax K t.iV ["self", "begun", "page"] []
 Ff:aT K "length_behind" "length_behind" kU t.yD t.vW
 SD:ax K t.vW ["first"] []
 PY:mg "length_behind" = some (.ref t.yD)
 Fv:aT K "bounds_behind" "bounds_behind" lD t.yS t.wp
 SV:ax K t.wp ["row", "place"] []
 Qg:mg "bounds_behind" = some (.ref t.yS)
 Fo:aT K "fits_behind" "fits_behind" lj t.yN t.wg
 SQ:ax K t.wg ["row"] []
 Qa:mg "fits_behind" = some (.ref t.yN)
 Fe:aT K "missing" "missing" kT t.yC t.vV
 SC:ax K t.vV ["row"] []
 PX:mg "missing" = some (.ref t.yC)
 Fu:aT K "carried" "carried" jJ t.yR t.wn
 SU:ax K t.wn ["row"] []
 Qf:mg "carried" = some (.ref t.yR)
 Uq:dW K "whole" "LeadTongue.whole" mw t.sL t.oJ [.int 0 t.ud_LeadTongue_whole_0]
 UP:ax K t.oJ ["self", "row", "page"] [.int 0 t.ud_LeadTongue_whole_0]
 Tu:ax K t.oJ ["self", "row", "page"] []
 Ur:dW K "fill" "LeadTongue.fill" jL t.sM t.oK [.int 0 t.ud_LeadTongue_fill_0]
 UQ:ax K t.oK ["self", "row", "page"] [.int 0 t.ud_LeadTongue_fill_0]
 Tv:ax K t.oK ["self", "row", "page"] []
 Fb:aT K "sign_of" "sign_of" kQ t.yz t.vS
 Sz:ax K t.vS ["units"] []
 PJ:mg "sign_of" = some (.ref t.yz)
 Uo:dW K "__init__" "PairTongue.__init__" mq t.sJ t.oH [.str "high" t.ud_PairTongue_init_0]
 UN:ax K t.oH ["self", "order"] [.str "high" t.ud_PairTongue_init_0]
 Tr:ax K t.oH ["self", "order"] []
 Ul:aT K "unit" "PairTongue.unit" mm t.zi t.wJ
 Tp:ax K t.wJ ["self"] []
 Um:aT K "turned" "PairTongue.turned" mn t.zj t.wK
 Tq:ax K t.wK ["self", "pair"] []
 Uk:aT K "units_in" "PairTongue.units_in" jK t.zg t.wI
 To:ax K t.wI ["self", "row"] []
 Uj:dW K "whole" "PairTongue.whole" ml t.sI t.oG [.int 0 t.ud_PairTongue_whole_0]
 UM:ax K t.oG ["self", "row", "page"] [.int 0 t.ud_PairTongue_whole_0]
 Tn:ax K t.oG ["self", "row", "page"] []
 Up:dW K "fill" "PairTongue.fill" mv t.sK t.oI [.int 0 t.ud_PairTongue_fill_0]
 UO:ax K t.oI ["self", "row", "page"] [.int 0 t.ud_PairTongue_fill_0]
 Ts:ax K t.oI ["self", "row", "page"] []
 Fc:aT K "read" "read" kR t.yA t.vT
 SA:ax K t.vT ["tongue", "row"] []
 PM:mg "read" = some (.ref t.yA)
 Fw:aT K "begins" "begins" lF t.yT t.wq
 SW:ax K t.wq ["one", "other"] []
 Qh:mg "begins" = some (.ref t.yT)
 Fd:aT K "places_in" "places_in" kS t.yB t.vU
 SB:ax K t.vU ["signs", "which"] []
 PP:mg "places_in" = some (.ref t.yB)
 T4:aT K "__init__" "ShiftTongue.__init__" lT t.sG t.rk
 S7:ax K t.rk ["self", "first", "second"] []
 T2:aT K "row_beyond" "ShiftTongue.row_beyond" lR t.yY t.wu
 S6:ax K t.wu ["self", "page"] []
 T0:aT K "sign_of" "ShiftTongue.sign_of" lQ t.yX t.wt
 S5:ax K t.wt ["self", "byte", "page"] []
 TZ:dW K "whole" "ShiftTongue.whole" lP t.sF t.oE [.int 0 t.ud_ShiftTongue_whole_0]
 UK:ax K t.oE ["self", "row", "page"] [.int 0 t.ud_ShiftTongue_whole_0]
 S4:ax K t.oE ["self", "row", "page"] []
 T5:dW K "fill" "ShiftTongue.fill" lU t.sH t.oF [.int 0 t.ud_ShiftTongue_fill_0]
 UL:ax K t.oF ["self", "row", "page"] [.int 0 t.ud_ShiftTongue_fill_0]
 S8:ax K t.oF ["self", "row", "page"] []
 Fm:aT K "is_entry" "is_entry" lg t.yL t.we
 SN:ax K t.we ["thing"] []
 P6:mg "is_entry" = some (.ref t.yL)
 Fq:aT K "collide" "collide" lm t.yO t.wj
 SR:ax K t.wj ["one", "other"] []
 Qc:mg "collide" = some (.ref t.yO)
 Fr:aT K "check_table" "check_table" ls t.yP t.wl
 SS:ax K t.wl ["rows"] []
 Qd:mg "check_table" = some (.ref t.yP)
 TW:aT K "__init__" "TableTongue.__init__" lM t.sD t.rj
 S0:ax K t.rj ["self", "rows"] []
 TY:aT K "enter" "TableTongue.enter" lO t.yW t.wr
 S3:ax K t.wr ["self", "sign", "row"] []
 TV:dW K "whole" "TableTongue.whole" lK t.sC t.oz [.int 0 t.ud_TableTongue_whole_0]
 UI:ax K t.oz ["self", "row", "page"] [.int 0 t.ud_TableTongue_whole_0]
 SZ:ax K t.oz ["self", "row", "page"] []
 TX:dW K "fill" "TableTongue.fill" lN t.sE t.oC [.int 0 t.ud_TableTongue_fill_0]
 UJ:ax K t.oC ["self", "row", "page"] [.int 0 t.ud_TableTongue_fill_0]
 S1:ax K t.oC ["self", "row", "page"] []
 E5:aT K "_law_drawn" "_law_drawn" kL t.yq t.vL
 Ss:ax K t.vL ["_law_script", "_law_at"] []
 Px:mg "_law_drawn" = some (.ref t.yq)
 EY:aT K "_law_is_number" "_law_is_number" kI t.yn t.vH
 So:ax K t.vH ["_law_found"] []
 Pt:mg "_law_is_number" = some (.ref t.yn)
 EU:aT K "_law_mixed" "_law_mixed" kF t.yj t.vD
 Sj:ax K t.vD ["_law_number", "_law_k"] []
 Pp:mg "_law_mixed" = some (.ref t.yj)
 EZ:aT K "_law_gapped" "_law_gapped" kJ t.yo t.vJ
 Sq:ax K t.vJ ["_law_number"] []
 Pu:mg "_law_gapped" = some (.ref t.yo)
 E8:aT K "_law_as_sign" "_law_as_sign" kN t.yu t.vO
 Sw:ax K t.vO ["_law_number"] []
 PB:mg "_law_as_sign" = some (.ref t.yu)
 EV:aT K "_law_lists" "_law_lists" i8 t.yk t.vE
 Sk:ax K t.vE ["_law_number"] []
 Pq:mg "_law_lists" = some (.ref t.yk)
 EI:aT K "_law_table" "_law_table" jF t.x9 t.vp
 R7:ax K t.vp ["_law_number"] []
 Pc:mg "_law_table" = some (.ref t.x9)
 ET:aT K "_law_model" "_law_model" kE t.yi t.vC
 Si:ax K t.vC ["_law_cell"] []
 Pn:mg "_law_model" = some (.ref t.yi)
 EG:aT K "_law_tongue" "_law_tongue" jE t.x6 t.vm
 R5:ax K t.vm ["_law_model_here"] []
 Pa:mg "_law_tongue" = some (.ref t.x6)
 EF:aT K "_law_unit" "_law_unit" kl t.x5 t.vk
 R4:ax K t.vk ["_law_model_here"] []
 O9:mg "_law_unit" = some (.ref t.x5)
 EW:aT K "_law_lead_row" "_law_lead_row" kG t.yl t.vF
 Sl:ax K t.vF ["_law_sign"] []
 Pr:mg "_law_lead_row" = some (.ref t.yl)
 ER:aT K "_law_pair_row" "_law_pair_row" kz t.yg t.vA
 Sf:ax K t.vA ["_law_sign", "_law_word"] []
 Pk:mg "_law_pair_row" = some (.ref t.yg)
 EJ:aT K "_law_spell" "_law_spell" km t.ya t.vq
 R8:ax K t.vq ["_law_model_here", "_law_sign", "_law_page"] []
 Pd:mg "_law_spell" = some (.ref t.ya)
 EH:aT K "_law_text" "_law_text" iJ t.x8 t.vo
 R6:ax K t.vo ["_law_model_here", "_law_cells"] []
 Pb:mg "_law_text" = some (.ref t.x8)
 EO:aT K "_law_pieces" "_law_pieces" kx t.ye t.vy
 Sd:ax K t.vy ["_law_row_here", "_law_cell"] []
 Ph:mg "_law_pieces" = some (.ref t.ye)
 EX:aT K "_law_lead_begun" "_law_lead_begun" kH t.ym t.vG
 Sm:ax K t.vG ["_law_kept"] []
 Ps:mg "_law_lead_begun" = some (.ref t.ym)
 ES:aT K "_law_pair_begun" "_law_pair_begun" kD t.yh t.vB
 Sh:ax K t.vB ["_law_kept", "_law_word"] []
 Pl:mg "_law_pair_begun" = some (.ref t.yh)
 E7:aT K "_law_begun" "_law_begun" jG t.yt t.vN
 Sv:ax K t.vN ["_law_model_here", "_law_kept", "_law_page"] []
 Pz:mg "_law_begun" = some (.ref t.yt)
 EK:aT K "_law_row" "_law_row" ko t.yb t.vt
 R9:ax K t.vt ["_law_model_here", "_law_cells"] []
 Pe:mg "_law_row" = some (.ref t.yb)
 E9:aT K "_law_after" "_law_after" kO t.yw t.vP
 Sx:ax K t.vP ["_law_model_here", "_law_part", "_law_page"] []
 PC:mg "_law_after" = some (.ref t.yw)
 EQ:aT K "_law_parts" "_law_parts" ky t.yf t.vz
 Se:ax K t.vz ["_law_model_here", "_law_row_here"] []
 Pj:mg "_law_parts" = some (.ref t.yf)
 E4:aT K "_law_due" "_law_due" kK t.yp t.vK
 Sr:ax K t.vK ["_law_model_here", "_law_row_here"] []
 Pw:mg "_law_due" = some (.ref t.yp)
 E6:aT K "_law_came" "_law_came" kM t.yr t.vM
 Su:ax K t.vM ["_law_found", "_law_model_here", "_law_ends"] []
 Py:mg "_law_came" = some (.ref t.yr)
 EM:aT K "_law_refused" "_law_refused" kr t.yc t.vw
 Sa:ax K t.vw ["_law_tongue_here", "_law_row_here"] []
 Pf:mg "_law_refused" = some (.ref t.yc)
 EN:aT K "_law_read" "_law_read" ku t.yd t.vx
 Sc:ax K t.vx ["_law_tongue_here", "_law_model_here", "_law_row_here", "_law_due_here"] []
 Pg:mg "_law_read" = some (.ref t.yd)
 zx:aT K "law" "law" jH t.yE t.rg
 SE:ax K t.rg ["_law_script"] []
 Ds:mg "law" = some (.ref t.yE)
 Dq:mg "Reader" = some (.ref t.bH)
 ba:dH K t.bH
 Cd:Mk K t.bH t.ph
 Ms:bE K t.bH "page" t.y6
 MA:bE K t.bH "held" t.zc
 Mq:bE K t.bH "taken" t.yZ
 MC:bE K t.bH "faults" t.ze
 Mu:bE K t.bH "over" t.y7
 MB:bE K t.bH "feed" t.zd
 MD:bE K t.bH "end" t.zf
 Mr:bE K t.bH "take" t.y4
 Mz:bE K t.bH "look_at_begun" t.zb
 Mw:bE K t.bH "meet_none" t.y9
 Mx:bE K t.bH "meet" t.za
 Mv:bE K t.bH "note" t.y8
 jc:cU K t.bH "at_page"
 fE:cU K t.bH "begun"
 jb:cU K t.bH "ended"
 qy:cU K t.bH "many"
 ug:cU K t.bH "met"
 B9:cU K t.bH "place"
 eV:cU K t.bH "tongue"
 Uz:∀H a dx fs,H a=some (.ins t.bH dx fs)->c9 K H (.ref a) (.ref t.bH)
 O4:mg "Tongue" = some (.ref t.f6)
 si:dH K t.f6
 MP:sU K t.f6
 Mf:bE K t.f6 "unit" t.iB
 Me:bE K t.f6 "whole" t.yU
 Mh:bE K t.f6 "fill" t.yV
 Mg:bE K t.f6 "look" t.gO
 Uw:∀H a dx fs,H a=some (.ins t.f6 dx fs)->c9 K H (.ref a) (.ref t.f6)
 O8:mg "LeadTongue" = some (.ref t.f9)
 sj:dH K t.f9
 MQ:sU K t.f9
 MJ:bE K t.f9 "whole" t.sL
 MK:bE K t.f9 "fill" t.sM
 mt_LeadTongue_unit:bE K t.f9 "unit" t.iB
 mt_LeadTongue_look:bE K t.f9 "look" t.gO
 UB:∀H a dx fs,H a=some (.ins t.f9 dx fs)->c9 K H (.ref a) (.ref t.f9)
 O7:mg "PairTongue" = some (.ref t.di)
 iW:dH K t.di
 MO:Mk K t.di t.sJ
 MG:bE K t.di "unit" t.zi
 MH:bE K t.di "turned" t.zj
 MF:bE K t.di "units_in" t.zg
 ME:bE K t.di "whole" t.sI
 MI:bE K t.di "fill" t.sK
 mt_PairTongue_look:bE K t.di "look" t.gO
 uh:cU K t.di "order"
 UA:∀H a dx fs,H a=some (.ins t.di dx fs)->c9 K H (.ref a) (.ref t.di)
 O6:mg "ShiftTongue" = some (.ref t.cr)
 eK:dH K t.cr
 MN:Mk K t.cr t.sG
 Mo:bE K t.cr "row_beyond" t.yY
 Mn:bE K t.cr "sign_of" t.yX
 Mm:bE K t.cr "whole" t.sF
 Mp:bE K t.cr "fill" t.sH
 mt_ShiftTongue_unit:bE K t.cr "unit" t.iB
 mt_ShiftTongue_look:bE K t.cr "look" t.gO
 qx:cU K t.cr "lists"
 uf:cU K t.cr "places"
 qw:cU K t.cr "shifted"
 Uy:∀H a dx fs,H a=some (.ins t.cr dx fs)->c9 K H (.ref a) (.ref t.cr)
 O5:mg "TableTongue" = some (.ref t.cB)
 gu:dH K t.cB
 MM:Mk K t.cB t.sD
 Ml:bE K t.cB "enter" t.yW
 Mi:bE K t.cB "whole" t.sC
 Mj:bE K t.cB "fill" t.sE
 mt_TableTongue_unit:bE K t.cB "unit" t.iB
 mt_TableTongue_look:bE K t.cB "look" t.gO
 ue:cU K t.cB "rest_by_row"
 B8:cU K t.cB "row_by_sign"
 ud:cU K t.cB "sign_by_row"
 Ux:∀H a dx fs,H a=some (.ins t.cB dx fs)->c9 K H (.ref a) (.ref t.cB)
 om:mg "BadLetters" = some (.ref t.rC)
 ol:mg "BadPage" = some (.ref t.rB)
 oj:mg "BadTable" = some (.ref t.rA)
 mN:mg "Faulty" = some (.ref t.dD)
 oi:mg "NoOrder" = some (.ref t.rq)
 oh:mg "NoSign" = some (.ref t.rp)
 mM:mg "TongueError" = some (.ref t.jU)
 og:mg "TooGreat" = some (.ref t.ro)
 jx:gx K t.dD
 xm_Faulty_Faulty:PySem.W.exmOne K (.ref t.dD) (.ref t.dD)=some true
 xk_Faulty_TongueError:PySem.W.kitOne K (.ref t.dD) (.ref t.jU)=some true
 xk_Faulty_ValueError:PySem.W.kitOne K (.ref t.dD) (.type "ValueError")=some true
 m8:PySem.W.kitAny K (.ref t.dD) (([t.rC,t.rB,t.rA,t.rq,t.rp,t.ro]:List Addr).map Value.ref)=some false
 jT:fH K t.dD iX "ValueError.__new__" = true
 oR:PySem.W.findIn K (.ref t.dD) "__init__" = some (some (.ref t.sO))
 oQ:PySem.W.isFn K (.ref t.sO)=true
 oN:PySem.W.keepIn K (.ref t.dD)=true
 oM:PySem.W.findIn K (.ref t.dD) "__setattr__" = some (some (.builtin "object.__setattr__"))
 en_Faulty_kind:PySem.W.findIn K (.ref t.dD) "kind" = some none
 en_Faulty_length:PySem.W.findIn K (.ref t.dD) "length" = some none
 en_Faulty_place:PySem.W.findIn K (.ref t.dD) "place" = some none
 eb_0:PySem.W.specialIn K (.ref t.jU) "__getattribute__" = some (some (.builtin "type.__getattribute__"))
 eb_1:PySem.W.readsIn K t.jU (.type "type")=true
 eb_2:PySem.W.findCls K (.ref t.jU) (.type "type") "__init__" = some (.val (.builtin "ValueError.__init__"))
 pM:PySem.W.kitOne K (.type "NoneType") (.ref t.jU)=some false
 RW:mg "BITS" = some (.int 6 t.GD)
 RV:mg "BYTE_BITS" = some (.int 8 t.GC)
 Ea:mg "FILLS" = some (.ref t.zm)
 DV:pK K w t.zm [(t.h_FILLS_0, "high",t.a_FILLS_0),(t.h_FILLS_1, "low",t.a_FILLS_1)]
 q_FILLS_0:∀H,bw K H t.a_FILLS_0 (([t.a_FILLS_0_0,t.a_FILLS_0_1,t.a_FILLS_0_2,t.a_FILLS_0_3,t.a_FILLS_0_4]:List Addr).map V.ref)
 q_FILLS_0_0:∀H,bw K H t.a_FILLS_0_0 (([]:e7).map V.int)
 q_FILLS_0_1:∀H,bw K H t.a_FILLS_0_1 (([0]:e7).map V.int)
 q_FILLS_0_2:∀H,bw K H t.a_FILLS_0_2 (([0,0]:e7).map V.int)
 q_FILLS_0_3:∀H,bw K H t.a_FILLS_0_3 (([220,0]:e7).map V.int)
 q_FILLS_0_4:∀H,bw K H t.a_FILLS_0_4 (([0,220,0]:e7).map V.int)
 q_FILLS_1:∀H,bw K H t.a_FILLS_1 (([t.a_FILLS_1_0,t.a_FILLS_1_1,t.a_FILLS_1_2,t.a_FILLS_1_3,t.a_FILLS_1_4]:List Addr).map V.ref)
 q_FILLS_1_0:∀H,bw K H t.a_FILLS_1_0 (([]:e7).map V.int)
 q_FILLS_1_1:∀H,bw K H t.a_FILLS_1_1 (([0]:e7).map V.int)
 q_FILLS_1_2:∀H,bw K H t.a_FILLS_1_2 (([220]:e7).map V.int)
 q_FILLS_1_3:∀H,bw K H t.a_FILLS_1_3 (([0,0]:e7).map V.int)
 q_FILLS_1_4:∀H,bw K H t.a_FILLS_1_4 (([0,220]:e7).map V.int)
 xY:mg "FIRST_BEHIND" = some (.int 128 t.GB)
 D9:mg "FIRST_HEAD" = some (.int 55296 t.GA)
 RU:mg "FIRST_SEEN" = some (.int 61184 t.Gz)
 xX:mg "FIRST_TAIL" = some (.int 56320 t.Gy)
 RT:mg "FIRST_WIDE" = some (.int 65536 t.Gx)
 RS:mg "HALF_BITS" = some (.int 10 t.Gw)
 D8:mg "LAST_BEHIND" = some (.int 191 t.Gv)
 RQ:mg "LAST_BYTE" = some (.int 255 t.Gu)
 RP:mg "LAST_SEEN" = some (.int 61439 t.Gs)
 RO:mg "LAST_SIGN" = some (.int 1114111 t.Gr)
 RN:mg "LAST_TAIL" = some (.int 57343 t.Gq)
 RM:mg "LEADS" = some (.ref t.sN)
 J7:∀H,bw K H t.sN (([0,0,192,224,240]:e7).map V.int)
 UE:∃o,K.lookup t.sN=some o/\o.cls=.type "tuple"/\o.dict=none
 RL:mg "MOST_BYTES" = some (.int 6 t.Gp)
 RK:mg "MOST_SIGNS" = some (.int 250 t.Go)
 RJ:mg "MOST_TUPLES" = some (.int 64 t.Gn)
 RI:mg "SECONDS" = some (.ref t.Eu)
 Q5:sW K t.Eu [(224,t.a_SECONDS_0),(237,t.a_SECONDS_1),(238,t.a_SECONDS_2),(240,t.a_SECONDS_3),(244,t.a_SECONDS_4)]
 q_SECONDS_0:∀H,bw K H t.a_SECONDS_0 (([160,191]:e7).map V.int)
 q_SECONDS_1:∀H,bw K H t.a_SECONDS_1 (([128,159]:e7).map V.int)
 q_SECONDS_2:∀H,bw K H t.a_SECONDS_2 (([128,187]:e7).map V.int)
 q_SECONDS_3:∀H,bw K H t.a_SECONDS_3 (([144,191]:e7).map V.int)
 q_SECONDS_4:∀H,bw K H t.a_SECONDS_4 (([128,143]:e7).map V.int)
 D7:mg "SHIFTS" = some (.ref t.o9)
 BE:∀H,bw K H t.o9 (([254,255]:e7).map V.int)
 UD:∃o,K.lookup t.o9=some o/\o.cls=.type "tuple"/\o.dict=none
 n_ValueError:mg "ValueError" = none
 n_all:mg "all" = none
 n_any:mg "any" = none
 n_bool:mg "bool" = none
 n_enumerate:mg "enumerate" = none
 n_int:mg "int" = none
 n_isinstance:mg "isinstance" = none
 n_len:mg "len" = none
 n_list:mg "list" = none
 n_range:mg "range" = none
 n_set:mg "set" = none
 n_str:mg "str" = none
 n_sum:mg "sum" = none
 n_tuple:mg "tuple" = none
 n_zip:mg "zip" = none
def mJ{α:Type}{r:List α}(h:r.length=2):∃a b,r=[a,b]:=by
 obtain⟨a,r,rfl⟩:=W6 h;obtain⟨b,r,rfl⟩:=W6 (VX h);obtain rfl:=WJ (VX (VX h));exact⟨a,b,Z⟩
def nY{α:Type}{r:List α}(h:r.length=4):∃a b c d,r=[a,b,c,d]:=by
 obtain⟨a,r,rfl⟩:=W6 h;obtain⟨b,r,rfl⟩:=W6 (VX h);obtain⟨c,d,rfl⟩:=mJ (VX (VX h));exact⟨a,b,c,d,Z⟩
def DG{K:PySem.W.Frag}{a:Addr}{xs:List V}{g:TG}{tb:TS}{D:ff}{σ:St}{H:Hp}(b:Nat->St->Hp->Prop)(e:b 0 σ H)(f:∀i σ H,i<=xs.length->b i σ H->aH K H a xs)
 (hs:∀i x σ H N,N=b (i+1)->xs[i]? = some x->b i σ H->g x σ H λd c=>tb { D with nx:=N,ct:=N,bk:=D.nx } d c) (hd:∀σ H,b xs.length σ H->D.nx σ H) :
 ∃W:Nat->Nat->St->Hp->Prop,(∃m,W 0 m σ H)/\∀i m σ H,W i m σ H ->
  ((iF K a).stop i H/\D.nx σ H)\/((iF K a).go i H/\∃N:St->Hp->Prop,(∀σ' H',N σ' H'->∃m',m'<m/\W (i+1) m' σ' H')/\∀x H',(iF K a).yld i H x H'->g x σ H' λd c=>tb { D with nx:=N,ct:=N,bk:=D.nx } d c):=iS b e f (λi x σ H hx p=>hs i x σ H _ rfl hx p) hd
def jA{t u:TS}{D:ff}{σ:St}{H:Hp}(h:∀N:St->Hp->Prop,N=u D->t { D with nx:=N } σ H):nj t u D σ H:=h _ rfl
def i5{sp:Sp}{vs:List V}{H:Hp}{Q:VK}{E:XK}(h:∀q:VK,(∀v H,Q v H->q v H)->sp vs H q E):sp vs H Q E:=h Q λ_ _ h=>h
def gS{b:Sort _}{d c:b->Prop}(a:b)(f:d a)(e:c a):∃a,d a/\c a:=⟨a,f,e⟩
def dX{b:Sort _}{e d c:b->Prop}(a:b)(g:e a)(f:d a)(h:c a):∃a,e a/\d a/\c a:=⟨a,g,f,h⟩
def zB{f:Sort _}{e d c b:f->Prop}(a:f)(i:e a)(h:d a)(j:c a)(g:b a):∃a,e a/\d a/\c a/\b a:=⟨a,i,h,j,g⟩
def aU{g:Sort _}{c:Sort _}{f d e:g->c->Prop}(b:g)(a:c)(i:f b a)(h:d b a)(j:e b a):∃b a,f b a/\d b a/\e b a:=⟨b,a,i,h,j⟩
def zA{h:Sort _}{d:Sort _}{g e f c:h->d->Prop}(b:h)(a:d)(k:g b a)(j:e b a)(l:f b a)(i:c b a):∃b a,g b a/\e b a/\f b a/\c b a:=⟨b,a,k,j,l,i⟩
def bL{j:Sort _}{e:Sort _}{i:Sort _}{h f g d:j->e->i->Prop}(c:j)(b:e)(a:i)(m:h c b a)(l:f c b a)(n:g c b a)(k:d c b a):∃c b a,h c b a/\f c b a/\g c b a/\d c b a:=⟨c,b,a,m,l,n,k⟩
def dl{i:Sort _}{l:Sort _}{m:Sort _}{n:Sort _}{h g f j k e:i->l->m->n->Prop}(b:i)(a:l)(d:m)(c:n)(s:h b a d c)(o:g b a d c)(p:f b a d c)(q:j b a d c)(u:k b a d c)(r:e b a d c):∃b a d c,h b a d c/\g b a d c/\f b a d c/\j b a d c/\k b a d c/\e b a d c:=⟨b,a,d,c,s,o,p,q,u,r⟩
def cq{k:Sort _}{n:Sort _}{o:Sort _}{p:Sort _}{i:Sort _}{j h g l m f:k->n->o->p->i->Prop}(b:k)(a:n)(d:o)(c:p)(e:i)(v:j b a d c e)(q:h b a d c e)(x:g b a d c e)(r:l b a d c e)(s:m b a d c e)(u:f b a d c e):∃b a d c e,j b a d c e/\h b a d c e/\g b a d c e/\l b a d c e/\m b a d c e/\f b a d c e:=⟨b,a,d,c,e,v,q,x,r,s,u⟩
def xS{K:PySem.W.Frag}{H:Hp}{a b:Str}{G:PyData->PyData->Prop}(h:SeqAt.shaped (.str a)=true)(i:SeqAt.shaped (.str b)=true)(g:G (.str a) (.str b)):∃d e,bA K H d (.str a)/\bA K H e (.str b)/\SeqAt.shaped d=true/\SeqAt.shaped e=true/\G d e:=⟨_,_,.str _,.str _,h,i,g⟩
def ez{K:PySem.W.Frag}{H:Hp}{a b:Str}{G:PyData->PyData->Prop}(g:G (.str a) (.str b))(h:SeqAt.shaped (.str a)=true:=by decide +kernel)(i:SeqAt.shaped (.str b)=true:=by decide +kernel):∃d e,bA K H d (.str a)/\bA K H e (.str b)/\SeqAt.shaped d=true/\SeqAt.shaped e=true/\G d e:=xS h i g
def aS{b:Sort _}{d c:b->Prop}{a:b}(f:d a)(e:c a):∃a,d a/\c a:=⟨a,f,e⟩
def cM{b:Sort _}{e d c:b->Prop}{a:b}(g:e a)(f:d a)(h:c a):∃a,e a/\d a/\c a:=⟨a,g,f,h⟩
def gR{f:Sort _}{e d c b:f->Prop}{a:f}(i:e a)(h:d a)(j:c a)(g:b a):∃a,e a/\d a/\c a/\b a:=⟨a,i,h,j,g⟩
def bi{g:Sort _}{c:Sort _}{f d e:g->c->Prop}{b:g}{a:c}(i:f b a)(h:d b a)(j:e b a):∃b a,f b a/\d b a/\e b a:=⟨b,a,i,h,j⟩
def gf{h:Sort _}{d:Sort _}{g e f c:h->d->Prop}{b:h}{a:d}(k:g b a)(j:e b a)(l:f b a)(i:c b a):∃b a,g b a/\e b a/\f b a/\c b a:=⟨b,a,k,j,l,i⟩
end My
namespace My
open PySem L2
def jP:V->Bool
 | .int _=>true
 | _=>false
def dN(v:V)(lo a:Int):Bool:=match v with
 | .int i=>decide (lo<=i) && decide (i<=a)
 | _=>false
def eW(v:V):Bool:=dN v 0 1114111 && !(dN v 55296 57343) && !(dN v 61184 61439)
def uw{v:V}(h:jP v=true):∃i,v=.int i:=by
 cases v<;>first|exact⟨_,rfl⟩|cases h
def nz(f:V->Bool)(K:PySem.W.Frag):Sp:=λvs H Q _=>∃v,vs=[v]/\gc K H v/\Q (.bl (f v)) H
def tO(f:Int->Bool):Sp:=λvs H Q _=>∃i,vs=[.int i]/\Q (.bl (f i)) H
def qJ{f:V->Bool}{K:PySem.W.Frag}{x:Str}:∀vs H Q E,nz f K vs H Q E->vs.length=[x].length:=λvs H Q E h=>by
 obtain⟨v,rfl,_⟩:=h
 rfl
def Cw{f:Int->Bool}{x:Str}:∀vs H Q E,tO f vs H Q E->vs.length=[x].length:=λvs H Q E h=>by
 obtain⟨v,rfl,_⟩:=h
 rfl
def Sg(n:Int):Prop:=0<=n/\n<=1114111/\¬(55296<=n/\n<=57343)/\¬(61184<=n/\n<=61439)
def nA(n:Int):eW (.int n)=true ↔ Sg n:=by
 unfold eW dN Sg;simp;lia
def dn(n:Int):e7:=if n<65536 then [n] else [55296+(n-65536)/1024,56320+(n-65536)%1024]
def ub(h:Bool)(m:Int):e7:=if h then [m/256,m%256] else [m%256,m/256]
def fU(h:Bool)(n:Int):e7:=(dn n).flatMap (ub h)
def hW(h:Bool):Str:=if h then "high" else "low"
def tw(h:Bool)(m:Int):(ub h m).length=2:=by unfold ub;cases h<;>rfl
def zU(n:Int):(dn n).length<=2:=by
 unfold dn;by_cases c:n<65536
 ·rw[X9 c];simp
 ·rw[X8 c];simp
def Gi{n u:Int}(h:Sg n)(a:u∈dn n):0<=u/\u<65536:=by
 obtain⟨b,d,_,_⟩:=h;unfold dn at a;by_cases c:n<65536
 ·rw[X9 c]at a;simp at a;lia
 ·rw[X8 c]at a;simp at a;lia
def q9(h:Bool)(us:e7):(us.flatMap (ub h)).length=2*us.length:=by
 induction us with
 | nil=>rfl
 | cons a r ih=>rw[List.flatMap_cons,Vc,tw,ih,Vt];lia
def KD(h:Bool)(n:Int):(fU h n).length<=4:=by
 unfold fU;rw[q9];have:=zU n;lia
def u2(h:Bool)(x y:Int):Int:=if h then x*256+y else y*256+x
def cf(h:Bool):e7->e7
 | x::y::r=>u2 h x y::cf h r
 | _=>[]
def ik:e7->Option Int
 | [u]=>if eW (.int u) then some u else none
 | [u,v]=>if (55296<=u/\u<56320)/\56320<=v/\v<=57343 then some (65536+((u-55296)*1024+(v-56320))) else none
 | _=>none
def eR(h:Bool)(r:e7):Option Int:=if r.length=2\/r.length=4 then ik (cf h r) else none
def oV(o:Option Int):V:=o.elim .non V.int
def iT(h:Bool):List (e7):=if h then [[],[0],[0,0],[220,0],[0,220,0]] else [[],[0],[220],[0,0],[0,220]]
def bp(r:e7):Prop:=∀b∈r,0<=b/\b<=255
def bp.app{r s:e7}(a:bp r)(b:bp s):bp (r++s):=λx hx=>by
 rcases Vm.mp hx with h|h
 ·exact a x h
 ·exact b x h
def Qz{h:Bool}{f:e7}(hf:f∈iT h):bp f:=by
 unfold iT at hf;cases h<;>simp at hf<;>rcases hf with rfl|rfl|rfl|rfl|rfl<;>intro x hx<;>simp at hx<;>lia
def DK{h:Bool}{f:e7}(hf:f∈iT h):f.length<=3:=by
 unfold iT at hf;cases h<;>simp at hf<;>rcases hf with rfl|rfl|rfl|rfl|rfl<;>decide
def lb(f:Int):Int:=if f<128 then 1 else if f<194\/244<f then 0 else if f<224 then 2 else if f<240 then 3 else 4
def gG(f:Int):Int:=if f=224 then 160 else if f=240 then 144 else 128
def gH(f:Int):Int:=if f=237 then 159 else if f=238 then 187 else if f=244 then 143 else 191
def dL(f:Int)(p:Nat):Int:=if p=1 then gG f else 128
def eh(f:Int)(p:Nat):Int:=if p=1 then gH f else 191
def jt(f:Int)(r:e7):Prop:=∀i x,r[i]? = some x->dL f (i+1)<=x/\x<=eh f (i+1)
def jw(f:Int)(r:e7):Prop:=(r.length:Int)+1<=lb f/\jt f r
def m6:e7->Prop
 | []=>True
 | f::r=>jw f r
def gy:e7->Prop
 | []=>False
 | f::r=>jw f r/\(r.length:Int)+1=lb f
def q8:e7->e7
 | []=>[0]
 | f::r=>(List.range (lb f-((r.length:Int)+1)).toNat).map λi=>dL f (r.length+1+i)
def qL(f:Int):0<=lb f/\lb f<=4:=by unfold lb;repeat' split<;>lia
def Nb(f:Int)(p:Nat):128<=dL f p:=by unfold dL gG;repeat' split<;>lia
def N3(f:Int)(p:Nat):eh f p<=191:=by unfold eh gH;repeat' split<;>lia
def DI(f:Int)(r:e7):jt f r ↔ (∀x∈r,128<=x/\x<=191)/\∀x,r[0]? = some x->gG f<=x/\x<=gH f:=by
 constructor
 ·intro h;refine⟨λx hx=>?_,λx hx=>?_⟩
  ·obtain⟨i,c⟩:=X0 hx;have:=h i x c;have b:=Nb f (i+1);have a:=N3 f (i+1);lia
  ·have:=h 0 x hx;simpa [dL,eh] using this
 ·rintro⟨b,a⟩ i x hx;cases i with
  | zero=>simpa [dL,eh] using a x hx
  | succ i =>
   have:=b x (Vo hx);simp only [dL,eh];rw[X8 (by lia),X8 (by lia)];exact this
def row(n:Int):e7:=if n<128 then [n] else if n<2048 then [192+n/64,128+n%64] else if n<65536 then [224+n/4096,128+n/64%64,128+n%64] else [240+n/262144,128+n/4096%64,128+n/64%64,128+n%64]
def Bl(n:Int):1<=(row n).length/\(row n).length<=4:=by
 unfold row;by_cases c1:n<128
 ·rw[X9 c1];simp
 rw[X8 c1];by_cases c2:n<2048
 ·rw[X9 c2];simp
 rw[X8 c2];by_cases c3:n<65536
 ·rw[X9 c3];simp
 rw[X8 c3];simp
def cL{α β:Type}(R:α->β->Prop)(xs:List α)(ys:List β):Prop:=xs.length=ys.length/\∀(i:Nat) x y,xs[i]? = some x->ys[i]? = some y->R x y
def cL.nil{α β:Type}{R:α->β->Prop}:cL R [] []:=⟨rfl,λi x y h=>by simp at h⟩
def cL.cons{α β:Type}{R:α->β->Prop}{x:α}{y:β}{xs:List α}{ys:List β}(h:R x y)(t:cL R xs ys):cL R (x::xs) (y::ys):=⟨by simp[t.1],λi a b c hb=>by
 cases i with
 | zero=>simp at c hb;subst c hb;exact h
 | succ i=>exact t.2 i a b (by simpa using c) (by simpa using hb)⟩
def cL.imp{α β:Type}{R S:α->β->Prop}{xs:List α}{ys:List β}(h:cL R xs ys)(k:∀x y,R x y->S x y):cL S xs ys:=⟨h.1,λi x y a b=>k x y (h.2 i x y a b)⟩
def cL.app{α β:Type}{R:α->β->Prop}{xs us:List α}{ys vs:List β}(h:cL R xs ys)(k:cL R us vs):cL R (xs++us) (ys++vs):=by
 refine⟨by simp[h.1,k.1],λi x y a b=>?_⟩;by_cases hi:i<xs.length
 ·rw[V2 hi]at a;rw[V2 (by rw[<- h.1];exact hi)]at b;exact h.2 i x y a b
 ·rw[VZ (by lia)]at a;rw[VZ (by rw[<- h.1];lia),<- h.1]at b;exact k.2 _ x y a b
def cL.right{α β:Type}{R:α->β->Prop}{xs:List α}{ys:List β}(h:cL R xs ys){i:Nat}{x:α}(hx:xs[i]? = some x):∃y,ys[i]? = some y/\R x y:=by
 have b:=(Vh.mp hx).1;have a:ys[i]? = some (ys[i]'(by rw[<- h.1];exact b)):=by simp
 exact⟨_,a,h.2 i x _ hx a⟩
def cL.left{α β:Type}{R:α->β->Prop}{xs:List α}{ys:List β}(h:cL R xs ys){i:Nat}{y:β}(a:ys[i]? = some y):∃x,xs[i]? = some x/\R x y:=by
 have b:=(Vh.mp a).1;have hx:xs[i]? = some (xs[i]'(by rw[h.1];exact b)):=by simp
 exact⟨_,hx,h.2 i _ y hx a⟩
def Kp(a:Addr)(H b:Hp):Prop:=∀c u,c≠a->H c=some u->b c=some u
def Kp.trans{a:Addr}{H d b:Hp}(h:Kp a H d)(h':Kp a d b):Kp a H b:=λc u n e=>h' c u n (h c u n e)
def Kp.of{a:Addr}{H b:Hp}(h:aj H b):Kp a H b:=λc u _ e=>h c u e
def Kp.upd{a:Addr}{H:Hp}{o:HO}:Kp a H (upd H a o):=λc u n e=>by rw[au n];exact e
end My
namespace My
open PySem L2
section
variable {P:Program}{w:World}{K:PySem.W.Frag}{mg:Str->Option Value}{base:Heap}{t:Adr}
def Hm:Sp:=λvs H Q _=>∃(n:Int) (b:Nat),vs=[.int n,.int (b:Int)]/\0<=n/\n<2 ^ b/\Q .non H
def OC (T:Txt w K mg t):bC P w K mg base "check_room" 1 t.yQ t.wm ["number", "bits"] Hm:=by
 refine⟨T.Qe,T.Fs.kp,T.ST,T.Fs.okQ IS (λvs H Q E h=>by obtain⟨n,b,rfl,_⟩:=h;rfl) λ_ _ _ _ H vs Q E d h=>?_⟩;obtain⟨n,b,rfl,a,c,k⟩:=h;refine⟨_,(ai (aD (bY (dw (aw cZ (aa 0) ag (av _)) (dJ (aw fF (tX (K:=K) Z PySem.F.plainAttrs_int PySem.F.slot_int_bit_length PySem.F.type_int_bit_length MU (aa 0)) (aa 1) (av _))))) (ai jM) aG)),?_⟩;refine ak (λe=>Ya (Yb e) (by lia)) (λ_=>?_);refine⟨rfl,?_⟩;have hb:Builtin.Int.intBits n<=b:=intBits_le_iff.mpr (by
  have:(n.natAbs:Int)<((2 ^ b:Nat):Int):=by rw[X1 a,Int.natCast_pow];exact c
  exact Int.ofNat_lt.mp this)
 refine ak (λe=>Ya (Yb e) (by lia)) (λ_=>?_);exact k
def G9(K:PySem.W.Frag):Sp:=λvs H Q _=>∃(a:Addr) (ps:e7) (b:Nat),vs=[.ref a,.int (b:Int)]/\aH K H a (ps.map V.int)/\(∀p∈ps,0<=p/\p<2 ^ b)/\b<=1000/\ps.length<=1000/\Q (.int (cz b ps)) H
def uG (T:Txt w K mg t):bC P w K mg base "together" 2 t.yy t.vQ ["parts", "bits"] (G9 K):=by
 refine⟨T.PD,T.Fa.kp,T.Sy,T.Fa.okQ pY (λvs H Q E h=>by obtain⟨a,ps,b,rfl,_⟩:=h;rfl) λ_ _ _ _ H vs Q E u h=>?_⟩;obtain⟨a,ps,b,rfl,o,m,hb,C,k⟩:=h;refine⟨_,(ah (aF (i:=2) pY.nd Z (.inl Z) ag)
  (ah (dy PassesOwn.never rfl (d7 (K:=K) rfl (aa 0)) (bj (i:=3) pY.nd rfl (.inl rfl)) (ah (cY (aW (OC T) u (ad (aa 3) (ad (aa 1) ae))))
  (ai (aF (i:=2) pY.nd rfl (.inl rfl) (aE (U0 K) (aE PK (aa 2) (aa 1)) (aa 3))))))
  (ai (aq (aa 2))))),?_⟩
 refine dX a rfl ⟨_,o⟩ (iS (K:=K) (a:=a) (xs:=ps.map V.int) (λi σ r=>r=H/\∃g,σ=[some (.ref a),some (.int b),some (.int (cz b (ps.take i))),g]) ⟨rfl,_,rfl⟩ (λi σ r _ z=>by rw[z.1];exact o) ?_ ?_)
 ·rintro i x σ s d ⟨rfl,g,rfl⟩;obtain⟨p,l,rfl⟩:∃p,ps[i]? = some p/\x=.int p:=by
   rw[Vf]at d;cases e:ps[i]? with
   | none=>rw[e]at d;cases d
   | some p=>rw[e]at d;cases d;exact⟨p,Z,Z⟩
  have c:=m p (Vo l);refine zA p b Z c.1 c.2 ?_;have y:i<ps.length:=(Vh.mp l).1;have n:=GO (b:=b) (ps:=ps.take i) λq v=>m q (Wb v);have f:Builtin.Int.intBits (cz b (ps.take i))<=b*(ps.take i).length:=intBits_le_iff.mpr (by
   have:((cz b (ps.take i)).natAbs:Int)<((2 ^ (b*(ps.take i).length):Nat):Int):=by rw[X1 n.1,Int.natCast_pow];exact n.2
   exact Int.ofNat_lt.mp this)
  have j:(ps.take i).length<=1000:=by rw[Vk];lia
  have B:b*(ps.take i).length<=1000000:=Nat.mul_le_mul hb j;refine⟨⟨by lia,show ((Builtin.Int.intBits (cz b (ps.take i)):Nat):Int)+(b:Int)<=2 ^ 27 by lia⟩,?_⟩;refine⟨rfl,?_⟩;have e:ps.take (i+1)=ps.take i++[p]:=by rw[Xu,l];rfl
  rw[e,GN];exact⟨_,Z⟩
 ·rintro σ s ⟨rfl,g,rfl⟩;rw[U9,Vw];exact k
def uI (T:Txt w K mg t):bC P w K mg base "is_number" 1 t.yJ t.wb ["thing"] (nz jP K):=by
 refine⟨T.P4,T.Fk.kp,T.SL,T.Fk.okQ IM qJ λ_ _ _ _ H vs Q E d h=>?_⟩;obtain⟨v,rfl,c,k⟩:=h;refine⟨_,(ai (aq (fB (bf (U1 K) T.n_isinstance VY (ad (aa 0) (ad (iL Z T.n_int VN) ae))) (gE (tY (bf (U1 K) T.n_isinstance VY (ad (aa 0) (ad (iL Z T.n_bool X2) ae)))))))),?_⟩;obtain⟨ty,a,b⟩:=c.isInt;refine aU ty _ a b ?_;refine ak (λe=>?_) (λe=>?_)
 ·obtain⟨ty,a,b⟩:=c.isBl;refine aU ty _ a b ?_;exact cO k (by cases v<;>simp_all [jP,uz,CJ])
 ·exact cO k (by cases v<;>simp_all [jP,uz])
def C6 (T:Txt w K mg t):bC P w K mg base "is_head" 1 t.yK t.wc ["number"] (tO λi=>decide (55296<=i) && decide (i<56320)):=by
 refine⟨T.P5,T.Fl.kp,T.SM,T.Fl.okQ IN Cw λ_ _ _ _ H vs Q E b h=>?_⟩;obtain⟨i,rfl,k⟩:=h;refine⟨_,(ai (aq (mz eI cZ (db T.D9) (aa 0) (db T.xX)))),?_⟩;refine ak (λa=>?_) (λa=>?_)
 ·exact cO k (by simp at *;lia)
 ·exact cO k (by simp at *;lia)
def C5 (T:Txt w K mg t):bC P w K mg base "is_tail" 1 t.yF t.vX ["number"] (tO λi=>decide (56320<=i) && decide (i<=57343)):=by
 refine⟨T.P0,T.Fg.kp,T.SG,T.Fg.okQ II Cw λ_ _ _ _ H vs Q E b h=>?_⟩;obtain⟨i,rfl,k⟩:=h;refine⟨_,(ai (aq (mz eI eI (db T.xX) (aa 0) (db T.RN)))),?_⟩;refine ak (λa=>?_) (λa=>?_)
 ·exact cO k (by simp at *;lia)
 ·exact cO k (by simp at *;lia)
def Ov (T:Txt w K mg t):bC P w K mg base "is_seen_byte" 2 t.yH t.vZ ["thing"] (nz (λv=>dN v 61184 61439) K):=by
 refine⟨T.P2,T.Fi.kp,T.SJ,T.Fi.okQ IK qJ λ_ _ _ _ H vs Q E a h=>?_⟩;obtain⟨v,rfl,b,k⟩:=h;refine⟨_,(ai (aq (fB (aW (uI T) a (ad (aa 0) ae)) (gE (mz eI eI (db T.RU) (aa 0) (db T.RP)))))),?_⟩;refine dX v Z b ?_;refine ak (λe=>?_) (λe=>?_)
 ·obtain⟨i,rfl⟩:=uw e;refine ak (λc=>?_) (λc=>?_)
  ·exact cO k (by simp[dN]at *;lia)
  ·exact cO k (by simp[dN]at *;lia)
 ·exact cO k (by cases v<;>simp_all [jP,dN])
def uH (T:Txt w K mg t):bC P w K mg base "is_sign" 3 t.yG t.vY ["thing"] (nz eW K):=by
 refine⟨T.P1,T.Fh.kp,T.SH,T.Fh.okQ IJ qJ λ_ _ _ _ H vs Q E a h=>?_⟩;obtain⟨v,rfl,b,k⟩:=h;refine⟨_,(ah (aD (bY (dw (fR (fz (aW (uI T) a (ad (aa 0) ae)))) (dJ (fR (nJ eI eI ag (aa 0) (db T.RO)))))) (ai (aq dQ)) aG)
  (ai (aq (tY (qd (aW (C6 T) a (ad (aa 0) ae)) (qd (aW (C5 T) a (ad (aa 0) ae)) (gE (aW (Ov T) a (ad (aa 0) ae))))))))),?_⟩
 refine dX v Z b ?_;refine ak (λe=>?_) (λe=>?_)
 ·refine iw ?_;exact cO k (by cases v<;>simp_all [jP,dN,eW])
 ·obtain⟨i,rfl⟩:=uw (v:=v) (by simpa using e);refine ak (λg=>?_) (λg=>?_)
  ·refine ak (λf=>?_) (λf=>?_)
   ·exact cO k (by simp[eW,dN]at *;lia)
   ·refine gS i Z ?_;refine ak (λc=>?_) (λc=>?_)
    ·exact cO k (by simp[eW,dN]at *;lia)
    ·refine gS i Z ?_;refine ak (λd=>?_) (λd=>?_)
     ·exact cO k (by simp[eW,dN]at *;lia)
     ·refine cM Z b ?_;exact cO k (by rw[We];simp[eW,dN]at *;lia)
  ·refine iw ?_;exact cO k (by simp[eW,dN]at *;lia)
def Hh(K:PySem.W.Frag):Sp:=λvs H Q _=>∃(a:Addr) (us:e7),vs=[.ref a]/\aH K H a (us.map V.int)/\us.length<=2/\∀H',aj H H'->Q (oV (ik us)) H'
theorem GG:∀ {us:e7},us.length=2->∃u v,us=[u,v]
 | [u,v],_=>⟨u,v,rfl⟩
def GP(x y:Int):cz 10 [x,y]=x*1024+y:=by
 show (0*2 ^ 10+x)*2 ^ 10+y=_;have:(2:Int) ^ 10=1024:=by decide
 rw[this];lia
def Os (T:Txt w K mg t):bC P w K mg base "sign_of" 4 t.yz t.vS ["units"] (Hh K):=by
 refine⟨T.PJ,T.Fb.kp,T.Sz,T.Fb.okQ IG (λvs H Q E h=>by obtain⟨a,us,rfl,_⟩:=h;rfl) λ_ _ _ _ H vs Q E i h=>?_⟩;obtain⟨a,us,rfl,d,G,k⟩:=h;have s:=i.units;obtain⟨o,g⟩:∃o,o=ik us:=⟨_,rfl⟩;rw[<- g]at k;obtain⟨L,eL⟩:∃L:Int,L=((us.map V.int).length:Int):=⟨_,rfl⟩;have eL2:L=(us.length:Int):=by rw[eL,U9]
 refine⟨_,(ah (aD (bY (fu (aw (bh (K:=K) Z s) (bf (U2 K) T.n_len Ve (ad (aa 0) ae)) ag (av _)) (fQ (fz (aW (uH T) i (ad (ay (U3 K) (aa 0) ag (λ_ _=>rfl)) ae)))))) (ai (aq (ay (U3 K) (aa 0) ag (λ_ _=>rfl)))) aG)
  (ah (aD (bY (fu (aw (bh (K:=K) rfl s) (bf (U2 K) T.n_len Ve (ad (aa 0) ae)) ag (av _)) (fu (fz (aW (C6 T) i (ad (ay (U3 K) (aa 0) ag (λ_ _=>rfl)) ae))) (fQ (fz (aW (C5 T) i (ad (ay (U3 K) (aa 0) ag (λ_ _=>rfl)) ae))))))) (ai (aq (aE (U0 K) (db T.RT) (aW (uG T) i (ad (aM (ad (aE dB (ay (U3 K) (aa 0) ag (λ_ _=>rfl)) (db T.D9)) (ad (aE dB (ay (U3 K) (aa 0) ag (λ_ _=>rfl)) (db T.xX)) ae))) (ad (db T.RS) ae)))))) aG)
  (ai (aq bW)))),?_⟩
 have l:∀ {m:Prop} {n:Prop} {b:Bool},(b=true->m)->(b=false->n)->if b=true then m else n:=λ{m n b} x y=>by
  cases b with
  | true=>exact x rfl
  | false=>exact y rfl
 refine aS (.inl d) ?_;rw[<- eL];refine ak (λe=>?_) (λe=>?_)
 ·have e:L=1:=Yb e;obtain⟨u,rfl⟩:∃u,us=[u]:=List.length_eq_one_iff.mp (by lia);refine aU _ (.int u) (.inl d) (aA (j:=0) Z) ?_;refine dX (.int u) Z (.int u) ?_;refine ak (λf=>?_) (λf=>?_)
  ·refine aU _ (.int u) (.inl d) (aA (j:=0) Z) ?_;have es:o=some u:=g.trans (X9 f);subst es;exact k _ (aj.refl _)
  ·have es:o=none:=g.trans (X8 f);subst es;refine aS (.inl d) ?_;rw[<- eL];refine ak (λc=>Ya (Yb c) (by lia)) (λ_=>?_);exact k _ (aj.refl _)
 have e:¬L=1:=λz=>e (Yc z);refine aS (.inl d) ?_;rw[<- eL];refine ak (λc=>?_) (λc=>?_)
 ·have c:L=2:=Yb c;obtain⟨u,v,rfl⟩:∃u v,us=[u,v]:=GG (by lia);refine aU _ (.int u) (.inl d) (aA (j:=0) Z) ?_;refine gS u Z ?_;refine ak (λf=>?_) (λf=>?_)
  ·simp only [VB,decide_eq_true_eq]at f;refine aU _ (.int v) (.inl d) (aA (j:=1) Z) ?_;refine gS v Z ?_;refine ak (λc=>?_) (λc=>?_)
   ·simp only [VB,decide_eq_true_eq]at c;have es:o=some (65536+((u-55296)*1024+(v-56320))):=g.trans (X9 ⟨f,c⟩);subst es;refine aU _ (.int u) (.inl d) (aA (j:=0) Z) ?_;refine aU _ (.int v) (.inl d) (aA (j:=1) Z) ?_;refine⟨sz Z,λr D B=>?_⟩;have q:=GP (u-55296) (v-56320);have C:aH K D r (([u-55296,v-56320]:e7).map V.int):=B.lst;obtain⟨ps,p⟩:∃ps:e7,ps=[u-55296,v-56320]:=⟨_,rfl⟩;rw[<- p]at C q;have F:(2:Int) ^ 10=1024:=by decide
    refine⟨r,ps,10,rfl,C,?_,by decide,by rw[p];simp,?_⟩
    ·intro x hx;rw[p]at hx;simp at hx;rcases hx with rfl|rfl<;>lia
    ·rw[q];exact k _ B.sm
   ·have es:o=none:=g.trans (X8 λz=>c (by simp;exact z.2));subst es;exact k _ (aj.refl _)
  ·have es:o=none:=g.trans (X8 λz=>f (by simp;exact z.1));subst es;exact k _ (aj.refl _)
 ·have c:¬L=2:=λz=>c (Yc z);have z0:us=[]:=List.length_eq_zero_iff.mp (by lia);subst z0;subst g;exact k _ (aj.refl _)
def Po(t:Adr)(H:Hp)(o:Addr)(h:Bool):Prop:=∃dx,H o=some (.ins t.di dx [("order",.str (hW h))])
def Po.mono{H a:Hp}{o:Addr}{h:Bool}(p:Po t H o h)(s:aj H a):Po t a o h:=let ⟨dx,z⟩:=p;⟨dx,s _ _ z⟩
def AJ(t:Adr):Sp:=λvs H Q _=>∃(x dx:Addr) (h:Bool),vs=[.ref x,.str (hW h)]/\H x=some (.ins t.di dx [])/\Q .non (upd H x (.ins t.di dx [("order",.str (hW h))]))
def LP (T:Txt w K mg t):bN P w K mg base cn 1 t.sJ t.oH ["self", "order"] (AJ t):=by
 refine T.Uo.okQ Jo (λvs H Q E h=>by obtain⟨x,dx,v,rfl,_⟩:=h;rfl) λ_ _ _ _ H vs Q E a h=>?_;obtain⟨x,dx,h,rfl,hx,k⟩:=h;refine⟨_,(ah (aD (bY (dw (fR (fz (bf (U1 K) T.n_isinstance VY (ad (aa 1) (ad (iL rfl T.n_str PyProof.Rows.boot_str) ae))))) (dJ (aw (PQ (K:=K) rfl rfl T.DV) (aa 1) (fS (v:=.ref t.zm) rfl T.Ea rfl) (by with_unfolding_all rfl))))) (ai jM) aG)
  (ai (dS (K:=K) rfl (aa 0) (aa 1)))),?_⟩
 refine bi (.str _) (by with_unfolding_all rfl) ?_;refine cM Z Z ?_;refine ak (λe=>Ya e (by cases h<;>simp[iA,hW])) (λ_=>?_);exact⟨x,_,dx,_,rfl,hx,T.iW,T.uh,by decide,k⟩
def NY (T:Txt w K mg t):mZ P w K mg base "PairTongue" t.di 1 t.sJ t.oH ["self", "order"] [] (AJ t):=⟨T.O7,T.MO,⟨[],T.Tr,.nil⟩,LP T⟩
def Oy (T:Txt w K mg t):bC P w K mg base "is_byte" 2 t.yM t.wf ["thing"] (nz (λv=>dN v 0 255) K):=by
 refine⟨T.P7,T.Fn.kp,T.SO,T.Fn.okQ IP qJ λ_ _ _ _ H vs Q E a h=>?_⟩;obtain⟨v,rfl,b,k⟩:=h;refine⟨_,(ai (aq (fB (aW (uI T) a (ad (aa 0) ae)) (gE (mz eI eI ag (aa 0) (db T.RQ)))))),?_⟩;refine dX v Z b ?_;refine ak (λe=>?_) (λe=>?_)
 ·obtain⟨i,rfl⟩:=uw e;refine ak (λc=>?_) (λc=>?_)
  ·exact cO k (by simp[dN]at *;lia)
  ·exact cO k (by simp[dN]at *;lia)
 ·exact cO k (by cases v<;>simp_all [jP,dN])
def G8(t:Adr):Sp:=λvs H Q _=>∃(o a:Addr) (h:Bool) (x y:Int),vs=[.ref o,.ref a]/\Po t H o h/\H a=some (.lst [.int x,.int y])/\∀p H',aj H H'->H' p=some (.lst ((if h then [x,y] else [y,x]).map V.int))->Q (.ref p) H'
def OU (T:Txt w K mg t):cW P w K mg base t.di "turned" 1 t.zj t.wK ["self", "pair"] (G8 t):=by
 refine⟨T.iW,T.MH,T.Tq,T.Um.okQ Jn (λvs H Q E h=>by obtain⟨o,a,h,x,y,rfl,_⟩:=h;rfl) λ_ _ _ _ H vs Q E c h=>?_⟩;obtain⟨o,a,h,x,y,rfl,⟨dx,ho⟩,b,k⟩:=h;have d:=c.units;refine⟨_,(ai (aq (i9 (aw (bh (K:=K) Z d) (bq (K:=K) Z (aa 0)) bc (av _)) (aa 1) (aM (ad (ay (U3 K) (aa 1) ag (λ_ _=>rfl)) (ad (ay (U3 K) (aa 1) ag (λ_ _=>rfl)) ae)))))),?_⟩;refine cq o _ dx _ _ Z ho T.iW T.uh Z ?_;cases h with
 | true =>
  refine ez ?_;refine ak (λ_=>?_) (λe=>Ya (by decide +kernel) e);exact k _ _ (aj.refl _) b
 | false =>
  refine ez ?_;refine ak (λe=>Ya e (by decide +kernel)) (λ_=>?_);refine aU _ (.int y) (.inl (.of b)) (aA (j:=1) Z) ?_;refine aU _ (.int x) (.inl (.of b)) (aA (j:=0) Z) ?_;exact⟨sz Z,λp f g=>k _ _ g.sm g.at_⟩
def G6(K:PySem.W.Frag)(t:Adr):Sp:=λvs H Q _=>∃(o a:Addr) (h:Bool) (r:e7),vs=[.ref o,.ref a]/\Po t H o h/\aH K H a (r.map V.int)/\(r.length=2\/r.length=4)/\bp r/\∀p H',bz H p (.lst ((cf h r).map V.int)) H'->Q (.ref p) H'
def OT (T:Txt w K mg t):cW P w K mg base t.di "units_in" 3 t.zg t.wI ["self", "row"] (G6 K t):=by
 refine⟨T.iW,T.MF,T.To,T.Uk.okQ Jl (λvs H Q E h=>by obtain⟨o,a,h,r,rfl,_⟩:=h;rfl) λ_ _ _ _ H vs Q E e h=>?_⟩;obtain⟨o,a,h,r,rfl,po,p,n,hb,k⟩:=h;have U:=e.units;refine⟨_,(ai (aq (hJ rfl (dG.of (fns:=(am jK).names) (N:=["self", "row"]) (Nc:=["at", "self", "row"]) (nv:=1) (caps:=[0,1]) rfl rfl (by decide +kernel)) (Bx rfl T.n_range (ad ag (ad (bf (U2 K) T.n_len Ve (ad (aa 1) ae)) (ad ag ae)))) (λ_ _ _ _=>(bj (i:=0) (show List.Nodup (["at", "self", "row"]:List Str) by decide +kernel) rfl (Or.inl rfl) (Or.inr rfl))) (λ_ _ _ _=>gZ) (λ_ _ _ _=>(aW (uG T) e (ad (fA (OU T) e (aa 1) (ad (fw (U4 K) (aa 2) (dO (aa 0)) (dO (aE (U0 K) (aa 0) ag))) ae)) (ad (db T.RV) ae))))))),?_⟩;refine aS (.inl p) ?_;refine⟨r.length,2,by rw[U9];rfl,by lia,by decide,by decide,?_⟩;have J:(cf h r).length=(r.length+(2-1))/2:=by
  rcases n with l|l
  ·obtain⟨x,y,rfl⟩:=mJ l;simp[cf]
  ·obtain⟨x,y,z,v,rfl⟩:=nY l;simp[cf]
 refine Rg (cs:=[some (.ref o),some (.ref a)]) ((cf h r).map V.int) (by rw[U9,J]) (cQ (by lia)) (λi y W N g f j hN=>?_) k;obtain⟨b,c,D,C,L,rfl⟩:∃b c,eZ r (some ((0:Int)+(i:Int)*((2:Nat):Int))) (some ((0:Int)+(i:Int)*((2:Nat):Int)+2))=[b,c]/\b∈r/\c∈r/\y=.int (u2 h b c):=by
  rcases n with l|l
  ·obtain⟨x,z,rfl⟩:=mJ l;have:i=0:=by simp at g;lia
   subst this;cases f;exact⟨x,z,rfl,by simp,by simp,rfl⟩
  ·obtain⟨x,z,v,u,rfl⟩:=nY l;have:i=0\/i=1:=by simp at g;lia
   rcases this with rfl|rfl
   ·cases f;exact⟨x,z,rfl,by simp,by simp,rfl⟩
   ·cases f;exact⟨v,u,rfl,by simp,by simp,rfl⟩
 obtain⟨dx,ho⟩:=po.mono j;refine bL o dx _ Z ho Z ?_;refine⟨_,Z,_,Z,_,j.seq p,λI M d=>?_⟩;rw[gL,D]at d;refine⟨o,I,h,b,c,Z,⟨dx,d.sm _ _ ho⟩,d.at_,λF S G s=>?_⟩;have O:=hb b C;have R:=hb c L;have Y:(2:Int) ^ 8=256:=by decide
 refine⟨F,if h then [b,c] else [c,b],8,rfl,.of s,?_,by decide,by cases h<;>simp,?_⟩
 ·intro q m;cases h<;>simp at m<;>rcases m with rfl|rfl<;>lia
 ·have B:cz 8 (if h then [b,c] else [c,b])=u2 h b c:=by cases h<;>simp[cz,u2]
  rw[B];exact hN _ (d.sm.trans G)
theorem Gh(h:Bool):∀r:e7,r.length=2\/r.length=4->(cf h r).length<=2
 | [_,_],_=>by simp[cf]
 | [_,_,_,_],_=>by simp[cf]
def AE(K:PySem.W.Frag)(t:Adr):Sp:=λvs H Q _=>∃(o a:Addr) (h:Bool) (r:e7),vs=[.ref o,.ref a,.int 0]/\Po t H o h/\aH K H a (r.map V.int)/\bp r/\r.length<=1000/\(∀n,eR h r=some n->∀p H',bz H p (.tup [.int n,.int 0]) H'->Q (.ref p) H')/\(eR h r=none->∀H',aj H H'->Q .non H')
def LJ (T:Txt w K mg t):bN P w K mg base cn 5 t.sI t.oG ["self", "row", "page"] (AE K t):=by
 refine T.Uj.okQ Bf (λvs H Q E h=>by obtain⟨o,a,h,r,rfl,_⟩:=h;rfl) λ_ _ _ _ H vs Q E d h=>?_;obtain⟨o,a,h,r,rfl,po,j,hb,y,k1,k2⟩:=h;have B:=d.units;refine⟨_,(ah (aD (aw (uQ (K:=K) rfl) (bf (U2 K) T.n_len Ve (ad (aa 1) ae)) (bR (ad ag (ad ag ae))) (by with_unfolding_all rfl)) (ai (aq bW)) aG)
  (ah (aF (i:=3) Bf.nd rfl (.inl rfl) (aW (Os T) d (ad (fA (OT T) d (aa 0) (ad (aa 1) ae)) ae)))
  (ai (aq (i9 (aw gJ (aa 3) bW (av _)) bW (bR (ad (aa 3) (ad (aa 2) ae)))))))),?_⟩
 refine aS (.inl j) ?_;refine⟨sz Z,λz v b=>?_⟩;refine gR (.inr b.tup) Z Z ?_;have g:bG (.int ((r.map V.int).length:Int)) [V.int 2,V.int 4]=decide (r.length=2\/r.length=4):=by
  rw[U9,We];simp[bG,dh];lia
 refine ak (λe=>?_) (λe=>?_)
 ·have e:(!bG (.int ((r.map V.int).length:Int)) [V.int 2,V.int 4])=true:=e;rw[g]at e;have c:¬(r.length=2\/r.length=4):=by simpa using e
  exact k2 (X8 c) _ b.sm
 have e:¬(!bG (.int ((r.map V.int).length:Int)) [V.int 2,V.int 4])=true:=e;rw[g]at e;have c:r.length=2\/r.length=4:=by simp at e;lia
 have k:eR h r=ik (cf h r):=X9 c;obtain⟨dx,ho⟩:=po.mono b.sm;refine bL o dx _ Z ho Z ?_;refine dl o a h r Z ⟨dx,ho⟩ (b.sm.seq j) c hb (λm u f=>?_);refine⟨m,cf h r,Z,f.lst,Gh h r c,λx s=>?_⟩;have sA:=b.sm.trans (f.sm.trans s);rw[k]at k1 k2;cases es:ik (cf h r) with
 | none=>exact k2 es _ sA
 | some n=>exact⟨sz rfl,λp l q=>k1 n es p l (q.after sA)⟩
def Df (T:Txt w K mg t):fe P w K mg base t.di "whole" 5 t.sI t.oG ["self", "row", "page"] [] (AE K t) :=
 ⟨T.iW,T.ME,⟨_,T.Tn,.nil⟩,LJ T⟩
def iU(h:Bool)(r:e7):Option (e7):=(iT h).find? λf=>(eR h (r++f)).isSome
def AO(K:PySem.W.Frag)(t:Adr):Sp:=λvs H Q _=>∃(o a:Addr) (h:Bool) (r:e7),vs=[.ref o,.ref a,.int 0]/\Po t H o h/\aH K H a (r.map V.int)/\bp r/\r.length<=900/\(∀f,iU h r=some f->∀p H',bz H p (.lst (f.map V.int)) H'->Q (.ref p) H')/\(iU h r=none->∀H',aj H H'->Q .non H')
def rl(t:Adr)(h:Bool):List Addr:=if h then [t.a_FILLS_0_0,t.a_FILLS_0_1,t.a_FILLS_0_2,t.a_FILLS_0_3,t.a_FILLS_0_4] else [t.a_FILLS_1_0,t.a_FILLS_1_1,t.a_FILLS_1_2,t.a_FILLS_1_3,t.a_FILLS_1_4]
def QH(T:Txt w K mg t)(h:Bool){i:Nat}{x:V}(hx:((rl t h).map V.ref)[i]? = some x):∃b f,x=.ref b/\(iT h)[i]? = some f/\∀H,bw K H b (f.map V.int):=by
 cases h with
 | true =>
  match i,hx with
  | 0,hx=>cases hx;exact⟨_,_,Z,Z,T.q_FILLS_0_0⟩
  | 1,hx=>cases hx;exact⟨_,_,Z,Z,T.q_FILLS_0_1⟩
  | 2,hx=>cases hx;exact⟨_,_,Z,Z,T.q_FILLS_0_2⟩
  | 3,hx=>cases hx;exact⟨_,_,Z,Z,T.q_FILLS_0_3⟩
  | 4,hx=>cases hx;exact⟨_,_,Z,Z,T.q_FILLS_0_4⟩
 | false =>
  match i,hx with
  | 0,hx=>cases hx;exact⟨_,_,Z,Z,T.q_FILLS_1_0⟩
  | 1,hx=>cases hx;exact⟨_,_,Z,Z,T.q_FILLS_1_1⟩
  | 2,hx=>cases hx;exact⟨_,_,Z,Z,T.q_FILLS_1_2⟩
  | 3,hx=>cases hx;exact⟨_,_,Z,Z,T.q_FILLS_1_3⟩
  | 4,hx=>cases hx;exact⟨_,_,Z,Z,T.q_FILLS_1_4⟩
theorem DJ{α:Type}{p:α->Bool}:∀ {l:List α} {i:Nat} {f:α},l[i]? = some f->(∀g∈l.take i,p g=false)->p f=true->l.find? p=some f
 | a::r,0,f,h,_,hp=>by cases h;rw[VS,hp]
 | a::r,i+1,f,h,hn,hp=>by
  rw[VS,hn a (by simp)];exact DJ (l:=r) (i:=i) h (λg b=>hn g (by simp[b])) hp
def LS (T:Txt w K mg t):bN P w K mg base cn 6 t.sK t.oI ["self", "row", "page"] (AO K t):=by
 refine T.Up.okQ Bg (λvs H Q E h=>by obtain⟨o,a,h,r,rfl,_⟩:=h;rfl) λ_ _ _ _ H vs Q E s h=>?_;obtain⟨o,a,h,r,rfl,po,M,hb,Y,k1,k2⟩:=h;have hu:=s.units;refine⟨_,(ah (dy PassesOwn.never Z (JV (K:=K) Z (J3 (K:=K) Z Z T.DV Z T.Ea (bq (K:=K) Z (aa 0)))) (bj (i:=3) Bg.nd Z (.inl Z)) (ai (aD (aw qW (d8 (Df T) s (aa 0) (ad (aE (U0 K) (aa 1) (cw (U5 K) T.n_list VL (ad (aa 3) ae))) (ad (aa 2) ae))) bW (av _)) (ai (aq (cw (U5 K) T.n_list VL (ad (aa 3) ae)))) aG)))
  (ai (aq bW))),?_⟩
 obtain⟨dx,ho⟩:=id po;refine cq o _ dx _ _ Z ho T.iW T.uh Z ?_;obtain⟨F,eF,qF⟩:∃F,iA [(t.h_FILLS_0, "high",t.a_FILLS_0),(t.h_FILLS_1, "low",t.a_FILLS_1)] (hW h)=some F/\∀H,bw K H F ((rl t h).map V.ref):=by
  cases h with
  | true=>exact⟨_,by simp[iA,hW],T.q_FILLS_0⟩
  | false=>exact⟨t.a_FILLS_1,by simp[iA,hW,show ¬(("high" : Str) = "low") by decide],T.q_FILLS_1⟩
 refine aU _ F Z eF ?_;have eL:((rl t h).map V.ref).length=(iT h).length:=by cases h<;>rfl
 refine cM rfl ⟨_,qF _⟩ (Qq (K:=K) (a:=F) (xs:=(rl t h).map V.ref) (λi σ v=>aj H v/\(∀g∈(iT h).take i,(eR h (r++g)).isSome=false)/\∃j,σ=[some (.ref o),some (.ref a),some (.int 0),j]) ⟨aj.refl _,λg z=>by simp at z,_,rfl⟩ (λi σ v _ z=>qF _) ?_ ?_)
 ·rintro i x σ N hx ⟨e,d,j,rfl⟩;obtain⟨b,f,rfl,hf,u⟩:=QH T h hx;have m:=Vo hf;have O:=DK m;refine bL o dx _ Z (e _ _ ho) Z ?_;refine aS (.inr (u _)) (λU R p=>?_);have q:=e.trans p.sm;refine gf (q.seq M) p.lst (cQ (by rw[U9,U9];lia)) (λB W l=>?_);rw[<- Vj]at l;have k:=q.trans l.sm;refine⟨o,B,h,r++f,rfl,⟨dx,k _ _ ho⟩,l.lst,hb.app (Qz m),by rw[Vc];lia,λn hw S L G=>?_,λhw L D=>?_⟩
  ·have y:iU h r=some f:=DJ hf d (by rw[hw];rfl);exact⟨_,.inr (u _),λI C J=>k1 f y I C (J.after (k.trans G.sm))⟩
  ·refine⟨k.trans D,λg c=>?_,_,Z⟩;rw[Xu,hf]at c;rcases Vm.mp c with c|c
   ·exact d g c
   ·have:g=f:=by simpa using c
    rw[this,hw];rfl
 ·rintro σ N ⟨e,d,j,rfl⟩;rw[eL,Vw]at d;exact k2 (V3.mpr λg c=>by rw[d g c];simp) _ e
def OW (T:Txt w K mg t):fe P w K mg base t.di "fill" 6 t.sK t.oI ["self", "row", "page"] [] (AO K t) :=
 ⟨T.iW,T.MI,⟨_,T.Ts,.nil⟩,LS T⟩
def zW(h:Bool)(m:Int)(r:e7):cf h (ub h m++r)=m::cf h r:=by
 have e:m/256*256+m%256=m:=by lia
 cases h
 ·show u2 false (m%256) (m/256)::cf false r=_;unfold u2;rw[X8 (by simp),e]
 ·show u2 true (m/256) (m%256)::cf true r=_;unfold u2;rw[X9 rfl,e]
def KC(h:Bool)(n:Int):(fU h n).length=if n<65536 then 2 else 4:=by
 unfold fU dn;by_cases c:n<65536
 ·rw[X9 c,X9 c,q9];rfl
 ·rw[X8 c,X8 c,q9];rfl
def Gm(h:Bool){u:Int}(a:0<=u/\u<65536):bp (ub h u):=by
 intro b hb;unfold ub at hb;cases h<;>simp at hb<;>lia
def KE(h:Bool){n:Int}(hs:Sg n):bp (fU h n):=by
 intro b hb;unfold fU at hb;obtain⟨u,a,hb⟩:=List.mem_flatMap.mp hb;exact Gm h (Gi hs a) b hb
def N4(h:Bool){u:Int}(c:55296<=u)(b:u<56320):iU h (ub h u)≠none:=by
 intro z;have z:=V3.mp z;have a:cf h (ub h u++ub h 56320)=[u,56320]:=by
  have:=zW h 56320 [];rw[VI]at this;rw[zW,this];rfl
 have m:ub h 56320∈iT h:=by cases h<;>decide
 refine z _ m ?_;unfold eR;rw[X9 (.inr (by rw[Vc,tw,tw])),a];have:ik [u,56320]=some (65536+((u-55296)*1024+(56320-56320))):=X9 (by lia);rw[this]
 rfl
def Rc(f:Int)(r:e7):dR ((f::r).map V.int) (some 1) none=r.map V.int:=by
 rw[gL]
 congr 1
 exact rE (f::r) 1
def HK:Sp:=λvs H Q _=>∃f,vs=[.int f]/\Q (.int (lb f)) H
def Ot (T:Txt w K mg t):bC P w K mg base "length_behind" 1 t.yD t.vW ["first"] HK:=by
 refine⟨T.PY,T.Ff.kp,T.SD,T.Ff.okQ IH (λvs H Q E h=>by obtain⟨f,rfl,_⟩:=h;rfl) λ_ _ _ _ H vs Q E i h=>?_⟩;obtain⟨f,rfl,k⟩:=h;have j:=i.units;refine⟨_,(ah (aD (aw cZ (aa 0) ag (av _)) (ai (aq ag)) aG)
  (ah (aD (bY (dw (aw cZ (aa 0) ag (av _)) (dJ (aw fF (aa 0) ag (av _))))) (ai (aq ag)) aG)
  (ah (aD (aw cZ (aa 0) ag (av _)) (ai (aq ag)) aG)
  (ah (aD (aw cZ (aa 0) ag (av _)) (ai (aq ag)) aG)
  (ai (aq ag)))))),?_⟩
 have a:∀ {n:Int},n=lb f->Q (.int n) H:=λe=>e ▸ k;refine ak (λe=>a ?_) (λe=>?_)
 ·simp at e;unfold lb;rw[X9 (by lia)]
 refine ak (λb=>?_) (λb=>?_)
 ·exact a (by simp at e b;unfold lb;rw[X8 (by lia),X9 (by lia)])
 refine ak (λc=>?_) (λc=>?_)
 ·exact a (by simp at e b c;unfold lb;rw[X8 (by lia),X9 (by lia)])
 refine ak (λd=>?_) (λd=>?_)
 ·exact a (by simp at e b c d;unfold lb;rw[X8 (by lia),X8 (by lia),X9 (by lia)])
 refine ak (λg=>?_) (λg=>?_)
 ·exact a (by simp at e b c d g;unfold lb;rw[X8 (by lia),X8 (by lia),X8 (by lia),X9 (by lia)])
 ·exact a (by simp at e b c d g;unfold lb;rw[X8 (by lia),X8 (by lia),X8 (by lia),X8 (by lia)])
def Ic(K:PySem.W.Frag):Sp:=λvs H Q _=>∃(a:Addr) (f:Int) (r:e7) (p:Nat),vs=[.ref a,.int (p:Int)]/\aH K H a ((f::r).map V.int)/\∀b H',aj H H'->bw K H' b [.int (dL f p),.int (eh f p)]->Q (.ref b) H'
def C7 (T:Txt w K mg t):bC P w K mg base "bounds_behind" 1 t.yS t.wp ["row", "place"] (Ic K):=by
 refine⟨T.Qg,T.Fv.kp,T.SV,T.Fv.okQ IU (λvs H Q E h=>by obtain⟨a,f,r,p,rfl,_⟩:=h;rfl) λ_ _ _ _ H vs Q E g h=>?_⟩;obtain⟨a,f,r,p,rfl,m,k⟩:=h;have l:=g.units;refine⟨_,(ah (aD (aw (bh (K:=K) Z l) (aa 1) ag (av _)) (ai (aq (J4 (K:=K) Z T.Q5 Z T.RI (ay (U3 K) (aa 0) ag (λ_ _=>rfl)) (bR (ad (db T.xY) (ad (db T.D8) ae)))))) aG)
  (ai (aq (bR (ad (db T.xY) (ad (db T.D8) ae)))))),?_⟩
 refine ak (λe=>?_) (λe=>?_)
 ·have d:p=1:=by have:=Yb e;lia
  subst d;refine aU _ (.int f) (.inl m) (aA (j:=0) Z) ?_;refine⟨sz Z,λi c b=>?_⟩;refine gS f Z ?_;by_cases c1:f=224
  ·subst c1;exact k _ _ b.sm (T.q_SECONDS_0 c)
  by_cases c2:f=237
  ·subst c2;exact k _ _ b.sm (T.q_SECONDS_1 c)
  by_cases c3:f=238
  ·subst c3;exact k _ _ b.sm (T.q_SECONDS_2 c)
  by_cases c4:f=240
  ·subst c4;exact k _ _ b.sm (T.q_SECONDS_3 c)
  by_cases c5:f=244
  ·subst c5;exact k _ _ b.sm (T.q_SECONDS_4 c)
  have e:n6 [(224,t.a_SECONDS_0),(237,t.a_SECONDS_1),(238,t.a_SECONDS_2),(240,t.a_SECONDS_3),(244,t.a_SECONDS_4)] f=none:=by
   simp[n6,Ne.symm c1,Ne.symm c2,Ne.symm c3,Ne.symm c4,Ne.symm c5]
  rw[e];refine k _ _ b.sm ?_;rw[dL,eh,X9 rfl,X9 rfl,gG,gH,X8 c1,X8 c4,X8 c2,X8 c3,X8 c5];exact b.tup
 ·refine⟨sz Z,λi c b=>?_⟩;have d:p≠1:=λz=>by subst z;exact e Z
  refine k _ _ b.sm ?_;rw[dL,eh,X8 d,X8 d];exact b.tup
def HP(K:PySem.W.Frag):Sp:=λvs H Q _=>∃(a:Addr) (f:Int) (r:e7),vs=[.ref a]/\aH K H a ((f::r).map V.int)/\r.length<=1000/\∀H',aj H H'->(jt f r->Q (.bl true) H')/\(¬jt f r->Q (.bl false) H')
def Oz (T:Txt w K mg t):bC P w K mg base "fits_behind" 2 t.yN t.wg ["row"] (HP K):=by
 refine⟨T.Qa,T.Fo.kp,T.SQ,T.Fo.okQ tP (λvs H Q E h=>by obtain⟨a,f,r,rfl,_⟩:=h;rfl) λ_ _ _ _ H vs Q E v h=>?_⟩;obtain⟨a,f,r,rfl,s,J,k⟩:=h;have L:=v.units;refine⟨_,(ah (dy PassesOwn.never Z (By Z T.n_range (ad ag (ad (bf (U2 K) T.n_len Ve (ad (aa 0) ae)) ae))) (bj (i:=1) tP.nd Z (.inl Z)) (ah (aF (i:=2) tP.nd Z (.inl Z) (aW (C7 T) v (ad (aa 0) (ad (aa 1) ae))))
  (ai (aD (fR (nJ eI eI (ay (U3 K) (aa 2) ag (λ_ _=>rfl)) (ay (U3 K) (aa 0) (aa 1) (λ_ _=>rfl)) (ay (U3 K) (aa 2) ag (λ_ _=>rfl)))) (ai (aq dQ)) aG))))
  (ai (aq dQ))),?_⟩
 refine aS (.inl s) ?_;have hL:((List.map V.int (f::r)).length:Int)=(r.length:Int)+1:=by simp
 refine aU 1 _ rfl ⟨by lia,by lia,by lia,by lia⟩ ?_;have hN:(((List.map V.int (f::r)).length:Int)-1).toNat=r.length:=by lia
 rw[hN];refine vf (lo:=1) (n:=r.length) (λi σ G=>aj H G/\(∀j x,j<i->r[j]? = some x->dL f (j+1)<=x/\x<=eh f (j+1))/\∃m g,σ=[some (.ref a),m,g])
  ⟨aj.refl _,λj x z=>Ya z (W3 _),_,_,rfl⟩ ?_ ?_
 ·rintro i σ C D ⟨d,l,m,g,rfl⟩;obtain⟨x,hx⟩:∃x,r[i]? = some x:=⟨_,VG D⟩;have B:(1:Int)+(i:Int)=((i+1:Nat):Int):=by lia
  refine⟨a,f,r,i+1,by rw[<- B];rfl,d.seq s,λb F u hb=>?_⟩;refine aU _ (.int (dL f (i+1))) (.inr hb) (aA (j:=0) Z) ?_;have q:c8 (List.map V.int (f::r)) (1+(i:Int))=some (.int x):=by
   rw[B];exact aA (by rw[VM,List.getElem?_cons_succ,Vf,hx];rfl)
  refine aU _ (.int x) (.inl (u.seq (d.seq s))) q ?_;have bad:¬(dL f (i+1)<=x/\x<=eh f (i+1))->Q (.bl false) F:=λz=>(k _ (d.trans u)).2 λy=>z (y i x hx);refine ak (λe=>?_) (λe=>?_)
  ·refine aU _ (.int (eh f (i+1))) (.inr hb) (aA (j:=1) Z) ?_;refine ak (λp=>?_) (λp=>?_)
   ·exact bad λz=>by simp at p;lia
   ·refine⟨d.trans u,λj y I o=>?_,_,_,Z⟩;by_cases c:j<i
    ·exact l j y c o
    ·have:j=i:=by lia
     subst this;rw[hx]at o;cases o;have:=Yb e;simp at p;lia
  ·exact bad λz=>e (Yc z.1)
 ·rintro σ C ⟨d,l,m,g,rfl⟩;exact (k _ d).1 λi x hx=>l i x (Vh.mp hx).1 hx
def HG(K:PySem.W.Frag):Sp:=λvs H Q _=>∃(a:Addr) (f:Int) (r:e7),vs=[.ref a]/\aH K H a ((f::r).map V.int)/\r.length<=1000/\∀H',aj H H'->(jw f r->Q (.int (lb f-((r.length:Int)+1))) H')/\(¬jw f r->Q .non H')
def C4 (T:Txt w K mg t):bC P w K mg base "missing" 3 t.yC t.vV ["row"] (HG K):=by
 refine⟨T.PX,T.Fe.kp,T.SC,T.Fe.okQ A6 (λvs H Q E h=>by obtain⟨a,f,r,rfl,_⟩:=h;rfl) λ_ _ _ _ H vs Q E b h=>?_⟩;obtain⟨a,f,r,rfl,c,g,k⟩:=h;have m:=b.units;refine⟨_,(ah (aF (i:=1) A6.nd Z (.inl Z) (aE dB (aW (Ot T) b (ad (ay (U3 K) (aa 0) ag (λ_ _=>rfl)) ae)) (bf (U2 K) T.n_len Ve (ad (aa 0) ae))))
  (ah (aD (bY (dw (aw cZ (aa 1) ag (av _)) (dJ (fR (fz (aW (Oz T) b (ad (aa 0) ae))))))) (ai (aq bW)) aG)
  (ai (aq (aa 1))))),?_⟩
 refine aU _ (.int f) (.inl c) (aA (j:=0) Z) ?_;refine gS f Z ?_;refine aS (.inl c) ?_;have hL:((List.map V.int (f::r)).length:Int)=(r.length:Int)+1:=by simp
 refine ak (λe=>?_) (λe=>?_)
 ·exact (k _ (aj.refl _)).2 λz=>by have:=Yb e;have:=z.1;lia
 ·have n:¬(lb f-((List.map V.int (f::r)).length:Int)<0):=λz=>e (Yc z);refine bL a f r Z c g (λl d=>⟨λy=>?_,λy=>?_⟩)
  ·have q:=(k _ d).1 ⟨by lia,y⟩;rw[<- hL]at q;exact q
  ·exact (k _ d).2 λz=>y z.2
def AN(K:PySem.W.Frag):Sp:=λvs H Q _=>∃(o a:Addr) (b:e7),vs=[.ref o,.ref a,.int 0]/\aH K H a (b.map V.int)/\b.length<=1000/\(m6 b->∀p H',bz H p (.lst ((q8 b).map V.int)) H'->Q (.ref p) H')/\(¬m6 b->∀H',aj H H'->Q .non H')
def LU (T:Txt w K mg t):bN P w K mg base cn 4 t.sM t.oK ["self", "row", "page"] (AN K):=by
 refine T.Ur.okQ Bh (λvs H Q E h=>by obtain⟨o,a,m,rfl,_⟩:=h;rfl) λ_ _ _ _ H vs Q E e h=>?_;obtain⟨o,a,m,rfl,d,u,k1,k2⟩:=h;have G:=e.units;refine⟨_,(ah (aD (fR (ip (K:=K) Z (aa 1))) (ai (aq (aM (ad ag ae)))) aG)
  (ah (aF (i:=3) Bh.nd rfl (.inl rfl) (aW (C4 T) e (ad (aa 1) ae)))
  (ah (aD (aw gJ (aa 3) bW (av _)) (ai (aq bW)) aG)
  (ai (aq (hJ rfl (dG.of (fns:=(am jL).names) (N:=["self", "row", "page", "lack"]) (Nc:=["place", "row"]) (nv:=1) (caps:=[1]) rfl rfl (by decide +kernel)) (By rfl T.n_range (ad (bf (U2 K) T.n_len Ve (ad (aa 1) ae)) (ad (aE (U0 K) (bf (U2 K) T.n_len Ve (ad (aa 1) ae)) (aa 3)) ae))) (λ_ _ _ _=>(bj (i:=0) (show List.Nodup (["place", "row"]:List Str) by decide +kernel) rfl (Or.inl rfl) (Or.inr rfl))) (λ_ _ _ _=>gZ) (λ_ _ _ _=>(ay (U3 K) (aW (C7 T) e (ad (aa 1) (ad (aa 0) ae))) ag (λ_ _=>rfl))))))))),?_⟩
 refine aS (.inl d) ?_;cases m with
 | nil =>
  refine iw ?_;exact⟨sz Z,λp D g=>k1 trivial p D g⟩
 | cons f r =>
  refine CF ?_;refine bL a f r rfl d (by simp at u;lia) (λI c=>⟨λy=>?_,λy=>?_⟩)
  ·refine aS (.inl (c.seq d)) ?_;refine aS (.inl (c.seq d)) ?_;have hL:((List.map V.int (f::r)).length:Int)=(r.length:Int)+1:=by simp
   have hb:=qL f;have J:=y.1;refine bi rfl ⟨by lia,by lia,by lia,by lia⟩ ?_;have z:(((List.map V.int (f::r)).length:Int)+(lb f-((r.length:Int)+1))-((List.map V.int (f::r)).length:Int)).toNat=(lb f-((r.length:Int)+1)).toNat:=by lia
   rw[z];refine rV ((q8 (f::r)).map V.int) (by rw[U9,q8,U9,V4]) (cQ (by lia)) (λi v k N n l x hN=>?_) λp k s=>k1 y p k (s.after c);have B:v=.int (dL f (r.length+1+i)):=by
    rw[Vf,q8,Vf,W7 n]at l;cases l
    rfl
   subst B;have C:((List.map V.int (f::r)).length:Int)+(i:Int)=((r.length+1+i:Nat):Int):=by lia
   refine⟨a,f,r,r.length+1+i,by rw[<- C];rfl,x.seq (c.seq d),λb F q hb=>?_⟩;exact⟨_,.int (dL f (r.length+1+i)),.inr hb,aA (j:=0) Z,hN _ q⟩
  ·exact k2 y _ c
def OZ (T:Txt w K mg t):fe P w K mg base t.f9 "fill" 4 t.sM t.oK ["self", "row", "page"] [] (AN K) :=
 ⟨T.sj,T.MK,⟨_,T.Tv,.nil⟩,LU T⟩
def je(n:Nat):Int:=if n=1 then 192 else if n=2 then 224 else 240
def gM:e7->Int
 | []=>0
 | [f]=>f
 | f::r=>cz 6 ((f-je r.length)::r.map λb=>b-128)
def Ia(K:PySem.W.Frag):Sp:=λvs H Q _=>∃(a:Addr) (b:e7),vs=[.ref a]/\aH K H a (b.map V.int)/\gy b/\∀H',aj H H'->Q (.int (gM b)) H'
def Gc{f x:Int}{r:e7}(h:gy (f::x::r)):(∀y∈x::r,128<=y/\y<=191)/\0<=f-je (r.length+1)/\f-je (r.length+1)<64/\r.length<=2/\(∃v,[0,0,192,224,240][r.length+2]? = some v/\v=je (r.length+1)):=by
 have e:=qL f;obtain⟨⟨g,b⟩,c⟩:jw f (x::r)/\((x::r).length:Int)+1=lb f:=h;refine⟨((DI f _).mp b).1,?_⟩;have a:(r.length:Int)+2=lb f:=by simp at c;lia
 have d:r.length<=2:=by lia
 unfold lb at a;have:r.length=0\/r.length=1\/r.length=2:=by lia
 rcases this with z|z|z<;>rw[z]at a ⊢<;>simp only [je]<;>(repeat' split at a)<;>first|lia|exact⟨by simp;lia,by simp;lia,by lia,_,rfl,rfl⟩
def OD (T:Txt w K mg t):bC P w K mg base "carried" 3 t.yR t.wn ["row"] (Ia K):=by
 refine⟨T.Qf,T.Fu.kp,T.SU,T.Fu.okQ IT (λvs H Q E h=>by obtain⟨a,p,rfl,_⟩:=h;rfl) λ_ _ _ _ H vs Q E q h=>?_⟩;obtain⟨a,p,rfl,c,hw,k⟩:=h;have G:=q.units;refine⟨_,(ah (aD (aw (bh (K:=K) Z G) (bf (U2 K) T.n_len Ve (ad (aa 0) ae)) ag (av _)) (ai (aq (ay (U3 K) (aa 0) ag (λ_ _=>rfl)))) aG)
  (ai (aq (aW (uG T) q (ad (aE (U0 K) (aM (ad (aE dB (ay (U3 K) (aa 0) ag (λ_ _=>rfl)) (ay (U3 K) (fS (v:=.ref t.sN) rfl T.RM rfl) (bf (U2 K) T.n_len Ve (ad (aa 0) ae)) (λ_ _=>rfl))) ae)) (hJ rfl (dG.of (fns:=(am jJ).names) (N:=["row"]) (Nc:=["byte"]) (nv:=1) (caps:=[]) rfl rfl (by decide +kernel)) (d7 (K:=K) rfl (fw (U4 K) (aa 0) (dO ag) hG)) (λ_ _ _ _=>(bj (i:=0) (show List.Nodup (["byte"]:List Str) by decide +kernel) rfl (Or.inl rfl) (Or.inr rfl))) (λ_ _ _ _=>gZ) (λ_ _ _ _=>(aE dB (aa 0) (db T.xY))))) (ad (db T.RW) ae)))))),?_⟩
 refine aS (.inl c) ?_
 match p,c,hw,k with
 | [],_,hw,_=>exact hw.elim
 | [f],c,hw,k =>
  exact⟨_,.int f,.inl c,aA (j:=0) Z,k _ (aj.refl _)⟩
 | f::x::r,c,hw,k =>
  obtain⟨C,F,B,L,v,g,s⟩:=Gc hw;have hL:((List.map V.int (f::x::r)).length:Int)=((r.length+2:Nat):Int):=by simp;lia
  refine aU _ (.int f) (.inl c) (aA (j:=0) Z) ?_;refine aS (.inl c) ?_;have o:c8 (([0,0,192,224,240]:e7).map V.int) ((List.map V.int (f::x::r)).length:Int)=some (.int v):=by
   rw[hL];exact aA (by rw[Vf,g];rfl)
  refine aU _ (.int v) (.inr (T.J7 _)) o ?_;refine⟨sz Z,λU I l=>?_⟩;refine⟨_,Z,_,l.sm.seq c,λJ S e=>?_⟩;rw[Rc]at e;refine cM Z ⟨_,e.lst⟩ ?_;refine xj (((x::r).map λb=>b-128).map V.int) (by simp) e.lst (cQ (by simp;lia)) (λi y v z N d g R hN=>?_) λM z m=>?_
  ·rw[Vf]at d;obtain⟨y,n,rfl⟩:=Wr.mp d;rw[Vf,Vf,n]at g;cases g;exact hN _ (aj.refl _)
  refine gf ((e.sm.trans m.sm).seq l.lst) m.lst (cQ (by simp;lia)) (λD O u=>?_);refine⟨D,(f-v)::(x::r).map λb=>b-128,6,rfl,u.lst,?_,by decide,by simp;lia,?_⟩
  ·intro y d;rcases Vr.mp d with rfl|d
   ·rw[s];exact⟨F,B⟩
   ·obtain⟨b,hb,rfl⟩:=VC.mp d;have:=C b hb;exact⟨by lia,show b-128<64 by lia⟩
  ·rw[s];exact k _ (l.sm.trans (e.sm.trans (m.sm.trans u.sm)))
def AF(K:PySem.W.Frag):Sp:=λvs H Q _=>∃(o a:Addr) (b:e7),vs=[.ref o,.ref a,.int 0]/\aH K H a (b.map V.int)/\b.length<=1000/\(gy b->∀p H',bz H p (.tup [.int (gM b),.int 0]) H'->Q (.ref p) H')/\(¬gy b->∀H',aj H H'->Q .non H')
def LK (T:Txt w K mg t):bN P w K mg base cn 4 t.sL t.oJ ["self", "row", "page"] (AF K):=by
 refine T.Uq.okQ Jp (λvs H Q E h=>by obtain⟨o,a,i,rfl,_⟩:=h;rfl) λ_ _ _ _ H vs Q E c h=>?_;obtain⟨o,a,i,rfl,d,j,k1,k2⟩:=h;have k:=c.units;refine⟨_,(ah (aD (bY (fu (ip (K:=K) Z (aa 1)) (fQ (aw (bh (K:=K) Z k) (aW (C4 T) c (ad (aa 1) ae)) ag (av _))))) (ai (aq (bR (ad (aW (OD T) c (ad (aa 1) ae)) (ad (aa 2) ae))))) aG)
  (ai (aq bW))),?_⟩
 refine aS (.inl d) ?_;cases i with
 | nil=>exact k2 id _ (aj.refl _)
 | cons f r =>
  refine bL a f r rfl d (by simp at j;lia) (λn b=>⟨λy=>?_,λy=>?_⟩)
  ·refine ak (λe=>?_) (λe=>?_)
   ·have hw:gy (f::r):=⟨y,by have:=Yb e;lia⟩;refine⟨a,f::r,Z,b.seq d,hw,λq l=>?_⟩;exact⟨sz Z,λp m g=>k1 hw p m (g.after (b.trans l))⟩
   ·exact k2 (λz=>e (Yc (by have:=z.2;lia))) _ b
  ·refine⟨_,_,bA.non,bA.int 0,Z,Z,?_⟩;exact k2 (λz=>y z.1) _ b
def OX (T:Txt w K mg t):fe P w K mg base t.f9 "whole" 4 t.sL t.oJ ["self", "row", "page"] [] (AF K) :=
 ⟨T.sj,T.MJ,⟨_,T.Tu,.nil⟩,LK T⟩
end
end My
namespace My
open PySem L2
def cS:e7->Int->Option Nat
 | [],_=>none
 | m::ms,n=>if m=n then some 0 else (cS ms n).map (· + 1)
def iz{ns:e7}{n:Int}:cS ns n=none ↔ n∉ns:=by
 induction ns with
 | nil=>simp[cS]
 | cons m ms ih =>
  unfold cS;by_cases e:m=n
  ·simp[e]
  ·rw[X8 e];have a:¬n=m:=λz=>e z.symm;simp[ih,a]
theorem jg:∀ {ns:e7} {n:Int} {i:Nat},cS ns n=some i->ns[i]? = some n/\∀j,j<i->ns[j]? ≠ some n
 | [],n,i,h=>by cases h
 | m::ms,n,i,h=>by
  unfold cS at h;by_cases e:m=n
  ·rw[X9 e]at h;cases h;exact⟨by simp[e],λj c=>Ya c (by lia)⟩
  ·rw[X8 e]at h;obtain⟨k,d,rfl⟩:=Wr.mp h;obtain⟨a,b⟩:=jg d;refine⟨by simpa using a,λj c=>?_⟩;cases j with
   | zero=>simpa using e
   | succ j=>simpa using b j (by lia)
theorem NS(ns:e7)(n m:Int):cS (ns++[n]) m=match cS ns m with
 | some i=>some i
 | none=>if n=m then some ns.length else none:=by
 induction ns with
 | nil=>simp[cS]
 | cons a as ih =>
  rw[WV,cS,cS];by_cases e:a=m
  ·rw[X9 e,X9 e]
  ·rw[X8 e,X8 e,ih];cases cS as m with
   | some i=>rfl
   | none =>
    dsimp only [Option.map];by_cases e2:n=m
    ·rw[X9 e2,X9 e2];simp
    ·rw[X8 e2,X8 e2]
def jQ{ns:e7}{n:Int}(h:n∈ns):∃i,cS ns n=some i/\i<ns.length:=by
 cases e:cS ns n with
 | none=>exact Ya h (iz.mp e)
 | some i=>exact⟨i,rfl,(Vh.mp (jg e).1).1⟩
def ao{α:Type}(g:Int)(x y:α):α:=if g=0 then x else y
def cP(g:Int):Prop:=g=0\/g=1
def oZ{g:Int}{x y:V}(h:cP g):c8 [x,y] g=some (ao g x y):=by
 rcases h with rfl|rfl<;>rfl
def cP.flip{g:Int}(h:cP g):cP (1-g):=by
 rcases h with rfl|rfl
 ·exact .inr Z
 ·exact .inl Z
def Ix{α:Type}{g:Int}{x y:α}(h:cP g):ao (1-g) x y=ao g y x:=by
 rcases h with rfl|rfl<;>rfl
def nC{α β:Type}(f:α->β)(g:Int)(x y:α):ao g (f x) (f y)=f (ao g x y):=by
 unfold ao;split<;>rfl
def o7(O P:e7)(b:Nat):Bool:=!decide (O.getD b 0∈P)
def ic(O P:e7):List Nat:=(List.range O.length).filter (o7 O P)
def Cg{O P:e7}{b:Nat}:b∈ic O P ↔ ∃n,O[b]? = some n/\n∉P:=by
 unfold ic o7;rw[List.mem_filter,V5]
 constructor
 ·rintro⟨h,k⟩;refine⟨O[b],VG h,?_⟩;rw[WL,VG h]at k;simpa using k
 ·rintro⟨n,h,k⟩;refine⟨(Vh.mp h).1,?_⟩;rw[WL,h];simpa using k
theorem CT{f:Nat->Bool}{i:Nat}(h:∀j,j<i->f j=false)(k:f i=true):∀ {n:Nat},i<n->((List.range n).filter f).head? = some i
 | 0,z=>Ya z (by lia)
 | n+1,z=>by
  rw[List.range_succ,W8,List.head?_append];by_cases c:i<n
  ·rw[CT h k c];rfl
  ·obtain rfl:i=n:=by lia
   have e:(List.range i).filter f=[]:=by
    rw[W9];intro j a;rw[h j (V5.mp a)]
    decide
   rw[e];simp[k]
def Qx{f:Nat->Bool}{n:Nat}(h:∀j,j<n->f j=false):(List.range n).filter f=[]:=by
 rw[W9];intro j a;rw[h j (V5.mp a)]
 decide
def dj(O P:e7)(g:Int):e7:=match (ic O P).head? with
 | some b=>[254+(1-g),(b:Int)]
 | none=>[]
def dE(ns:e7):Prop:=(∀n∈ns,Sg n)/\ns.Nodup/\ns.length<=250
def pT{g:Int}{ns ms:e7}(h:dE ns)(k:dE ms):dE (ao g ns ms):=by
 unfold ao;split
 ·exact h
 ·exact k
structure Fp where
 dx:Addr
 pp:Addr
 pl:Addr
 ps:Addr
 d0:Addr
 d1:Addr
 l0:Addr
 l1:Addr
 s0:Addr
 s1:Addr
def iD(H:Hp)(d:Addr)(ns:e7):Prop:=∃kv,H d=some (.dK kv)/\∀n:Int,bJ kv (.inl n)=(cS ns n).map λi=>V.int (i:Int)
structure Tg (t:Adr) (H:Hp) (a:Addr) (f:Fp) (ns ms:e7):Prop where
 o:H a=some (.ins t.cr f.dx [("places",.ref f.pp),("lists",.ref f.pl),("shifted",.ref f.ps)])
 p:H f.pp=some (.lst [.ref f.d0,.ref f.d1])
 l:H f.pl=some (.lst [.ref f.l0,.ref f.l1])
 s:H f.ps=some (.lst [.ref f.s0,.ref f.s1])
 d0:iD H f.d0 ns
 d1:iD H f.d1 ms
 l0:H f.l0=some (.lst (ns.map V.int))
 l1:H f.l1=some (.lst (ms.map V.int))
 s0:H f.s0=some (.lst ((dj ms ns 0).map V.int))
 s1:H f.s1=some (.lst ((dj ns ms 1).map V.int))
 k0:dE ns
 k1:dE ms
section
variable {t:Adr}{H H':Hp}{a:Addr}{f:Fp}{ns ms:e7}{g:Int}
def Tg.keep(h:Tg t H a f ns ms)(k:∀c u,c∈[a,f.pp,f.pl,f.ps,f.d0,f.d1,f.l0,f.l1,f.s0,f.s1]->H c=some u->H' c=some u):Tg t H' a f ns ms:=by
 obtain⟨o,p,l,s,⟨b,d0,d⟩,⟨e,d1,g⟩,l0,l1,s0,s1,k0,k1⟩:=h;exact⟨k _ _ (by simp) o,k _ _ (by simp) p,k _ _ (by simp) l,k _ _ (by simp) s,⟨b,k _ _ (by simp) d0,d⟩,⟨e,k _ _ (by simp) d1,g⟩,k _ _ (by simp) l0,k _ _ (by simp) l1,k _ _ (by simp) s0,k _ _ (by simp) s1,k0,k1⟩
def Tg.mono(h:Tg t H a f ns ms)(k:aj H H'):Tg t H' a f ns ms:=h.keep λc u _ e=>k c u e
def Tg.dk(h:Tg t H a f ns ms)(b:cP g):iD H (ao g f.d0 f.d1) (ao g ns ms):=by
 rcases b with rfl|rfl
 ·exact h.d0
 ·exact h.d1
def Tg.ll(h:Tg t H a f ns ms)(b:cP g):H (ao g f.l0 f.l1)=some (.lst ((ao g ns ms).map V.int)):=by
 rcases b with rfl|rfl
 ·exact h.l0
 ·exact h.l1
def Tg.ss(h:Tg t H a f ns ms)(b:cP g):H (ao g f.s0 f.s1)=some (.lst ((dj (ao g ms ns) (ao g ns ms) g).map V.int)):=by
 rcases b with rfl|rfl
 ·exact h.s0
 ·exact h.s1
def Hv(K:PySem.W.Frag):Sp:=λvs H Q _=>∃(a:Addr) (ns:e7) (b:Int),vs=[.ref a,.int b]/\aH K H a (ns.map V.int)/\dE ns/\∀p H',aj H H'->H p=none->iD H' p ns->Q (.ref p) H'
def C3 (T:Txt w K mg t):bC P w K mg base "places_in" 4 t.yB t.vU ["signs", "which"] (Hv K):=by
 refine⟨T.PP,T.Fd.kp,T.SB,T.Fd.okQ qa (λvs H Q E h=>by obtain⟨a,xs,G,rfl,_⟩:=h;rfl) λ_ _ _ _ H vs Q E M h=>?_⟩;obtain⟨a,ns,G,rfl,B,⟨sg,nd,ln⟩,S⟩:=h;have J:=M.units;refine⟨_,(ah (aD (aw fF (bf (U2 K) T.n_len Ve (ad (aa 0) ae)) (db T.RK) (av _)) (ai jM) aG)
  (ah (aF (i:=2) qa.nd rfl (.inl rfl) BC)
  (ah (dy PassesOwn.never rfl (nI (K:=K) rfl rfl T.n_enumerate (ad (aa 0) ae)) (eU (K:=K) rfl rfl (bP (bj (i:=3) qa.nd rfl (.inl rfl)) (bP (bj (i:=4) qa.nd rfl (.inl rfl)) eT))) (ah (aD (bY (dw (fR (fz (aW (uH T) M (ad (aa 4) ae)))) (dJ (aw (Dt J) (aa 4) (aa 2) (by with_unfolding_all rfl))))) (ai jM) aG)
  (ai (qe J (aa 2) (aa 4) (aa 3)))))
  (ai (aq (aa 2)))))),?_⟩
 refine aS (.inl B) ?_;refine ak (λz=>?_) (λ_=>?_)
 ·have z:((ns.map V.int).length:Int) > 250:=Yb z;rw[U9]at z;lia
 refine λf H1 d=>?_;refine aU a _ rfl (d.sm.seq B) (oy (K:=K) (a:=a) (xs:=ns.map V.int) (λi σ F=>aj H F/\∃(b:List (aV × V)) (o D:Option V),F f=some (.dK b)/\b.length<=i/\(∀n:Int,bJ b (.inl n)=(cS (ns.take i) n).map λi=>V.int (i:Int))/\σ=[some (.ref a),some (.int G),some (.ref f),o,D]) ⟨d.sm,[],_,_,d.at_,by simp,(λn=>by simp[bJ,cS]),rfl⟩ (λi σ F _ z=>z.1.seq B) ?_ ?_)
 ·rintro i x p σ L H3 hx ⟨r,b,o,D,u,R,c,rfl⟩ s;obtain⟨n,l,rfl⟩:=eX hx;have hi:=(Vh.mp l).1;refine⟨p,_,Z,s.tup,Z,_,_,Z,_,_,Z,Z,?_⟩;have W:=r.trans s.sm;have d3:=s.sm _ _ u;have v:eW (.int n)=true:=(nA n).mpr (sg n (Vo l));refine cM Z (.int n) ?_;refine ak (λy=>?_) (λ_=>?_)
  ·have y:(!eW (.int n))=true:=y;rw[v]at y;cases y
  have g:n∉ns.take i:=λz=>by
   obtain⟨j,C⟩:=X0 z;have e:j<i:=by
    have:=(Vh.mp C).1;rw[Vk]at this;lia
   rw[Wz e]at C;obtain⟨O,U⟩:=Vh.mp C;obtain⟨a2,N⟩:=Vh.mp l;exact Ya (U.trans N.symm) (Ws.mp nd j i O a2 e)
  have I:bJ b (.inl n)=none:=by rw[c,iz.mpr g];rfl
  refine aU f _ Z (fN.k (k:=.inl n) d3) ?_;refine ak (λy=>?_) (λ_=>?_)
  ·have y:(bJ b (.inl n)).isSome=true:=y;rw[I]at y;cases y
  refine aU f _ rfl (iG.k (k:=.inl n) d3 (dq (by lia))) ?_;refine⟨W.put d.nw,_,_,_,aX,?_,λm=>?_,Z⟩
  ·rw[Kc _ I,Vc];simp;lia
  ·rw[ij,fh l,NS,Vk,VV (by lia)];by_cases q:m=n
   ·subst q;rw[X9 rfl,iz.mpr g];simp
   ·rw[X8 (λz=>q (Sum.inl.inj z)),c];have Y:¬n=m:=λz=>q z.symm;cases cS (ns.take i) m with
    | some j=>rfl
    | none=>simp[Y]
 ·rintro σ L ⟨r,b,o,D,u,R,c,rfl⟩;rw[U9,Vw]at c;exact S f L r d.nw ⟨b,u,c⟩
structure pJ (t:Adr) (H:Hp) (a dx pp pl d0 d1 l0 l1:Addr) (ns ms:e7):Prop where
 o:H a=some (.ins t.cr dx [("places",.ref pp),("lists",.ref pl)])
 p:H pp=some (.lst [.ref d0,.ref d1])
 l:H pl=some (.lst [.ref l0,.ref l1])
 d0:iD H d0 ns
 d1:iD H d1 ms
 l0:H l0=some (.lst (ns.map V.int))
 l1:H l1=some (.lst (ms.map V.int))
def iD.mono{H c:Hp}{d:Addr}{ns:e7}(h:iD H d ns)(s:aj H c):iD c d ns:=by
 obtain⟨e,a,b⟩:=h;exact⟨e,s _ _ a,b⟩
def pJ.mono{H b:Hp}{a dx pp pl d0 d1 l0 l1:Addr}{ns ms:e7}(h:pJ t H a dx pp pl d0 d1 l0 l1 ns ms)(s:aj H b):pJ t b a dx pp pl d0 d1 l0 l1 ns ms :=
 ⟨s _ _ h.o,s _ _ h.p,s _ _ h.l,h.d0.mono s,h.d1.mono s,s _ _ h.l0,s _ _ h.l1⟩
def Hs(t:Adr):Sp:=λvs H Q _=>∃(a dx pp pl d0 d1 l0 l1:Addr) (ns ms:e7) (g:Int),vs=[.ref a,.int g]/\cP g/\pJ t H a dx pp pl d0 d1 l0 l1 ns ms/\∀p H',aj H H'->H p=none->H' p=some (.lst ((dj (ao g ms ns) (ao g ns ms) g).map V.int))->Q (.ref p) H'
def Dd (T:Txt w K mg t):cW P w K mg base t.cr "row_beyond" 1 t.yY t.wu ["self", "page"] (Hs t):=by
 refine⟨T.eK,T.Mo,T.S6,T.T2.okQ tR (λvs H Q E h=>by obtain⟨a,dx,pp,pl,d0,d1,l0,l1,ns,ms,g,rfl,_⟩:=h;rfl) λ_ _ _ _ H vs Q E Y h=>?_⟩;obtain⟨a,dx,pp,pl,d0,d1,l0,l1,ns,ms,g,rfl,f,hf,k⟩:=h;have U:=Y.units;refine⟨_,(ah (dy PassesOwn.never rfl (nI (K:=K) rfl rfl T.n_enumerate (ad (ay (U3 K) (bq (K:=K) rfl (aa 0)) (aE dB ag (aa 1)) (λ_ _=>rfl)) ae)) (eU (K:=K) rfl rfl (bP (bj (i:=2) tR.nd rfl (.inl rfl)) (bP (bj (i:=3) tR.nd rfl (.inl rfl)) eT))) (ai (aD (aw (PR U) (aa 3) (ay (U3 K) (bq (K:=K) rfl (aa 0)) (aa 1) (λ_ _=>rfl)) (by with_unfolding_all rfl)) (ai (aq (aM (ad (ay (U3 K) (fS (v:=.ref t.o9) rfl T.D7 rfl) (aE dB ag (aa 1)) (λ_ _=>rfl)) (ad (aa 2) ae))))) aG)))
  (ai (aq (aM ae)))),?_⟩
 have G:H (ao (1-g) l0 l1)=some (.lst ((ao g ms ns).map V.int)):=by
  rcases f with rfl|rfl
  ·exact hf.l1
  ·exact hf.l0
 have M:iD H (ao g d0 d1) (ao g ns ms):=by
  rcases f with rfl|rfl
  ·exact hf.d0
  ·exact hf.d1
 obtain⟨u,C,s⟩:=M;have sh:c8 (([254,255]:e7).map V.int) (1-g)=some (.int (254+(1-g))):=by
  rcases f with rfl|rfl<;>rfl
 generalize hO:ao g ms ns=O at *;generalize hP:ao g ns ms=P' at *;refine cq a _ dx _ _ Z hf.o T.eK T.qx Z ?_;refine aU _ (.ref (ao (1-g) l0 l1)) (.inl (.of hf.l)) (by rw[oZ f.flip];exact congrArg some (nC V.ref _ _ _)) ?_;refine⟨ao (1-g) l0 l1,_,rfl,.of G,oy (K:=K) (a:=ao (1-g) l0 l1) (xs:=O.map V.int) (λi σ I=>aj H I/\(∀j,j<i->o7 O P' j=false)/\∃B r,σ=[some (.ref a),some (.int g),B,r]) ⟨aj.refl _,(λj h=>Ya h (by lia)),_,_,rfl⟩ (λi σ I _ z=>z.1.seq (.of G)) ?_ ?_⟩
 ·rintro i x p σ W H3 hx ⟨n,m,B,r,rfl⟩ F;obtain⟨q,D,rfl⟩:=eX hx;have L:=(Vh.mp D).1;refine⟨p,_,Z,F.tup,Z,_,_,Z,_,_,Z,Z,?_⟩;have d:=n.trans F.sm;refine cq a _ dx _ _ Z (d _ _ hf.o) T.eK T.uf Z ?_;refine aU _ (.ref (ao g d0 d1)) (.inl (.of (d _ _ hf.p))) (by rw[oZ f];exact congrArg some (nC V.ref _ _ _)) ?_;refine⟨ao g d0 d1,_,Z,fN.k (k:=.inl q) (d _ _ C),?_⟩;have eq:(bJ u (.inl q)).isSome=decide (q∈P'):=by
   rw[s];cases e:cS P' q with
   | none=>have:=iz.mp e;simp[this]
   | some j =>
    have:q∈P':=Decidable.byContradiction λz=>by rw[iz.mpr z]at e;cases e
    simp[this]
  have J:o7 O P' i = !decide (q∈P'):=by
   unfold o7;rw[WL,D];rfl
  refine ak (λy=>?_) (λy=>?_)
  ·have y:(!(bJ u (.inl q)).isSome)=true:=y;rw[eq,<- J]at y;refine aU _ (.int (254+(1-g))) (.inr (T.BE _)) sh ?_;refine⟨sz Z,λN S b=>?_⟩;refine k _ _ (d.trans b.sm) (d.free b.nw) ?_;have e:dj O P' g=[254+(1-g),(i:Int)]:=by
    unfold dj ic;rw[CT m y L]
   rw[e];exact b.at_
  ·have y:¬(!(bJ u (.inl q)).isSome)=true:=y;rw[eq,<- J]at y;refine⟨d,λj R=>?_,_,_,Z⟩;by_cases c:j<i
   ·exact m j c
   ·obtain rfl:j=i:=by lia
    simpa using y
 ·rintro σ W ⟨n,m,B,r,rfl⟩;rw[U9]at m;refine⟨sz Z,λN S b=>k _ _ (n.trans b.sm) (n.free b.nw) ?_⟩;have e:dj O P' g=[]:=by
   unfold dj ic;rw[Qx m]
   rfl
  rw[e];exact b.at_
def Kp.seq{a f:Addr}{H b:Hp}{xs:List V}(k:Kp a H b)(n:f≠a)(h:aH K H f xs):aH K b f xs:=by
 rcases h with h|h
 ·rcases h with h|⟨o,h⟩
  ·exact .inl (.inl (k _ _ n h))
  ·exact .inl (.inr ⟨o,k _ _ n h⟩)
 ·exact .inr h
def AK(K:PySem.W.Frag)(t:Adr):Sp:=λvs H Q _=>∃(a dx f g:Addr) (ns ms:e7),vs=[.ref a,.ref f,.ref g]/\H a=some (.ins t.cr dx [])/\aH K H f (ns.map V.int)/\aH K H g (ms.map V.int)/\dE ns/\dE ms/\f≠a/\g≠a /\
 ∀fp H',Kp a H H'->Tg t H' a fp ns ms->(∀c∈[fp.pp,fp.pl,fp.ps,fp.d0,fp.d1,fp.l0,fp.l1,fp.s0,fp.s1],c≠a/\H c=none)->Q .non H'
def LQ (T:Txt w K mg t):bN P w K mg base cn 5 t.sG t.rk ["self", "first", "second"] (AK K t):=by
 refine T.T4.okQ Ja (λvs H Q E h=>by obtain⟨a,dx,f,g,ns,ms,rfl,_⟩:=h;rfl) λ_ _ _ _ H vs Q E hr h=>?_;obtain⟨a,dx,f,g,ns,ms,rfl,ha,hf,hg,a2,a3,nf,ng,kq⟩:=h;have hu:=hr.units;refine⟨_,(ah (dS (K:=K) Z (aa 0) (aM (ad (aW (C3 T) hr (ad (aa 1) (ad ag ae))) (ad (aW (C3 T) hr (ad (aa 2) (ad ag ae))) ae))))
  (ah (dS (K:=K) rfl (aa 0) (aM (ad (cw (U5 K) T.n_list VL (ad (aa 1) ae)) (ad (cw (U5 K) T.n_list VL (ad (aa 2) ae)) ae))))
  (ai (dS (K:=K) rfl (aa 0) (aM (ad (fA (Dd T) hr (aa 0) (ad ag ae)) (ad (fA (Dd T) hr (aa 0) (ad ag ae)) ae))))))),?_⟩
 refine bL f ns 0 Z hf a2 (λd0 H1 s1 Y ak=>?_);refine bL g ms 1 Z (s1.seq hg) a3 (λd1 H2 s2 W am=>?_);refine⟨sz Z,λpp H3 O=>?_⟩;have s3:=s1.trans (s2.trans O.sm);refine dl a _ dx _ rfl (s3 _ _ ha) T.eK T.uf (Vd Xx (by decide)) ?_;obtain⟨V,e4⟩:∃V,V=upd H3 a (HO.ins t.cr dx (cI "places" (.ref pp) [])):=⟨_,rfl⟩;have a4:V a=some (.ins t.cr dx [("places",.ref pp)]):=by rw[e4,aX];rfl
 have k4:Kp a H3 V:=by rw[e4];exact Kp.upd
 rw[<- e4];clear e4;have b:Kp a H V:=(Kp.of s3).trans k4;refine aS (.inl (b.seq nf hf)) (λl0 H5 m=>?_);refine aS (.inl ((b.trans (Kp.of m.sm)).seq ng hg)) (λl1 H6 D=>?_);refine⟨sz Z,λpl H7 R=>?_⟩;have U:=m.sm.trans (D.sm.trans R.sm);refine dl a _ dx _ rfl (U _ _ a4) T.eK T.qx (Vd (Vv 1) (by decide)) ?_;obtain⟨s,e8⟩:∃s,s=upd H7 a (HO.ins t.cr dx (cI "lists" (.ref pl) [("places",.ref pp)])):=⟨_,rfl⟩;have C:s a=some (.ins t.cr dx [("places",.ref pp),("lists",.ref pl)]):=by rw[e8,aX];rfl
 have k8:Kp a H7 s:=by rw[e8];exact Kp.upd
 rw[<- e8];clear e8;have J:d0≠a:=(aO ha Y).symm;have F:d1≠a:=(aO (s1 _ _ ha) W).symm;have G:pp≠a:=(aO (s2 _ _ (s1 _ _ ha)) O.nw).symm;have i:l0≠a:=(aO a4 m.nw).symm;have j:l1≠a:=(aO (m.sm _ _ a4) D.nw).symm;have o:pl≠a:=(aO (D.sm _ _ (m.sm _ _ a4)) R.nw).symm;have q:Kp a H3 s:=k4.trans ((Kp.of U).trans k8);have r:Kp a H s:=(Kp.of s3).trans q;obtain⟨au,q0,e0⟩:=ak;obtain⟨al,q1,e1⟩:=am;have d:pJ t s a dx pp pl d0 d1 l0 l1 ns ms:=⟨C,q _ _ G O.at_,k8 _ _ o R.at_,⟨au,q _ _ J (O.sm _ _ (s2 _ _ q0)),e0⟩,⟨al,q _ _ F (O.sm _ _ q1),e1⟩,k8 _ _ i (R.sm _ _ (D.sm _ _ m.at_)),k8 _ _ j (R.sm _ _ D.at_)⟩;refine bL a dx _ Z C Z ?_;refine⟨a,dx,pp,pl,d0,d1,l0,l1,ns,ms,0,Z,.inl Z,d,λz0 H9 B S aq=>?_⟩;refine bL a dx _ Z (B _ _ C) Z ?_;refine⟨a,dx,pp,pl,d0,d1,l0,l1,ns,ms,1,Z,.inr Z,d.mono B,λz1 HA sA a0 af=>?_⟩;refine⟨sz Z,λps HB gB=>?_⟩;have I:=B.trans (sA.trans gB.sm);refine dl a _ dx _ rfl (I _ _ C) T.eK T.qw (Vd (Vv 2) (by decide)) ?_;obtain⟨N,eC⟩:∃N,N=upd HB a (HO.ins t.cr dx (cI "shifted" (.ref ps) [("places",.ref pp),("lists",.ref pl)])):=⟨_,rfl⟩;have aC:N a=some (.ins t.cr dx [("places",.ref pp),("lists",.ref pl),("shifted",.ref ps)]):=by rw[eC,aX];rfl
 have kC:Kp a HB N:=by rw[eC];exact Kp.upd
 rw[<- eC];clear eC;have L:z0≠a:=(aO C S).symm;have v:z1≠a:=(aO (B _ _ C) a0).symm;have z:ps≠a:=(aO (sA _ _ (B _ _ C)) gB.nw).symm;have ap:Kp a s N:=(Kp.of I).trans kC;have hB:=d.mono I;have M:∀ {c:Addr} {H':Hp},Kp a H H'->c≠a->H' c=none->H c=none:=λ{c H'} k n e=>by
  cases h:H c with
  | none=>rfl
  | some u=>rw[k c u n h]at e;cases e
 refine kq ⟨dx,pp,pl,ps,d0,d1,l0,l1,z0,z1⟩ N (r.trans ap) ⟨aC,kC _ _ G hB.p,kC _ _ o hB.l,kC _ _ z gB.at_,?_,?_,kC _ _ i hB.l0,kC _ _ j hB.l1,kC _ _ L (gB.sm _ _ (sA _ _ aq)),kC _ _ v (gB.sm _ _ af),a2,a3⟩ ?_
 ·obtain⟨kv,x,y⟩:=hB.d0;exact⟨kv,kC _ _ J x,y⟩
 ·obtain⟨kv,x,y⟩:=hB.d1;exact⟨kv,kC _ _ F x,y⟩
 ·intro c hc;simp only [Vr,Xa,or_false]at hc;rcases hc with rfl|rfl|rfl|rfl|rfl|rfl|rfl|rfl|rfl
  ·exact⟨G,s1.free (s2.free O.nw)⟩
  ·exact⟨o,M (b.trans (Kp.of (m.sm.trans D.sm))) o R.nw⟩
  ·exact⟨z,M (r.trans (Kp.of (B.trans sA))) z gB.nw⟩
  ·exact⟨J,Y⟩
  ·exact⟨F,s1.free W⟩
  ·exact⟨i,M b i m.nw⟩
  ·exact⟨j,M (b.trans (Kp.of m.sm)) j D.nw⟩
  ·exact⟨L,M r L S⟩
  ·exact⟨v,M (r.trans (Kp.of B)) v a0⟩
def NV (T:Txt w K mg t):mZ P w K mg base "ShiftTongue" t.cr 5 t.sG t.rk ["self", "first", "second"] [] (AK K t):=⟨T.O6,T.MN,⟨[],T.S7,.nil⟩,LQ T⟩
def Ec(O P:e7)(g:Int):dj O P g=[]\/∃b:Nat,(ic O P).head? = some b/\dj O P g=[254+(1-g),(b:Int)]:=by
 unfold dj;cases e:(ic O P).head? with
 | none=>exact .inl rfl
 | some b=>exact .inr ⟨b,rfl,rfl⟩
def RY(O P:e7)(g:Int):dj O P g=[] ↔ ic O P=[]:=by
 unfold dj;cases e:ic O P with
 | nil=>simp
 | cons b r=>simp
def fi(P O:e7)(g:Int)(x:V):Option (e7 × Int):=match x with
 | .int n=>match cS P n with
  | some i=>some ([(i:Int)],g)
  | none=>match cS O n with
   | some i=>some ([254+(1-g),(i:Int)],1-g)
   | none=>none
 | _=>none
def Lq:Option Int->V
 | some n=>.int n
 | none=>.non
def Ek{L:e7}{b n:Int}(a:0<=b)(h:L[b.toNat]? = some n):c8 (L.map V.int) b=some (.int n):=by
 obtain⟨k,rfl⟩:∃k:Nat,b=(k:Int):=⟨b.toNat,by lia⟩;exact aA (by rw[Vf];simp at h;rw[h];rfl)
def Hi(t:Adr):Sp:=λvs H Q _=>∃(a:Addr) (f:Fp) (ns ms:e7) (b g:Int),vs=[.ref a,.int b,.int g]/\cP g/\Tg t H a f ns ms/\0<=b/\Q (Lq (ao g ns ms)[b.toNat]?) H
def Dc (T:Txt w K mg t):cW P w K mg base t.cr "sign_of" 1 t.yX t.wt ["self", "byte", "page"] (Hi t):=by
 refine⟨T.eK,T.Mn,T.S5,T.T0.okQ I0 (λvs H Q E h=>by obtain⟨a,f,ns,ms,b,g,rfl,_⟩:=h;rfl) λ_ _ _ _ H vs Q E m h=>?_⟩;obtain⟨a,f,ns,ms,b,g,rfl,two,c,j,k⟩:=h;refine⟨_,(ai (aq (i9 (aw cZ (aa 1) (bf (U2 K) T.n_len Ve (ad (ay (U3 K) (bq (K:=K) Z (aa 0)) (aa 2) (λ_ _=>rfl)) ae)) (av _)) (ay (U3 K) (ay (U3 K) (bq (K:=K) Z (aa 0)) (aa 2) (λ_ _=>rfl)) (aa 1) (λ_ _=>rfl)) bW))),?_⟩;have d:c8 [V.ref f.l0,V.ref f.l1] g=some (.ref (ao g f.l0 f.l1)):=by rw[oZ two];exact congrArg some (nC V.ref _ _ _)
 have e:=c.ll two;refine cq a _ f.dx _ _ Z c.o T.eK T.qx Z ?_;refine bi (.inl (.of c.l)) d ?_;refine aS (.inl (.of e)) ?_;refine ak (λz=>?_) (λz=>?_)
 ·have z:b<(((ao g ns ms).map V.int).length:Int):=Yb z;rw[U9]at z;refine cq a _ f.dx _ _ Z c.o T.eK T.qx Z ?_;refine bi (.inl (.of c.l)) d ?_;obtain⟨n,i⟩:∃n,(ao g ns ms)[b.toNat]? = some n:=⟨_,VG (by lia)⟩;rw[i]at k;exact⟨_,.int n,.inl (.of e),Ek j i,k⟩
 ·have z:¬b<(((ao g ns ms).map V.int).length:Int):=λy=>z (Yc y);rw[U9]at z;rw[WM (by lia)]at k;exact k
def sR(g:Int)(row:e7):Prop:=(∃b,row=[b]/\0<=b)\/∃c,row=[254+(1-g),c]/\0<=c
def dY(P O:e7)(g:Int)(row:e7):Option (Int × Int):=match row with
 | [b]=>P[b.toNat]?.map λn=>(n,g)
 | [_,c]=>match O[c.toNat]? with
  | some n=>if n∈P then none else some (n,1-g)
  | none=>none
 | _=>none
def AG(t:Adr):Sp:=λvs H Q _=>∃(a:Addr) (f:Fp) (ns ms:e7) (q:Addr) (row:e7) (g:Int),vs=[.ref a,.ref q,.int g]/\cP g/\Tg t H a f ns ms/\H q=some (.lst (row.map V.int))/\sR g row /\
 (dY (ao g ns ms) (ao g ms ns) g row=none->Q .non H)/\(∀n g',dY (ao g ns ms) (ao g ms ns) g row=some (n,g')->∀p H',bz H p (.tup [.int n,.int g']) H'->Q (.ref p) H')
def LM (T:Txt w K mg t):bN P w K mg base cn 2 t.sF t.oE ["self", "row", "page"] (AG t):=by
 refine T.TZ.okQ tQ (λvs H Q E h=>by obtain⟨o,f,ns,ms,q,row,g,rfl,_⟩:=h;rfl) λ_ _ _ _ H vs Q E x h=>?_;obtain⟨a,f,ns,ms,q,row,g,rfl,two,l,r,ok,d,ks⟩:=h;have u:=x.units;refine⟨_,(ah (aD (aw (bh (K:=K) Z u) (bf (U2 K) T.n_len Ve (ad (aa 1) ae)) ag (av _)) (ah (aF (i:=3) tQ.nd Z (.inl Z) (fA (Dc T) x (aa 0) (ad (ay (U3 K) (aa 1) ag (λ_ _=>rfl)) (ad (aa 2) ae))))
  (ai (aq (i9 (aw gJ (aa 3) bW (av _)) bW (bR (ad (aa 3) (ad (aa 2) ae))))))) aG)
  (ah (aD (bY (fu (aw (bh (K:=K) rfl u) (bf (U2 K) T.n_len Ve (ad (aa 1) ae)) ag (av _)) (fQ (aw (bh (K:=K) rfl u) (ay (U3 K) (aa 1) ag (λ_ _=>rfl)) (ay (U3 K) (fS (v:=.ref t.o9) rfl T.D7 rfl) (aE dB ag (aa 2)) (λ_ _=>rfl)) (av _))))) (ah (aF (i:=3) tQ.nd rfl (.inl rfl) (fA (Dc T) x (aa 0) (ad (ay (U3 K) (aa 1) ag (λ_ _=>rfl)) (ad (aE dB ag (aa 2)) ae))))
  (ai (aq (i9 (bY (dw (aw gJ (aa 3) bW (av _)) (dJ (aw (Dt u) (aa 3) (ay (U3 K) (bq (K:=K) rfl (aa 0)) (aa 2) (λ_ _=>rfl)) (by with_unfolding_all rfl))))) bW (bR (ad (aa 3) (ad (aE dB ag (aa 2)) ae))))))) aG)
  (ai (aq bW)))),?_⟩
 refine aS (.inl (.of r)) ?_;rcases ok with ⟨b,rfl,b0⟩|⟨c,rfl,c0⟩
 ·refine bL a f.dx _ Z l.o Z ?_;refine bi (.inl (.of r)) (aA (j:=0) Z) ?_;refine⟨a,f,ns,ms,b,g,Z,two,l,b0,?_⟩;unfold dY at d ks;dsimp only at d ks;cases e:(ao g ns ms)[b.toNat]? with
  | none=>exact d (by rw[e];rfl)
  | some n=>exact⟨sz rfl,λp C g'=>ks n g (by rw[e];rfl) p C g'⟩
 ·have sh:c8 (([254,255]:e7).map V.int) (1-g)=some (.int (254+(1-g))):=by
   rcases two with rfl|rfl<;>rfl
  refine aS (.inl (.of r)) ?_;refine bi (.inl (.of r)) (aA (j:=0) Z) ?_;refine bi (.inr (T.BE _)) sh ?_;refine ak (λ_=>?_) (λz=>Ya (show decide (254+(1-g)=254+(1-g))=true by simp) z);refine bL a f.dx _ Z l.o Z ?_;refine bi (.inl (.of r)) (aA (j:=1) Z) ?_;refine⟨a,f,ns,ms,c,1-g,Z,two.flip,l,c0,?_⟩;rw[Ix two];unfold dY at d ks;dsimp only at d ks;cases e:(ao g ms ns)[c.toNat]? with
  | none =>
   rw[e]at d;exact d Z
  | some n =>
   rw[e]at d ks;dsimp only at d ks;obtain⟨s,B,m⟩:=l.dk two;refine cq a _ f.dx _ _ Z l.o T.eK T.uf Z ?_;refine aU _ (.ref (ao g f.d0 f.d1)) (.inl (.of l.p)) (by rw[oZ two];exact congrArg some (nC V.ref _ _ _)) ?_;refine bi Z (fN.k (k:=.inl n) B) ?_;by_cases hn:n∈ao g ns ms
   ·rw[X9 hn]at d;obtain⟨i,D,_⟩:=jQ hn;have y:bJ s (.inl n)=some (.int (i:Int)):=by rw[m,D];rfl
    refine ak (λ_=>?_) (λz=>Ya (show (bJ s (.inl n)).isSome=true by rw[y];rfl) z);exact d Z
   ·rw[X8 hn]at ks;have y:bJ s (.inl n)=none:=by rw[m,iz.mpr hn];rfl
    refine ak (λz=>Ya (show (bJ s (.inl n)).isSome=true from z) (by rw[y];decide)) (λ_=>?_);exact⟨sz Z,λp C g'=>ks n (1-g) Z p C g'⟩
def Da (T:Txt w K mg t):fe P w K mg base t.cr "whole" 2 t.sF t.oE ["self", "row", "page"] [] (AG t) :=
 ⟨T.eK,T.Mm,⟨_,T.S4,.nil⟩,LM T⟩
def c7(one a:e7):Bool:=decide (a.take one.length=one)
def Ie(K:PySem.W.Frag):Sp:=λvs H Q _=>∃(a b:Addr) (x y:e7),vs=[.ref a,.ref b]/\aH K H a (x.map V.int)/\aH K H b (y.map V.int)/\∀H',aj H H'->Q (.bl (c7 x y)) H'
def wW(ns:e7)(k:Nat):dR (ns.map V.int) none (some (k:Int))=(ns.take k).map V.int:=by rw[gL,DX]
def uJ (T:Txt w K mg t):bC P w K mg base "begins" 1 t.yT t.wq ["one", "other"] (Ie K):=by
 refine⟨T.Qh,T.Fw.kp,T.SW,T.Fw.okQ IV (λvs H Q E h=>by obtain⟨a,b,x,y,rfl,_⟩:=h;rfl) λ_ _ _ _ H vs Q E f h=>?_⟩;obtain⟨a,b,x,y,rfl,d,hb,k⟩:=h;have g:=f.units;refine⟨_,(ai (aq (da (bh (K:=K) Z g) (fw (U4 K) (aa 1) hG (dO (bf (U2 K) T.n_len Ve (ad (aa 0) ae)))) (aa 0) (av _)))),?_⟩;refine⟨_,.inl d,_,Z,_,hb,λi e c=>?_⟩;rw[U9,wW]at c;exact mS c.lst (c.sm.seq d) (k e c.sm)
def gK(P O:e7)(g:Int)(row:e7):Bool:=(dY P O g row).isSome || (!(dj O P g).isEmpty && c7 row (dj O P g))
def AM(t:Adr):Sp:=λvs H Q _=>∃(a:Addr) (f:Fp) (ns ms:e7) (q:Addr) (row:e7) (g:Int),vs=[.ref a,.ref q,.int g]/\cP g/\Tg t H a f ns ms/\H q=some (.lst (row.map V.int))/\sR g row /\
 (gK (ao g ns ms) (ao g ms ns) g row=false->∀H',aj H H'->Q .non H')/\(gK (ao g ns ms) (ao g ms ns) g row=true->∀p (b:e7) H',aj H H'->H' p=some (.lst (b.map V.int))->(dY (ao g ns ms) (ao g ms ns) g row=none->b=(dj (ao g ms ns) (ao g ns ms) g).drop row.length)->Q (.ref p) H')
def LV (T:Txt w K mg t):bN P w K mg base cn 3 t.sH t.oF ["self", "row", "page"] (AM t):=by
 refine T.T5.okQ Jb (λvs H Q E h=>by obtain⟨o,f,ns,ms,q,row,g,rfl,_⟩:=h;rfl) λ_ _ _ _ H vs Q E r h=>?_;obtain⟨a,f,ns,ms,q,row,g,rfl,two,d,l,ok,i,ks⟩:=h;have C:=r.units;refine⟨_,(ah (aD (aw qW (d8 (Da T) r (aa 0) (ad (aa 1) (ad (aa 2) ae))) bW (av _)) (ai (aq (aM ae))) aG)
  (ah (aD (bY (fu (fR (ip (K:=K) rfl (aa 1))) (fQ (ip (K:=K) rfl (ay (U3 K) (bq (K:=K) rfl (aa 0)) (aa 2) (λ_ _=>rfl)))))) (ai (aq (aM (ad ag ae)))) aG)
  (ah (aD (bY (fu (ip (K:=K) rfl (ay (U3 K) (bq (K:=K) rfl (aa 0)) (aa 2) (λ_ _=>rfl))) (fQ (fz (aW (uJ T) r (ad (aa 1) (ad (ay (U3 K) (bq (K:=K) rfl (aa 0)) (aa 2) (λ_ _=>rfl)) ae))))))) (ai (aq (fw (U4 K) (ay (U3 K) (bq (K:=K) rfl (aa 0)) (aa 2) (λ_ _=>rfl)) (dO (bf (U2 K) T.n_len Ve (ad (aa 1) ae))) hG))) aG)
  (ai (aq bW))))),?_⟩
 refine bL a f.dx _ Z d.o Z ?_;refine⟨a,f,ns,ms,q,row,g,Z,two,d,l,ok,λhw=>?_,λn g' hw p x B=>?_⟩
 ·have v:row≠[]:=by
   rcases ok with ⟨b,rfl,_⟩|⟨c,rfl,_⟩<;>simp
  have rt:(!(row.map V.int).isEmpty)=true:=by
   cases row with
   | nil=>exact Ya rfl v
   | cons _ _=>rfl
  refine aS (.inl (.of l)) ?_;refine ak (λz=>Ya (show (!(!(row.map V.int).isEmpty))=true from z) (by rw[rt];decide)) (λ_=>?_);have es:c8 [V.ref f.s0,V.ref f.s1] g=some (.ref (ao g f.s0 f.s1)):=by rw[oZ two];exact congrArg some (nC V.ref _ _ _)
  have hs:=d.ss two;refine cq a _ f.dx _ _ Z d.o T.eK T.qw Z ?_;refine bi (.inl (.of d.s)) es ?_;refine aS (.inl (.of hs)) ?_;unfold gK at i ks;rw[hw]at i ks;refine ak (λz=>?_) (λz=>?_)
  ·have z:(!((dj (ao g ms ns) (ao g ns ms) g).map V.int).isEmpty)=true:=z;rw[List.isEmpty_map]at z;rw[z]at i ks;refine cq a _ f.dx _ _ Z d.o T.eK T.qw Z ?_;refine bi (.inl (.of d.s)) es ?_;refine⟨q,ao g f.s0 f.s1,row,_,Z,.of l,.of hs,λx s1=>?_⟩;refine ak (λy=>?_) (λy=>?_)
   ·have y:c7 row (dj (ao g ms ns) (ao g ns ms) g)=true:=y;rw[y]at ks;have k:=d.mono s1;refine cq a _ f.dx _ _ Z k.o T.eK T.qw Z ?_;refine bi (.inl (.of k.s)) es ?_;refine⟨_,.inl (.of (s1 _ _ l)),_,Z,_,.of (s1 _ _ hs),λu m j=>?_⟩;rw[U9,gL,rE]at j;exact ks Z u _ m (s1.trans j.sm) j.at_ (λ_=>rfl)
   ·have y:c7 row (dj (ao g ms ns) (ao g ns ms) g)=false:=by
     cases e:c7 row (dj (ao g ms ns) (ao g ns ms) g) with
     | false=>rfl
     | true=>exact Ya e y
    rw[y]at i;exact i Z x s1
  ·have z:(!((dj (ao g ms ns) (ao g ns ms) g).map V.int).isEmpty)=false:=by
    cases e:(!((dj (ao g ms ns) (ao g ns ms) g).map V.int).isEmpty) with
    | false=>rfl
    | true=>exact Ya e z
   rw[List.isEmpty_map]at z;rw[z]at i;exact i Z H (aj.refl _)
 ·refine⟨sz Z,λu m j=>?_⟩;exact ks (by unfold gK;rw[hw];rfl) u [] m (B.sm.trans j.sm) j.at_ (λh=>by rw[hw]at h;cases h)
def OM (T:Txt w K mg t):fe P w K mg base t.cr "fill" 3 t.sH t.oF ["self", "row", "page"] [] (AM t) :=
 ⟨T.eK,T.Mp,⟨_,T.S8,.nil⟩,LV T⟩
def iN(P O:e7)(g:Int)(row:e7):List V:=match dY P O g row with
 | some (n,g')=>[.str "sign",.int n,.int g']
 | none=>if gK P O g row=true then [.str "more",.non,.int g] else [.str "none",.non,.int g]
def fJ(P O:e7):e7:=(ic P O).map λb:Nat=>(b:Int)
def mH{O P:e7}{c:Int}(a:0<=c):c∈fJ O P ↔ ∃n,O[c.toNat]? = some n/\n∉P:=by
 unfold fJ;rw[VC]
 constructor
 ·rintro⟨b,hb,rfl⟩;simpa using Cg.mp hb
 ·rintro h;exact⟨c.toNat,Cg.mpr h,by lia⟩
def Eo{O P:e7}:fJ O P=[] ↔ ic O P=[]:=by unfold fJ;simp
theorem Cn{P O:e7}{g b:Int}(f:0<=b):iN P O g [b]=match P[b.toNat]? with
 | some n=>[.str "sign",.int n,.int g]
 | none=>if b=254+(1-g)/\fJ O P≠[] then [.str "more",.non,.int g] else [.str "none",.non,.int g]:=by
 have hw:dY P O g [b]=P[b.toNat]?.map λn=>(n,g):=rfl;unfold iN;rw[hw];cases e:P[b.toNat]? with
 | some n=>rfl
 | none =>
  have a:dY P O g [b]=none:=by rw[hw,e];rfl
  dsimp only [Option.map];unfold gK;rw[a];rcases Ec O P g with hb|⟨i,hi,hb⟩
  ·have d:=Eo.mpr ((RY O P g).mp hb);rw[hb,d];simp
  ·have d:fJ O P≠[]:=λz=>by
    rw[Eo.mp z]at hi;cases hi
   rw[hb];unfold c7;by_cases c:b=254+(1-g)
   ·simp[c,d]
   ·have c':¬254+(1-g)=b:=λz=>c z.symm;simp[c,c']
def Cm {P O:e7} {g c:Int} (a:0<=c):iN P O g [254+(1-g),c]=if c∈fJ O P then [.str "sign",.int (O.getD c.toNat 0),.int (1-g)] else [.str "none",.non,.int g]:=by
 by_cases h:c∈fJ O P
 ·rw[X9 h];obtain⟨n,b,d⟩:=(mH a).mp h;unfold iN dY;simp[b,d,WL]
 ·rw[X8 h];have hw:dY P O g [254+(1-g),c]=none:=by
   unfold dY;dsimp only;cases e:O[c.toNat]? with
   | none=>rfl
   | some n =>
    dsimp only;rw[X9];exact Decidable.byContradiction λz=>h ((mH a).mpr ⟨n,e,z⟩)
  have hf:gK P O g [254+(1-g),c]=false:=by
   unfold gK;rw[hw];rcases Ec O P g with hb|⟨i,hi,hb⟩
   ·rw[hb];rfl
   ·rw[hb];unfold c7;have:¬(i:Int)=c:=λz=>h (by
     unfold fJ;exact VC.mpr ⟨i,List.mem_of_mem_head? hi,z⟩)
    simp[this]
  unfold iN;rw[hw,hf]
  rfl
structure j2 (H:Hp) (p:Addr) (s:Int) (r:e7):Prop where
 h:∃q,H p=some (.tup [.int s,.ref q])/\H q=some (.lst (r.map V.int))
 l:1<=r.length/\r.length<=6
def j2.mono{H c:Hp}{p:Addr}{s:Int}{r:e7}(h:j2 H p s r)(k:aj H c):j2 c p s r:=by
 obtain⟨⟨q,a,b⟩,l⟩:=h
 exact⟨⟨q,k _ _ a,k _ _ b⟩,l⟩
def gq(e f:Int × e7):Bool:=decide (e.1=f.1) || c7 e.2 f.2 || c7 f.2 e.2
def HY:Sp:=λvs H Q _=>∃(a b:Addr) (e f:Int × e7),vs=[.ref a,.ref b]/\j2 H a e.1 e.2/\j2 H b f.1 f.2/\∀H',aj H H'->Q (.bl (gq e f)) H'
def OA (T:Txt w K mg t):bC P w K mg base "collide" 2 t.yO t.wj ["one", "other"] HY:=by
 refine⟨T.Qc,T.Fq.kp,T.SR,T.Fq.okQ IQ (λvs H Q E h=>by obtain⟨a,b,x,y,rfl,_⟩:=h;rfl) λ_ _ _ _ H vs Q E l h=>?_⟩;obtain⟨a,b,⟨s1,c⟩,⟨g,d⟩,rfl,⟨⟨m,i,e⟩,_⟩,⟨⟨n,hb,f⟩,_⟩,k⟩:=h;dsimp only at i e hb f;have q:=l.units;refine⟨_,(ai (aq (qd (da (bh (K:=K) Z q) (ay (U3 K) (aa 0) ag (λ_ _=>rfl)) (ay (U3 K) (aa 1) ag (λ_ _=>rfl)) (av _)) (qd (aW (uJ T) l (ad (ay (U3 K) (aa 0) ag (λ_ _=>rfl)) (ad (ay (U3 K) (aa 1) ag (λ_ _=>rfl)) ae))) (gE (aW (uJ T) l (ad (ay (U3 K) (aa 1) ag (λ_ _=>rfl)) (ad (ay (U3 K) (aa 0) ag (λ_ _=>rfl)) ae)))))))),?_⟩;refine bi (.inr (.of i)) (aA (j:=0) Z) ?_;refine bi (.inr (.of hb)) (aA (j:=0) Z) ?_;refine ak (λz=>?_) (λz=>?_)
 ·refine cO (k H (aj.refl _)) ?_;have z:decide (s1=g)=true:=z;show (decide (s1=g) || c7 c d || c7 d c)=true;rw[z];rfl
 have z:¬decide (s1=g)=true:=z;refine bi (.inr (.of i)) (aA (j:=1) Z) ?_;refine bi (.inr (.of hb)) (aA (j:=1) Z) ?_;refine⟨m,n,c,d,Z,.of e,.of f,λp k1=>?_⟩;refine ak (λy=>?_) (λy=>?_)
 ·refine cO (k p k1) ?_;have y:c7 c d=true:=y;show (decide (s1=g) || c7 c d || c7 d c)=true;rw[y];simp
 have y:¬c7 c d=true:=y;refine bi (.inr (.of (k1 _ _ hb))) (aA (j:=1) Z) ?_;refine bi (.inr (.of (k1 _ _ i))) (aA (j:=1) Z) ?_;refine⟨n,m,d,c,Z,.of (k1 _ _ f),.of (k1 _ _ e),λo k2=>?_⟩;refine cO (k o (k1.trans k2)) ?_;show (decide (s1=g) || c7 c d || c7 d c)=c7 d c;simp at z y;simp[z,y]
structure Es (es:List (Int × e7)):Prop where
 sg:∀e∈es,Sg e.1/\1<=e.2.length/\e.2.length<=6/\∀b∈e.2,0<=b/\b<=255
 pw:es.Pairwise λe f=>gq e f=false
 l:es.length<=64
def Rk(e f:Int × e7):gq e f=gq f e:=by
 unfold gq;rw[show decide (e.1=f.1)=decide (f.1=e.1) by simp[eq_comm],Bool.or_assoc,Bool.or_assoc,Bool.or_comm (c7 e.2 f.2)]
def Es.two{es:List (Int × e7)}(h:Es es){e f:Int × e7}(d:e∈es)(hf:f∈es):e=f\/gq e f=false:=by
 obtain⟨i,b,rfl⟩:=Xb.mp d;obtain⟨j,a,rfl⟩:=Xb.mp hf;rcases Nat.lt_trichotomy i j with c|c|c
 ·exact .inr (Ws.mp h.pw i j b a c)
 ·subst c;exact .inl Z
 ·rw[Rk];exact .inr (Ws.mp h.pw j i a b c)
def m4(H:Hp)(ps:List Addr)(es:List (Int × e7)):Prop:=cL (λa e=>j2 H a e.1 e.2) ps es
def m4.mono{H b:Hp}{ps:List Addr}{es:List (Int × e7)}(h:m4 H ps es)(s:aj H b):m4 b ps es:=h.imp λa e z=>z.mono s
def G5(K:PySem.W.Frag):Sp:=λvs H Q _=>∃(q:Addr) (r:e7),vs=[.ref q]/\H q=some (.lst (r.map V.int))/\(∀b∈r,0<=b/\b<=255)/\r.length<=1000/\∀H',aj H H'->Q (.bl true) H'
def Ow (T:Txt w K mg t):bC P w K mg base "is_row" 3 t.yI t.wa ["thing"] (G5 K):=by
 refine⟨T.P3,T.Fj.kp,T.SK,T.Fj.okQ IL (λvs H Q E h=>by obtain⟨q,r,rfl,_⟩:=h;rfl) λ_ _ _ _ H vs Q E e h=>?_⟩;obtain⟨q,r,rfl,a,hb,j,k⟩:=h;refine⟨_,(ai (aq (fB (bf (U1 K) T.n_isinstance VY (ad (aa 0) (ad (iL rfl T.n_list VL) ae))) (gE (bf (RG (K:=K) rfl rfl) T.n_all PyProof.Rows.boot_all (ad (hJ rfl (dG.of (fns:=(am jI).names) (N:=["thing"]) (Nc:=["each"]) (nv:=1) (caps:=[]) rfl rfl (by decide +kernel)) (d7 (K:=K) rfl (aa 0)) (λ_ _ _ _=>(bj (i:=0) (show List.Nodup (["each"]:List Str) by decide +kernel) rfl (Or.inl rfl) (Or.inr rfl))) (λ_ _ _ _=>gZ) (λ_ _ _ _=>(aW (Oy T) e (ad (aa 0) ae)))) ae)))))),?_⟩;refine bi (.lst a) (by with_unfolding_all rfl) ?_;refine iw ?_;refine dX q rfl ⟨_,.of a⟩ (xj ((r.map λ_=>true).map V.bl) (by simp) (.of a) (cQ (by rw[U9];lia)) (λi x y g N hx c l hN=>?_) λf d b=>?_)
 ·obtain⟨o,ho,rfl⟩:=eX hx;rw[Vf,Vf,ho]at c;cases c;have:=hb o (Vo ho);exact⟨_,rfl,.int _,cO (hN _ (aj.refl _)) (by simp[dN];lia)⟩
 refine aS b.lst ?_;exact cO (k d b.sm) (by simp)
def HS(K:PySem.W.Frag):Sp:=λvs H Q _=>∃(p:Addr) (e:Int × e7),vs=[.ref p]/\j2 H p e.1 e.2/\Sg e.1/\(∀b∈e.2,0<=b/\b<=255)/\∀H',aj H H'->Q (.bl true) H'
def Ox (T:Txt w K mg t):bC P w K mg base "is_entry" 4 t.yL t.we ["thing"] (HS K):=by
 refine⟨T.P6,T.Fm.kp,T.SN,T.Fm.okQ IO (λvs H Q E h=>by obtain⟨p,e,rfl,_⟩:=h;rfl) λ_ _ _ _ H vs Q E b h=>?_⟩;obtain⟨p,⟨sg,r⟩,rfl,⟨⟨q,a,c⟩,l1,f⟩,hs,hb,k⟩:=h;dsimp only at a c l1 f hs hb;have g:=b.units;refine⟨_,(ah (aD (bY (dw (fR (fz (bf (U1 K) T.n_isinstance VY (ad (aa 0) (ad (iL Z T.n_tuple WN) ae))))) (dJ (aw (fY (K:=K) Z g) (bf (U2 K) T.n_len Ve (ad (aa 0) ae)) ag (av _))))) (ai (aq dQ)) aG)
  (ai (aq (fB (aW (uH T) b (ad (ay (U3 K) (aa 0) ag (λ_ _=>rfl)) ae)) (fB (aW (Ow T) b (ad (ay (U3 K) (aa 0) ag (λ_ _=>rfl)) ae)) (gE (mz eI eI ag (bf (U2 K) T.n_len Ve (ad (ay (U3 K) (aa 0) ag (λ_ _=>rfl)) ae)) (db T.RL)))))))),?_⟩
 refine bi (.tup a) (by with_unfolding_all rfl) ?_;refine ak (λz=>Ya z (by decide)) (λ_=>?_);refine aS (.inr (.of a)) ?_;refine bi (.inr (.of a)) (aA (j:=0) Z) ?_;refine cM Z (.int _) ?_;refine ak (λ_=>?_) (λz=>Ya ((nA sg).mpr hs) z);refine bi (.inr (.of a)) (aA (j:=1) Z) ?_;refine⟨q,r,rfl,c,hb,by lia,λd s1=>?_⟩;refine iw ?_;refine bi (.inr (.of (s1 _ _ a))) (aA (j:=1) Z) ?_;refine aS (.inl (.of (s1 _ _ c))) ?_;refine ak (λz=>?_) (λz=>?_)
 ·exact cO (k d s1) (by rw[U9];simp;lia)
 ·exact Ya (show decide ((1:Int)<=((r.map V.int).length:Int))=true by rw[U9];simp;lia) z
def HZ:Sp:=λvs H Q _=>∃(a:Addr) (ps:List Addr) (es:List (Int × e7)),vs=[.ref a]/\H a=some (.lst (ps.map V.ref))/\m4 H ps es/\Es es/\∀H',aj H H'->Q .non H'
def Q6(xs:List V)(k:Nat):dR xs none (some (k:Int))=xs.take k:=DX xs k
def qc{qs:List Addr}{i:Nat}{x:V}(h:(qs.map V.ref)[i]? = some x):∃q,qs[i]? = some q/\x=.ref q:=by
 rw[Vf]at h;obtain⟨q,a,rfl⟩:=Wr.mp h;exact⟨q,a,Z⟩
def OB (T:Txt w K mg t):bC P w K mg base "check_table" 5 t.yP t.wl ["rows"] HZ:=by
 refine⟨T.Qd,T.Fr.kp,T.SS,T.Fr.okQ nG (λvs H Q E h=>by obtain⟨a,ps,es,rfl,_⟩:=h;rfl) λ_ _ _ _ H vs Q E G h=>?_⟩;obtain⟨a,ps,es,rfl,v,C,ok,k⟩:=h;have hu:=G.units;refine⟨_,(ah (aD (aw fF (bf (U2 K) T.n_len Ve (ad (aa 0) ae)) (db T.RJ) (av _)) (ai jM) aG)
  (ai (dy PassesOwn.never rfl (nI (K:=K) rfl rfl T.n_enumerate (ad (aa 0) ae)) (eU (K:=K) rfl rfl (bP (bj (i:=1) nG.nd rfl (.inl rfl)) (bP (bj (i:=2) nG.nd rfl (.inl rfl)) eT))) (ah (aD (fR (fz (aW (Ox T) G (ad (aa 2) ae)))) (ai jM) aG)
  (ai (dy PassesOwn.never rfl (nI (K:=K) rfl rfl T.n_enumerate (ad (fw (U4 K) (aa 0) hG (dO (aa 1))) ae)) (eU (K:=K) rfl rfl (bP (bj (i:=3) nG.nd rfl (.inl rfl)) (bP (bj (i:=4) nG.nd rfl (.inl rfl)) eT))) (ai (aD (fz (aW (OA T) G (ad (aa 4) (ad (aa 2) ae)))) (ai jM) aG)))))))),?_⟩
 have lp:ps.length=es.length:=C.1;have a8:=ok.l;refine aS (.inl (.of v)) ?_;refine ak (λz=>?_) (λ_=>?_)
 ·have z:((ps.map V.ref).length:Int) > 64:=Yb z;rw[U9]at z;lia
 refine aU a _ Z (.of v) (oy (K:=K) (a:=a) (xs:=ps.map V.ref) (λi σ q=>aj H q/\∃J S c d,σ=[some (.ref a),J,S,c,d]) ⟨aj.refl _,_,_,_,_,Z⟩ (λi σ q _ z=>z.1.seq (.of v)) ?_ ?_)
 ·rintro i x p σ R H3 hx ⟨y,J,S,c,d,rfl⟩ M;obtain⟨B,F,rfl⟩:=qc hx;obtain⟨e,N,L⟩:=C.right F;refine⟨p,_,Z,M.tup,Z,_,_,Z,_,_,Z,Z,?_⟩;have O:=y.trans M.sm;obtain⟨k1,k2,k3,k4⟩:=ok.sg e (Vo N);refine⟨B,e,Z,L.mono O,k1,k4,λH4 s4=>?_⟩;refine ak (λz=>Ya (show (!true)=true from z) (by decide)) (λ_=>?_);have n:=O.trans s4;refine⟨_,Z,_,n.seq (.of v),λU H5 s=>?_⟩;rw[Q6]at s;have o:=n.trans s.sm;refine aU U _ Z s.lst (oy (K:=K) (a:=U) (xs:=(ps.map V.ref).take i) (λj σ q=>aj H5 q/\∃c d,σ=[some (.ref a),some (.int (i:Int)),some (.ref B),c,d]) ⟨aj.refl _,_,_,Z⟩ (λi σ q _ z=>z.1.seq s.lst) ?_ ?_)
  ·rintro j u pj σ H6 H7 b ⟨r,c,d,rfl⟩ D;have m:j<i:=by have:=(Vh.mp b).1;rw[Vk]at this;lia
   rw[Wz m]at b;obtain⟨pu,I,rfl⟩:=qc b;obtain⟨f,hf,W⟩:=C.right I;refine⟨pj,_,Z,D.tup,Z,_,_,Z,_,_,Z,Z,?_⟩;have g:=o.trans (r.trans D.sm);refine⟨pu,B,f,e,Z,W.mono g,L.mono g,λH8 s8=>?_⟩;have nc:gq f e=false:=by
    obtain⟨a1,e1⟩:=Vh.mp hf;obtain⟨a2,Y⟩:=Vh.mp N;rw[<- e1,<- Y];exact Ws.mp ok.pw j i a1 a2 m
   refine ak (λz=>Ya (show gq f e=true from z) (by rw[nc];decide)) (λ_=>?_);exact⟨r.trans (D.sm.trans s8),_,_,Z⟩
  ·rintro σ H6 ⟨r,c,d,rfl⟩;exact⟨o.trans r,_,_,_,_,Z⟩
 ·rintro σ R ⟨y,_⟩;exact k R y
structure Ft where
 dx:Addr
 d1:Addr
 d2:Addr
 d3:Addr
def df(r:e7):List aV:=r.map Sum.inl
def qO(r:e7):r.map V.int=(df r).map kV:=by
 unfold df;rw[Wo];rfl
def qP{r s:e7}(h:df r=df s):r=s:=by
 unfold df at h
 induction r generalizing s with
 | nil=>cases s with
  | nil=>rfl
  | cons _ _=>cases h
 | cons x r ih=>cases s with
  | nil=>cases h
  | cons y s=>simp at h;rw[h.1,ih (by simpa using h.2)]
def mT(es:List (Int × e7))(row:e7):Prop:=∃e∈es,∃m,m<=e.2.length/\row=e.2.take m
def pE(H:Hp)(k3:List (List aV × V))(es:List (Int × e7))(b:e7):Prop:=∃(q:Addr) (a:e7),bJ k3 (df b)=some (.ref q)/\H q=some (.tup (a.map V.int))/\∃e'∈es,e'.2=b++a
structure Kv (H:Hp) (k1:List (aV × V)) (k2 k3:List (List aV × V)) (es:List (Int × e7)):Prop where
 a:∀e∈es,∃q,bJ k1 (.inl e.1)=some (.ref q)/\H q=some (.tup (e.2.map V.int))
 b:∀e∈es,bJ k2 (df e.2)=some (.int e.1)
 b':∀r:e7,(∀e∈es,e.2≠r)->bJ k2 (df r)=none
 c:∀e∈es,∀m,m<=e.2.length->pE H k3 es (e.2.take m)
 c':∀r:e7,¬mT es r->bJ k3 (df r)=none
structure Tt (t:Adr) (H:Hp) (a:Addr) (f:Ft) (es:List (Int × e7)) (n:Nat):Prop where
 o:H a=some (.ins t.cB f.dx [("row_by_sign",.ref f.d1),("sign_by_row",.ref f.d2),("rest_by_row",.ref f.d3)])
 k:∃k1 k2 k3,H f.d1=some (.dK k1)/\H f.d2=some (.dT k2)/\H f.d3=some (.dT k3)/\k1.length<=n/\k2.length<=n/\k3.length<=n/\Kv H k1 k2 k3 es
 ne:f.d2≠f.d3
variable {H H':Hp}{a:Addr}{f:Ft}{es:List (Int × e7)}{n:Nat}
def Kv.mono{k1:List (aV × V)}{k2 k3:List (List aV × V)}(h:Kv H k1 k2 k3 es)(s:∀q xs,H q=some (.tup xs)->H' q=some (.tup xs)):Kv H' k1 k2 k3 es:=by
 refine⟨λe d=>?_,h.b,h.b',λe d m g=>?_,h.c'⟩
 ·obtain⟨q,x,y⟩:=h.a e d;exact⟨q,x,s _ _ y⟩
 ·obtain⟨q,f,x,y,z⟩:=h.c e d m g;exact⟨q,f,x,s _ _ y,z⟩
def Tt.mono(h:Tt t H a f es n)(s:aj H H'):Tt t H' a f es n:=by
 obtain⟨o,⟨k1,k2,k3,g,j,d,l1,c,b,i⟩,ne⟩:=h;exact⟨s _ _ o,⟨k1,k2,k3,s _ _ g,s _ _ j,s _ _ d,l1,c,b,i.mono λq xs e=>s _ _ e⟩,ne⟩
def cA{c d:Addr}{u v:HO}(h:H c=some u)(k:H d=some v)(n:u≠v):c≠d:=λz=>by rw[z,k]at h;exact n (Vy h).symm
def eQ(f:Ft)(H a:Hp):Prop:=∀c u,c≠f.d1->c≠f.d2->c≠f.d3->H c=some u->a c=some u
def eQ.trans{H b a:Hp}(h:eQ f H b)(h':eQ f b a):eQ f H a:=λc u g i d e=>h' c u g i d (h c u g i d e)
def eQ.of{H a:Hp}(h:aj H a):eQ f H a:=λc u _ _ _ e=>h c u e
def Tt.tup{q:Addr}{xs:List V}(h:Tt t H a f es n)(b:H q=some (.tup xs))(k:eQ f H H'):H' q=some (.tup xs):=by
 obtain⟨o,⟨k1,k2,k3,c,d,e,_⟩,ne⟩:=h;exact k _ _ (cA b c (by intro z;cases z)) (cA b d (by intro z;cases z)) (cA b e (by intro z;cases z)) b
def HQ(t:Adr):Sp:=λvs H Q _=>∃(a:Addr) (f:Ft) (q:Addr) (n:Nat) (s:Int) (r:e7) (es:List (Int × e7)),vs=[.ref a,.int s,.ref q]/\Tt t H a f es n/\H q=some (.tup (r.map V.int))/\r.length<=6/\n<=1000/\(∀e∈es,e.1≠s/\e.2≠r) /\
 ∀H',Tt t H' a f (es++[(s,r)]) (n+9)->eQ f H H'->Q .non H'
def OK (T:Txt w K mg t):cW P w K mg base t.cB "enter" 1 t.yW t.wr ["self", "sign", "row"] (HQ t):=by
 refine⟨T.gu,T.Ml,T.S3,T.TY.okQ Bb (λvs H Q E h=>by obtain⟨a,f,q,n,s,r,es,rfl,_⟩:=h;rfl) λ_ _ _ _ H vs Q E hr h=>?_⟩;obtain⟨a,f,q,n,sg,r,es,rfl,tb,hq,lr,ln,new,k⟩:=h;have hu:=hr.units;obtain⟨o,⟨k1,k2,k3,a1,a2,a3,l1,l2,l3,kv⟩,ne⟩:=id tb;refine⟨_,(ah (qe hu (bq (K:=K) Z (aa 0)) (aa 1) (aa 2))
  (ah (qe hu (bq (K:=K) rfl (aa 0)) (aa 2) (aa 1))
  (ai (dy PassesOwn.never rfl (nH rfl T.n_range (ad (aE (U0 K) (bf (U2 K) T.n_len Ve (ad (aa 2) ae)) ag) ae)) (bj (i:=3) Bb.nd rfl (.inl rfl)) (ai (qe hu (bq (K:=K) rfl (aa 0)) (fw (Dr (K:=K) rfl) (aa 2) hG (dO (aa 3))) (fw (Dr (K:=K) rfl) (aa 2) (dO (aa 3)) hG))))))),?_⟩
 have a4:f.d1≠f.d2:=cA a1 a2 (by intro z;cases z);have a7:f.d1≠f.d3:=cA a1 a3 (by intro z;cases z);have O:a≠f.d1:=cA o a1 (by intro z;cases z);have N:a≠f.d2:=cA o a2 (by intro z;cases z);have L:a≠f.d3:=cA o a3 (by intro z;cases z);refine cq a _ f.dx _ _ Z o T.gu T.B8 Z ?_;refine aU f.d1 _ rfl (iG.k (k:=.inl sg) a1 (dq (by lia))) ?_;obtain⟨D,W⟩:∃D,D=upd H f.d1 (.dK (cH k1 (.inl sg) (.ref q))):=⟨_,rfl⟩;rw[<- W];have o1:eQ f H D:=λc u m1 m2 m3 e=>by rw[W,au m1];exact e
 have b1:D f.d1=some (.dK (cH k1 (.inl sg) (.ref q))):=by rw[W,aX]
 have b2:D f.d2=some (.dT k2):=by rw[W,au a4.symm];exact a2
 have b3:D f.d3=some (.dT k3):=by rw[W,au a7.symm];exact a3
 clear W;refine cq a _ f.dx _ _ Z (o1 _ _ O N L o) T.gu T.ud Z ?_;have aw:=tb.tup hq o1;refine aU f.d2 _ rfl (iG.t (k:=df r) b2 (by rw[<- qO];exact aw) (dq (by lia))) ?_;obtain⟨Y,U⟩:∃Y,Y=upd D f.d2 (.dT (cH k2 (df r) (.int sg))):=⟨_,rfl⟩;rw[<- U];have o2:eQ f D Y:=λc u m1 m2 m3 e=>by rw[U,au m2];exact e
 have c1:Y f.d1=some (.dK (cH k1 (.inl sg) (.ref q))):=by rw[U,au a4];exact b1
 have c2:Y f.d2=some (.dT (cH k2 (df r) (.int sg))):=by rw[U,aX]
 have c3:Y f.d3=some (.dT k3):=by rw[U,au ne.symm];exact b3
 clear U;have J:=o1.trans o2;have ax:=tb.tup hq J;refine aS (.inr (.of ax)) ?_;refine gR rfl (by rw[U9];lia) (by rw[U9];lia) ?_;rw[U9];refine vf (lo:=0) (n:=((r.length:Int)+1).toNat) (λi σ H'=>eQ f H H'/\H' f.d1=some (.dK (cH k1 (.inl sg) (.ref q)))/\H' f.d2=some (.dT (cH k2 (df r) (.int sg)))/\(∃g,H' f.d3=some (.dT g)/\g.length<=n+i/\(∀m,m<i->pE H' g (es++[(sg,r)]) (r.take m))/\(∀e∈es,∀m,m<=e.2.length->pE H' g (es++[(sg,r)]) (e.2.take m))/\(∀p,¬mT (es++[(sg,r)]) p->bJ g (df p)=none))/\∃v3,σ=[some (.ref a),some (.int sg),some (.ref q),v3]) ⟨J,c1,c2,⟨k3,c3,by lia,(λm h=>Ya h (by lia)),(λe d m F=>?_),λp v=>kv.c' p λ⟨e,d,z⟩=>v ⟨e,VQ _ d,z⟩⟩,_,rfl⟩ ?_ ?_
 ·obtain⟨q',r2,x,y,e',aA,z⟩:=kv.c e d m F;exact⟨q',r2,x,tb.tup y J,e',VQ _ aA,z⟩
 ·rintro i σ H3 hi ⟨G,d1,d2,⟨g,d3,ap,j,l,S⟩,v3,rfl⟩;have C:=tb.tup hq G;refine⟨_,Z,_,.of C,C,λB H4 s4 h4=>?_⟩;refine cq a _ f.dx _ _ Z (s4 _ _ (G _ _ O N L o)) T.gu T.ue Z ?_;refine⟨_,Z,_,.of (s4 _ _ C),s4 _ _ C,λp5 H5 s5 h5=>?_⟩;rw[Int.zero_add,wW,qO]at h5;have R:=s4.trans s5;refine aU f.d3 _ rfl (iG.t (k:=df (r.take i)) (R _ _ d3) h5 (dq (by lia))) ?_;obtain⟨M,e6⟩:∃M,M=upd H5 f.d3 (.dT (cH g (df (r.take i)) (.ref B))):=⟨_,rfl⟩;rw[<- e6];have t6:∀c u,c≠f.d3->H3 c=some u->M c=some u:=λc u m e=>by rw[e6,au m];exact R _ _ e
  have aB:B≠f.d3:=cA (s5 _ _ h4) (R _ _ d3) (by intro z;cases z);have aq:M B=some (.tup (dR (r.map V.int) (some (0+(i:Int))) none)):=by rw[e6,au aB];exact s5 _ _ h4
  have b6:M f.d3=some (.dT (cH g (df (r.take i)) (.ref B))):=by rw[e6,aX]
  clear e6;have I:M B=some (.tup ((r.drop i).map V.int)):=by
   rw[aq,Int.zero_add,gL];exact congrArg _ (congrArg _ (congrArg _ (rE r i)))
  have keep:∀p,pE H3 g (es++[(sg,r)]) p->pE M (cH g (df (r.take i)) (.ref B)) (es++[(sg,r)]) p:=by
   rintro p ⟨q',r2,x,y,z⟩;by_cases c:df p=df (r.take i)
   ·have c':=qP c;exact⟨B,r.drop i,by rw[ij,X9 c],I,(sg,r),by simp,by rw[c',V8]⟩
   ·exact⟨q',r2,by rw[ij,X8 c];exact x,t6 _ _ (cA y d3 (by intro z;cases z)) y,z⟩
  refine⟨λc u m1 m2 m3 e=>t6 _ _ m3 (G c u m1 m2 m3 e),t6 _ _ a7 d1,t6 _ _ ne d2,⟨_,b6,?_,λm F=>?_,(λe d m F=>keep _ (l e d m F)),λp v=>?_⟩,_,Z⟩
  ·have:=nX g (df (r.take i)) (.ref B);lia
  ·by_cases c:m<i
   ·exact keep _ (j m c)
   ·obtain rfl:m=i:=by lia
    exact⟨B,r.drop m,by rw[ij,X9 rfl],I,(sg,r),by simp,by rw[V8]⟩
  ·rw[ij,X8 (λz=>v ⟨(sg,r),by simp,i,by dsimp only;lia,qP z⟩)];exact S p v
 ·rintro σ H3 ⟨G,d1,d2,⟨g,d3,ap,j,l,S⟩,_⟩;refine k _ ⟨G _ _ O N L o,⟨_,_,g,d1,d2,d3,?_,?_,by lia,?_⟩,ne⟩ G
  ·have:=nX k1 (.inl sg) (.ref q);lia
  ·have:=nX k2 (df r) (.int sg);lia
  ·refine⟨λe d=>?_,λe d=>?_,λr' a6=>?_,(λe d m F=>?_),S⟩
   ·rcases Vm.mp d with d|d
    ·rw[ij,X8 (λz=>(new e d).1 (Sum.inl.inj z))];obtain⟨q',x,y⟩:=kv.a e d;exact⟨q',x,tb.tup y G⟩
    ·rw[Vp.mp d,ij,X9 rfl];exact⟨q,Z,tb.tup hq G⟩
   ·rcases Vm.mp d with d|d
    ·rw[ij,X8 (λz=>(new e d).2 (qP z))];exact kv.b e d
    ·rw[Vp.mp d,ij,X9 rfl]
   ·rw[ij,X8 (λz=>a6 (sg,r) (by simp) (qP z).symm)];exact kv.b' r' λe d=>a6 e (by simp[d])
   ·rcases Vm.mp d with d|d
    ·exact l e d m F
    ·rw[Vp.mp d]at F ⊢;exact j m (by dsimp only at F;lia)
def AI(t:Adr):Sp:=λvs H Q _=>∃(a dx p:Addr) (ps:List Addr) (es:List (Int × e7)),vs=[.ref a,.ref p]/\H a=some (.ins t.cB dx [])/\H p=some (.lst (ps.map V.ref))/\m4 H ps es/\Es es /\
 ∀f H',Kp a H H'->Tt t H' a f es 1000->Q .non H'
def Tt.up{H:Hp}{a:Addr}{f:Ft}{es:List (Int × e7)}{n m:Nat}(h:Tt t H a f es n)(j:n<=m):Tt t H a f es m:=by
 obtain⟨o,⟨k1,k2,k3,c,e,b,l1,i,g,d⟩,ne⟩:=h;exact⟨o,⟨k1,k2,k3,c,e,b,by lia,by lia,by lia,d⟩,ne⟩
def LO (T:Txt w K mg t):bN P w K mg base cn 6 t.sD t.rj ["self", "rows"] (AI t):=by
 refine T.TW.okQ A9 (λvs H Q E h=>by obtain⟨a,dx,p,ps,es,rfl,_⟩:=h;rfl) λ_ _ _ _ H vs Q E hr h=>?_;obtain⟨a,dx,p,ps,es,rfl,J,Y,en,ok,kq⟩:=h;have hu:=hr.units;refine⟨_,(ah (cY (aW (OB T) hr (ad (aa 1) ae)))
  (ah (dS (K:=K) rfl (aa 0) BC)
  (ah (dS (K:=K) rfl (aa 0) BB)
  (ah (dS (K:=K) rfl (aa 0) BB)
  (ai (dy PassesOwn.never rfl (d7 (K:=K) rfl (aa 1)) (bj (i:=2) A9.nd rfl (.inl rfl)) (ai (cY (fA (OK T) hr (aa 0) (ad (ay (U3 K) (aa 2) ag (λ_ _=>rfl)) (ad (cw (sx (K:=K) rfl) T.n_tuple WN (ad (ay (U3 K) (aa 2) ag (λ_ _=>rfl)) ae)) ae))))))))))),?_⟩
 refine⟨p,ps,es,Z,Y,en,ok,λH1 s1=>?_⟩;refine λd1 H2 g=>?_;refine dl a _ dx _ rfl (g.sm _ _ (s1 _ _ J)) T.gu T.B8 (Vd Xx (by decide)) ?_;obtain⟨m,O⟩:∃m,m=upd H2 a (HO.ins t.cB dx (cI "row_by_sign" (.ref d1) [])):=⟨_,rfl⟩;have a3:m a=some (.ins t.cB dx [("row_by_sign",.ref d1)]):=by rw[O,aX];rfl
 have k3:Kp a H2 m:=by rw[O];exact Kp.upd
 rw[<- O];clear O;refine λd2 H4 M=>?_;refine dl a _ dx _ rfl (M.sm _ _ a3) T.gu T.ud (Vd (Vv 1) (by decide)) ?_;obtain⟨k,R⟩:∃k,k=upd H4 a (HO.ins t.cB dx (cI "sign_by_row" (.ref d2) [("row_by_sign",.ref d1)])):=⟨_,rfl⟩;have a5:k a=some (.ins t.cB dx [("row_by_sign",.ref d1),("sign_by_row",.ref d2)]):=by rw[R,aX];rfl
 have k5:Kp a H4 k:=by rw[R];exact Kp.upd
 rw[<- R];clear R;refine λd3 H6 v=>?_;refine dl a _ dx _ rfl (v.sm _ _ a5) T.gu T.ue (Vd (Vv 2) (by decide)) ?_;obtain⟨b,S⟩:∃b,b=upd H6 a (HO.ins t.cB dx (cI "rest_by_row" (.ref d3) [("row_by_sign",.ref d1),("sign_by_row",.ref d2)])):=⟨_,rfl⟩;have a7:b a=some (.ins t.cB dx [("row_by_sign",.ref d1),("sign_by_row",.ref d2),("rest_by_row",.ref d3)]):=by rw[S,aX];rfl
 have k7:Kp a H6 b:=by rw[S];exact Kp.upd
 rw[<- S];clear S;have n1:d1≠a:=(aO (s1 _ _ J) g.nw).symm;have n2:d2≠a:=(aO a3 M.nw).symm;have n3:d3≠a:=(aO a5 v.nw).symm;have B:Kp a m k:=(Kp.of M.sm).trans k5;have L:Kp a k b:=(Kp.of v.sm).trans k7;have I:Kp a m b:=B.trans L;have a0:Kp a H1 b:=(Kp.of g.sm).trans (k3.trans I);have a9:Kp a H b:=(Kp.of s1).trans a0;have b2:k d2=some (.dT []):=k5 _ _ n2 M.at_;have W:d2≠d3:=aO b2 v.nw;have tb:Tt t b a ⟨dx,d1,d2,d3⟩ [] 0:=⟨a7,⟨[],[],[],I _ _ n1 (k3 _ _ n1 g.at_),L _ _ n2 b2,k7 _ _ n3 v.at_,Va _,Va _,Va _,⟨(λe h=>nomatch h),(λe h=>nomatch h),(λr _=>rfl),(λe h=>nomatch h),(λr _=>rfl)⟩⟩,W⟩;have f1:H d1=none:=s1.free g.nw;have f2:∀c u,H c=some u->c≠a->c≠d2:=λc u e n=>aO (k3 _ _ n (g.sm _ _ (s1 _ _ e))) M.nw;have f3:∀c u,H c=some u->c≠a->c≠d3:=λc u e n=>aO (B _ _ n (k3 _ _ n (g.sm _ _ (s1 _ _ e)))) v.nw;have lx:=en.1;have aI:=ok.l;have f:∀d,eQ ⟨dx,d1,d2,d3⟩ b d->Kp a H d:=λd o c u n e=>o c u (aO e f1) (f2 c u e n) (f3 c u e n) (a9 c u n e);have px:∀d,eQ ⟨dx,d1,d2,d3⟩ b d->d p=some (.lst (ps.map V.ref)):=λd o=>f d o _ _ (cA Y J (by intro z;cases z)) Y;refine dX p rfl ⟨_,.of (px b (eQ.of (aj.refl _)))⟩ (iS (K:=K) (a:=p) (xs:=ps.map V.ref) (λi σ d=>Tt t d a ⟨dx,d1,d2,d3⟩ (es.take i) (i*9)/\eQ ⟨dx,d1,d2,d3⟩ b d/\∃v2,σ=[some (.ref a),some (.ref p),v2]) ⟨tb.up (by lia),eQ.of (aj.refl _),_,rfl⟩ (λi σ d _ z=>.of (px d z.2.1)) ?_ ?_)
 ·rintro i x σ H8 hx ⟨C,y,v2,rfl⟩;obtain⟨pe,N,rfl⟩:=qc hx;obtain⟨e,he,⟨q,D,G⟩,l1,l6⟩:=en.right N;have F:=f _ y _ _ (cA D J (by intro z;cases z)) D;have a1:=f _ y _ _ (cA G J (by intro z;cases z)) G;have hi:i<ps.length:=(Vh.mp N).1;refine bL a dx _ Z C.o Z ?_;refine bi (.inr (.of F)) (aA (j:=0) Z) ?_;refine bi (.inr (.of F)) (aA (j:=1) Z) ?_;refine aS (.of a1) (λpt H9 U=>?_);refine⟨a,⟨dx,d1,d2,d3⟩,pt,i*9,e.1,e.2,es.take i,rfl,C.mono U.sm,U.at_,l6,by lia,λe' a8=>?_,λHA tA oA=>?_⟩
  ·obtain⟨j,hj,rfl⟩:=Xb.mp a8;obtain⟨a2,e2⟩:=Vh.mp he;rw[Vk]at hj;have s:=Ws.mp ok.pw j i (by lia) a2 (by lia);rw[e2]at s;rw[List.getElem_take];unfold gq c7 at s;refine⟨λz=>?_,λz=>?_⟩
   ·rw[Yc z]at s;cases s
   ·rw[z]at s;simp at s
  ·have et:es.take (i+1)=es.take i++[(e.1,e.2)]:=fh he;rw[et];exact⟨tA.up (by lia),y.trans ((eQ.of U.sm).trans oA),_,rfl⟩
 ·rintro σ H8 ⟨t8,y,_⟩;rw[U9,lx,Vw]at t8;exact kq _ _ (f _ y) (t8.up (by lia))
def NU (T:Txt w K mg t):mZ P w K mg base "TableTongue" t.cB 6 t.sD t.rj ["self", "rows"] [] (AI t):=⟨T.O5,T.MM,⟨[],T.S0,.nil⟩,LO T⟩
def AD(t:Adr):Sp:=λvs H Q _=>∃(a:Addr) (f:Ft) (es:List (Int × e7)) (q:Addr) (row:e7) (g:Int),vs=[.ref a,.ref q,.int g]/\Tt t H a f es 1000/\Es es/\H q=some (.lst (row.map V.int)) /\
 ((∀e∈es,e.2≠row)->∀H',aj H H'->Q .non H')/\(∀e∈es,e.2=row->∀p H',aj H H'->H' p=some (.tup [.int e.1,.int g])->Q (.ref p) H')
def LH (T:Txt w K mg t):bN P w K mg base cn 2 t.sC t.oz ["self", "row", "page"] (AD t):=by
 refine T.TV.okQ A8 (λvs H Q E h=>by obtain⟨o,f,es,q,row,g,rfl,_⟩:=h;rfl) λ_ _ _ _ H vs Q E D h=>?_;obtain⟨a,f,es,q,row,g,rfl,y,ok,x,v,ks⟩:=h;have B:=D.units;refine⟨_,(ah (aF (i:=3) A8.nd Z (.inl Z) (BD B (bq (K:=K) Z (aa 0)) (cw (sx (K:=K) Z) T.n_tuple WN (ad (aa 1) ae))))
  (ai (aq (i9 (aw gJ (aa 3) bW (av _)) bW (bR (ad (aa 3) (ad (aa 2) ae))))))),?_⟩
 obtain⟨o,⟨k1,k2,k3,F,r,G,_,_,_,m⟩,ne⟩:=id y;refine cq a _ f.dx _ _ Z o T.gu T.ud Z ?_;refine dX f.d2 Z (.inr ⟨_,.inl r⟩) ?_;refine aS (.of x) (λI s j=>?_);have p:=j.at_;rw[qO]at p;refine aS (fN.t (j.sm _ _ r) p) ?_;by_cases c:∀e∈es,e.2≠row
 ·rw[m.b' row c];exact v c s j.sm
 ·obtain⟨e,z⟩:=Classical.not_forall.mp c;obtain⟨l,d⟩:=Classical.not_imp.mp z;have d:e.2=row:=Classical.not_not.mp d;have k:=m.b e l;rw[d]at k;rw[k];exact⟨sz Z,λu C n=>ks e l d u C (j.sm.trans n.sm) n.at_⟩
def OH (T:Txt w K mg t):fe P w K mg base t.cB "whole" 2 t.sC t.oz ["self", "row", "page"] [] (AD t) :=
 ⟨T.gu,T.Mi,⟨_,T.SZ,.nil⟩,LH T⟩
def AL(t:Adr):Sp:=λvs H Q _=>∃(a:Addr) (f:Ft) (es:List (Int × e7)) (q:Addr) (row:e7) (g:Int),vs=[.ref a,.ref q,.int g]/\Tt t H a f es 1000/\H q=some (.lst (row.map V.int)) /\
 (mT es row->∀p H',aj H H'->Q (.ref p) H')/\(¬mT es row->∀H',aj H H'->Q .non H')
def LR (T:Txt w K mg t):bN P w K mg base cn 3 t.sE t.oC ["self", "row", "page"] (AL t):=by
 refine T.TX.okQ Ba (λvs H Q E h=>by obtain⟨o,f,es,q,row,g,rfl,_⟩:=h;rfl) λ_ _ _ _ H vs Q E F h=>?_;obtain⟨a,f,es,q,row,g,rfl,y,v,k,s⟩:=h;have B:=F.units;refine⟨_,(ah (aF (i:=3) Ba.nd Z (.inl Z) (BD B (bq (K:=K) Z (aa 0)) (cw (sx (K:=K) Z) T.n_tuple WN (ad (aa 1) ae))))
  (ai (aq (i9 (aw gJ (aa 3) bW (av _)) bW (cw (U5 K) T.n_list VL (ad (aa 3) ae)))))),?_⟩
 obtain⟨o,⟨k1,k2,k3,G,N,l,_,_,_,j⟩,ne⟩:=id y;refine cq a _ f.dx _ _ Z o T.gu T.ue Z ?_;refine dX f.d3 Z (.inr ⟨_,.inl l⟩) ?_;refine aS (.of v) (λM p b=>?_);have n:=b.at_;rw[qO]at n;refine aS (fN.t (b.sm _ _ l) n) ?_;by_cases c:mT es row
 ·obtain⟨e,z,m,u,rfl⟩:=id c;obtain⟨L,J,C,d,I⟩:=j.c e z m u;rw[C];exact⟨_,.inr (.of (b.sm _ _ d)),λr D x=>k c r D (b.sm.trans x.sm)⟩
 ·rw[j.c' row c];exact s c p b.sm
def OJ (T:Txt w K mg t):fe P w K mg base t.cB "fill" 3 t.sE t.oC ["self", "row", "page"] [] (AL t) :=
 ⟨T.gu,T.Mj,⟨_,T.S1,.nil⟩,LR T⟩
inductive Kt where
 | ld
 | pr (h:Bool)
 | sh (f:Fp) (ns ms:e7)
 | tb (f:Ft) (es:List (Int × e7))
 | br
def TN(t:Adr)(H:Hp)(o:Addr):Kt->Prop
 | .ld=>∃dx,H o=some (.ins t.f9 dx [])
 | .pr h=>Po t H o h
 | .sh f ns ms=>Tg t H o f ns ms
 | .tb f es=>Tt t H o f es 1000/\Es es
 | .br=>∃dx,H o=some (.ins t.f6 dx [])
def TN.mono{H a:Hp}{o:Addr}{D:Kt}(h:TN t H o D)(s:aj H a):TN t a o D:=by
 cases D with
 | ld=>obtain⟨dx,h⟩:=h;exact⟨dx,s _ _ h⟩
 | pr b=>exact Po.mono h s
 | sh f ns ms=>exact Tg.mono h s
 | tb f es=>exact⟨Tt.mono h.1 s,h.2⟩
 | br=>obtain⟨dx,h⟩:=h;exact⟨dx,s _ _ h⟩
def tJ:Kt->Int->Int->Option (e7 × Int)
 | .ld,g,n=>some (row n,g)
 | .pr h,g,n=>some (fU h n,g)
 | .sh _ ns ms,g,n=>fi (ao g ns ms) (ao g ms ns) g (.int n)
 | .tb _ es,g,n=>(es.find? λe=>decide (e.1=n)).map λe=>(e.2,g)
 | .br,_,_=>none
def bI(D:Kt)(g n:Int):e7 × Int:=(tJ D g n).getD ([],g)
def dM:Kt->Int->Prop
 | .ld,n=>Sg n
 | .pr _,n=>Sg n
 | .sh _ ns ms,n=>n∈ns\/n∈ms
 | .tb _ es,n=>∃e∈es,e.1=n
 | .br,_=>False
def bZ:Kt->Int->Prop
 | .sh _ _ _,g=>cP g
 | _,g=>g=0
def G4{ns ms:e7}{g n:Int}(two:cP g)(h:n∈ns\/n∈ms):∃r g',fi (ao g ns ms) (ao g ms ns) g (.int n)=some (r,g')/\cP g'/\r.length<=2:=by
 have a:n∈ao g ns ms\/n∈ao g ms ns:=by
  rcases two with rfl|rfl
  ·exact h
  ·exact h.symm
 unfold fi;dsimp only;cases e:cS (ao g ns ms) n with
 | some i=>exact⟨_,_,rfl,two,by show (1:Nat)<=2;decide⟩
 | none =>
  dsimp only;have b:=iz.mp e;rcases a with a|a
  ·exact Ya a b
  ·obtain⟨i,c,_⟩:=jQ a;rw[c];exact⟨_,_,rfl,two.flip,by show (2:Nat)<=2;decide⟩
def mQ{es:List (Int × e7)}{n:Int}(h:∃e∈es,e.1=n):∃e∈es,e.1=n/\(es.find? λe=>decide (e.1=n))=some e:=by
 cases e:es.find? λe=>decide (e.1=n) with
 | none =>
  obtain⟨f,hf,rfl⟩:=h;have:=V3.mp e f hf;simp at this
 | some f =>
  exact⟨f,Xc e,by simpa using WI e,rfl⟩
def zu:Kt->Prop
 | .tb _ es=>Es es
 | _=>True
def G2{D:Kt}{g n:Int}(tn:zu D)(c:bZ D g)(d:dM D n):∃r g',tJ D g n=some (r,g')/\bI D g n=(r,g')/\bZ D g'/\r.length<=6:=by
 have key:∃r g',tJ D g n=some (r,g')/\bZ D g'/\r.length<=6:=by
  cases D with
  | ld=>exact⟨_,_,rfl,c,Vs (Bl n).2 (by decide)⟩
  | pr b=>exact⟨_,_,rfl,c,Vs (KD b n) (by decide)⟩
  | sh f ns ms =>
   obtain⟨r,g',e,two,l⟩:=G4 c d;exact⟨r,g',e,two,by lia⟩
  | tb f es =>
   obtain⟨e,h,_,i⟩:=mQ d;exact⟨e.2,g,by show Option.map _ _=_;rw[i];rfl,c,(Es.sg tn e h).2.2.1⟩
  | br=>exact d.elim
 obtain⟨r,g',e,a,b⟩:=key;exact⟨r,g',e,by unfold bI;rw[e];rfl,a,b⟩
def Gb{g:e7}(h:gy g)(b:∀x∈g,0<=x):Sg (gM g)/\row (gM g)=g:=by
 cases g with
 | nil=>exact h.elim
 | cons f r =>
  have m:=b f (Vz ..);obtain⟨⟨_,ft⟩,a⟩:=h;obtain⟨d,i⟩:=(DI f r).mp ft
  match r,a,d,i with
  | [],a,_,_ =>
   have hf:f<128:=by
    have a:((0:Nat):Int)+1=lb f:=a;unfold lb at a;by_cases c:f<128
    ·exact c
    ·rw[X8 c]at a;(repeat' split at a)<;>omega
   show Sg f/\row f=[f];refine⟨by unfold Sg;omega,?_⟩;unfold row;rw[X9 hf]
  | [x],a,d,i =>
   have a:((1:Nat):Int)+1=lb f:=a;have hx:=d x (by simp);have e:gM [f,x]=(f-192)*64+(x-128):=by simp[gM,je,cz]
   have hf:194<=f/\f<224:=by
    unfold lb at a
    (repeat' split at a)<;>omega
   rw[e];refine⟨by unfold Sg;omega,?_⟩;unfold row;rw[X8 (by omega),X9 (by omega)]
   congr 1
   ·omega
   ·congr 1;omega
  | [x,y],a,d,i =>
   have a:((2:Nat):Int)+1=lb f:=a;have hx:=d x (by simp);have k:=d y (by simp);have j:=i x rfl;have e:gM [f,x,y]=(f-224)*4096+(x-128)*64+(y-128):=by simp[gM,je,cz];omega
   have hf:224<=f/\f<240:=by
    unfold lb at a
    (repeat' split at a)<;>omega
   have z:(f=224->160<=x)/\(f=237->x<=159)/\(f=238->x<=187):=by
    unfold gG gH at j;refine⟨λc=>?_,λc=>?_,λc=>?_⟩<;>subst c<;>simp at j<;>omega
   rw[e];refine⟨by unfold Sg;omega,?_⟩;unfold row;rw[X8 (by omega),X8 (by omega),X9 (by omega)]
   congr 1
   ·omega
   ·congr 1
    ·omega
    ·congr 1;omega
  | [x,y,v],a,d,i =>
   have a:((3:Nat):Int)+1=lb f:=a;have hx:=d x (by simp);have k:=d y (by simp);have l:=d v (by simp);have j:=i x rfl;have e:gM [f,x,y,v]=(f-240)*262144+(x-128)*4096+(y-128)*64+(v-128):=by simp[gM,je,cz];omega
   have hf:240<=f/\f<=244:=by
    unfold lb at a
    (repeat' split at a)<;>omega
   have z:(f=240->144<=x)/\(f=244->x<=143):=by
    unfold gG gH at j;refine⟨λc=>?_,λc=>?_⟩<;>subst c<;>simp at j<;>omega
   rw[e];refine⟨by unfold Sg;omega,?_⟩;unfold row;rw[X8 (by omega),X8 (by omega),X8 (by omega)]
   congr 1
   ·omega
   ·congr 1
    ·omega
    ·congr 1
     ·omega
     ·congr 1;omega
  | _::_::_::_::r,a,_,_ =>
   exfalso
   have:=(qL f).2;simp at a;omega
def Gd(h:Bool){r:e7}{n:Int}(hb:bp r)(e:eR h r=some n):Sg n/\fU h n=r:=by
 unfold eR at e;by_cases c:r.length=2\/r.length=4
 ·rw[X9 c]at e;rcases c with c|c
  ·match r,c with
   | [x,y],_ =>
    have hx:=hb x (by simp);have a:=hb y (by simp);have e:ik [u2 h x y]=some n:=e;have e:(if eW (.int (u2 h x y))=true then some (u2 h x y) else none)=some n:=e;by_cases d:eW (.int (u2 h x y))=true
    ·rw[X9 d]at e;cases e;refine⟨(nA _).mp d,?_⟩;unfold fU dn u2;cases h
     ·simp[ub];rw[X9 (by omega)];simp[ub];omega
     ·simp[ub];rw[X9 (by omega)];simp[ub];omega
    ·rw[X8 d]at e;cases e
  ·match r,c with
   | [x,y,z,v],_ =>
    have hx:=hb x (by simp);have a:=hb y (by simp);have hz:=hb z (by simp);have b:=hb v (by simp);have e:ik [u2 h x y,u2 h z v]=some n:=e;unfold ik at e;simp only at e
    split at e
    ·cases e;rename_i d;cases h
     ·simp[u2]at d ⊢;refine⟨by unfold Sg;omega,?_⟩;unfold fU dn;rw[X8 (by omega)];simp[ub];omega
     ·simp[u2]at d ⊢;refine⟨by unfold Sg;omega,?_⟩;unfold fU dn;rw[X8 (by omega)];simp[ub];omega
    ·cases e
 ·rw[X8 c]at e;cases e
def tK{ns ms:e7}{g n:Int}(two:cP g)(h:n∈ns\/n∈ms):∃r g',fi (ao g ns ms) (ao g ms ns) g (.int n)=some (r,g')/\cP g'/\((∃b:Int,r=[b]/\0<=b/\(ao g ns ms)[b.toNat]? = some n/\g'=g)\/(∃c:Int,r=[254+(1-g),c]/\0<=c/\(ao g ms ns)[c.toNat]? = some n/\n∉ao g ns ms/\g'=1-g)):=by
 have a:n∈ao g ns ms\/n∈ao g ms ns:=by
  rcases two with rfl|rfl
  ·exact h
  ·exact h.symm
 unfold fi;dsimp only;cases e:cS (ao g ns ms) n with
 | some i=>exact⟨_,_,rfl,two,.inl ⟨(i:Int),rfl,by lia,by simpa using (jg e).1,rfl⟩⟩
 | none =>
  dsimp only;have d:=iz.mp e;rcases a with a|a
  ·exact Ya a d
  ·obtain⟨i,f,_⟩:=jQ a;rw[f];exact⟨_,_,rfl,two.flip,.inr ⟨(i:Int),rfl,by lia,by simpa using (jg f).1,d,rfl⟩⟩
def tI{f:Fp}{ns ms:e7}{g n:Int}{r:e7}{g':Int}(e:fi (ao g ns ms) (ao g ms ns) g (.int n)=some (r,g')):bI (.sh f ns ms) g n=(r,g'):=by
 show (fi (ao g ns ms) (ao g ms ns) g (.int n)).getD ([],g)=_;rw[e];rfl
def aP{x:Str}(h:PyData.strOk x=true):SeqAt.shaped (.str x)=true:=by
 simpa [SeqAt.shaped,PyData.canLay0,PyData.depth] using h
def AH:Sp:=λvs H Q _=>∃a b c:V,vs=[a,b,c]/\Q .non H
def OE (T:Txt w K mg t):fe P w K mg base t.f6 "whole" 1 t.yU t.rh ["self", "row", "page"] [] AH :=
 ⟨T.si,T.Me,⟨_,T.SX,.nil⟩,T.TM.okQ IW (λvs H Q E h=>by obtain⟨a,b,c,rfl,_⟩:=h;rfl) λd A outer s H vs Q E e h=>by
  obtain⟨a,b,c,rfl,k⟩:=h;exact⟨_,(ai (aq bW)),k⟩⟩
def OG (T:Txt w K mg t):fe P w K mg base t.f6 "fill" 1 t.yV t.ri ["self", "row", "page"] [] AH :=
 ⟨T.si,T.Mh,⟨_,T.SY,.nil⟩,T.TU.okQ IZ (λvs H Q E h=>by obtain⟨a,b,c,rfl,_⟩:=h;rfl) λd A outer s H vs Q E e h=>by
  obtain⟨a,b,c,rfl,k⟩:=h;exact⟨_,(ai (aq bW)),k⟩⟩
inductive Lk where
 | sg (n g:Int)
 | mo
 | no
def Cq(g:Int):Lk->List V
 | .sg n g'=>[.str "sign",.int n,.int g']
 | .mo=>[.str "more",.non,.int g]
 | .no=>[.str "none",.non,.int g]
open Classical in
noncomputable def aY:Kt->Int->e7->Lk
 | .ld,g,r=>if gy r then .sg (gM r) g else if m6 r then .mo else .no
 | .pr h,g,r=>match eR h r with
  | some n=>.sg n g
  | none=>if iU h r=none then .no else .mo
 | .sh _ ns ms,g,r=>match dY (ao g ns ms) (ao g ms ns) g r with
  | some (n,g')=>.sg n g'
  | none=>if gK (ao g ns ms) (ao g ms ns) g r=true then .mo else .no
 | .tb _ es,g,r=>match es.find? λe=>decide (e.2=r) with
  | some e=>.sg e.1 g
  | none=>if mT es r then .mo else .no
 | .br,_,_=>.no
def Dm:Kt->Int->e7->Prop
 | .ld,_,r=>bp r/\r.length<=9
 | .pr _,_,r=>bp r/\r.length<=9
 | .sh _ _ _,g,r=>sR g r
 | .tb _ _,_,r=>bp r
 | .br,_,_=>True
def kc(t:Adr):Sp:=λvs H Q _=>∃(o q:Addr) (D:Kt) (g:Int) (r:e7),vs=[.ref o,.ref q,.int g]/\TN t H o D/\bZ D g/\H q=some (.lst (r.map V.int))/\Dm D g r/\∀p H',aj H H'->H' p=some (.tup (Cq g (aY D g r)))->Q (.ref p) H'
def nQ (T:Txt w K mg t):bN P w K mg base cn 7 t.gO t.iV ["self", "begun", "page"] (kc t):=by
 refine T.TR.okQ A7 (λvs H Q E h=>by obtain⟨o,q,D,g,r,rfl,_⟩:=h;rfl) λ_ _ _ _ H vs Q E u h=>?_;obtain⟨o,q,D,g,r,rfl,tn,pg,B,F,k⟩:=h;have hu:=u.units;refine⟨_,(ah (aF (i:=3) A7.nd Z (.inl Z) (dI (d8 (OE T) u (aa 0) (ad (aa 1) (ad (aa 2) ae))) (dI (d8 (OX T) u (aa 0) (ad (aa 1) (ad (aa 2) ae))) (dI (d8 (Df T) u (aa 0) (ad (aa 1) (ad (aa 2) ae))) (dI (d8 (Da T) u (aa 0) (ad (aa 1) (ad (aa 2) ae))) (d8 (OH T) u (aa 0) (ad (aa 1) (ad (aa 2) ae))))))))
  (ah (aD (aw qW (aa 3) bW (av _)) (ai (aq (bR (ad bc (ad (ay (U3 K) (aa 3) ag (λ_ _=>rfl)) (ad (ay (U3 K) (aa 3) ag (λ_ _=>rfl)) ae)))))) aG)
  (ah (aD (aw gJ (dI (d8 (OG T) u (aa 0) (ad (aa 1) (ad (aa 2) ae))) (dI (d8 (OZ T) u (aa 0) (ad (aa 1) (ad (aa 2) ae))) (dI (d8 (OW T) u (aa 0) (ad (aa 1) (ad (aa 2) ae))) (dI (d8 (OM T) u (aa 0) (ad (aa 1) (ad (aa 2) ae))) (d8 (OJ T) u (aa 0) (ad (aa 1) (ad (aa 2) ae))))))) bW (av _)) (ai (aq (bR (ad bc (ad bW (ad (aa 2) ae)))))) aG)
  (ai (aq (bR (ad bc (ad bW (ad (aa 2) ae))))))))),?_⟩
 cases D with
 | br =>
  obtain⟨dx,ho⟩:=id tn;refine .inl ⟨o,dx,_,Z,ho,Z,_,_,_,Z,?_⟩;refine .inl ⟨o,dx,_,Z,ho,Z,_,_,_,Z,?_⟩;exact⟨sz Z,λd c a=>k d c a.sm a.at_⟩
 | ld =>
  obtain rfl:g=0:=pg;obtain⟨dx,ho⟩:=id tn;have O:r.length<=1000:=by have:=F.2;lia
  dsimp only [aY]at k;refine .inr (.inl ⟨o,dx,_,Z,ho,Z,?_⟩);refine⟨o,q,_,Z,.of B,O,λS p x s=>?_,λnw x s1=>?_⟩
  ·rw[X9 S]at k;refine bi (.inr s.tup) (aA (j:=0) Z) ?_;refine bi (.inr s.tup) (aA (j:=1) Z) ?_;exact⟨sz Z,λd c a=>k d c (s.sm.trans a.sm) a.at_⟩
  ·rw[X8 nw]at k;refine .inr (.inl ⟨o,dx,_,Z,s1 _ _ ho,Z,?_⟩);refine⟨o,q,_,Z,.of (s1 _ _ B),O,λbg d c a=>?_,λU c C=>?_⟩
   ·rw[X9 bg]at k;exact⟨sz Z,λm l b=>k m l (s1.trans (a.sm.trans b.sm)) b.at_⟩
   ·rw[X8 U]at k;exact⟨sz Z,λm l b=>k m l (s1.trans (C.trans b.sm)) b.at_⟩
 | pr h =>
  obtain rfl:g=0:=pg;have po:Po t H o h:=tn;obtain⟨dx,ho⟩:=id po;have V:=F.2;dsimp only [aY]at k;refine .inr (.inr (.inl ⟨o,dx,_,Z,ho,Z,?_⟩));refine⟨o,q,h,_,rfl,po,.of B,F.1,by lia,λY N p x s=>?_,λN x s1=>?_⟩
  ·rw[N]at k;refine bi (.inr s.tup) (aA (j:=0) Z) ?_;refine bi (.inr s.tup) (aA (j:=1) Z) ?_;exact⟨sz Z,λd c a=>k d c (s.sm.trans a.sm) a.at_⟩
  ·rw[N]at k;dsimp only at k;refine .inr (.inr (.inl ⟨o,dx,_,Z,s1 _ _ ho,Z,?_⟩));refine⟨o,q,h,_,rfl,po.mono s1,.of (s1 _ _ B),F.1,by lia,λf v d c a=>?_,λv c C=>?_⟩
   ·rw[X8 (by rw[v];intro z;cases z)]at k;exact⟨sz Z,λm l b=>k m l (s1.trans (a.sm.trans b.sm)) b.at_⟩
   ·rw[X9 v]at k;exact⟨sz Z,λm l b=>k m l (s1.trans (C.trans b.sm)) b.at_⟩
 | sh f ns ms =>
  have two:cP g:=pg;have G:Tg t H o f ns ms:=tn;dsimp only [aY]at k;refine .inr (.inr (.inr (.inl ⟨o,f.dx,_,Z,G.o,Z,?_⟩)));refine⟨o,f,ns,ms,q,_,g,Z,two,G,B,F,λhw=>?_,λn g' hw p x s=>?_⟩
  ·rw[hw]at k;dsimp only at k;refine .inr (.inr (.inr (.inl ⟨o,f.dx,_,Z,G.o,Z,?_⟩)));refine⟨o,f,ns,ms,q,_,g,Z,two,G,B,F,λhf x s1=>?_,λhf p1 W x s1 _ _=>?_⟩
   ·rw[X8 (by rw[hf];decide)]at k;exact⟨sz Z,λd c a=>k d c (s1.trans a.sm) a.at_⟩
   ·rw[X9 hf]at k;exact⟨sz Z,λd c a=>k d c (s1.trans a.sm) a.at_⟩
  ·rw[hw]at k;refine bi (.inr s.tup) (aA (j:=0) Z) ?_;refine bi (.inr s.tup) (aA (j:=1) Z) ?_;exact⟨sz Z,λd c a=>k d c (s.sm.trans a.sm) a.at_⟩
 | tb f es =>
  obtain rfl:g=0:=pg;obtain⟨I,ok⟩:=id tn;dsimp only [aY]at k;refine .inr (.inr (.inr (.inr ⟨o,f.dx,_,Z,I.o,Z,?_⟩)));refine⟨o,f,es,q,_,0,Z,I,ok,B,λM x s1=>?_,λe J y p x s1 R=>?_⟩
  ·rw[show (es.find? λe=>decide (e.2=r))=none from V3.mpr λe J=>by simpa using M e J]at k;dsimp only at k;refine .inr (.inr (.inr (.inr ⟨o,f.dx,_,Z,(I.mono s1).o,Z,?_⟩)));refine⟨o,f,es,q,_,0,Z,I.mono s1,s1 _ _ B,λrt d c C=>?_,λL c C=>?_⟩
   ·rw[X9 rt]at k;exact⟨sz Z,λm l b=>k m l (s1.trans (C.trans b.sm)) b.at_⟩
   ·rw[X8 L]at k;exact⟨sz Z,λm l b=>k m l (s1.trans (C.trans b.sm)) b.at_⟩
  ·have v:(es.find? λe=>decide (e.2=r))=some e:=by
    cases v:es.find? λe=>decide (e.2=r) with
    | none=>exact Ya (Yc y) (V3.mp v e J)
    | some e' =>
     have h':e'.2=r:=by simpa using WI v
     rcases ok.two (Xc v) J with z|z
     ·rw[z]
     ·unfold gq c7 at z;rw[h',y]at z;simp at z
   rw[v]at k;refine bi (.inr (.of R)) (aA (j:=0) Z) ?_;refine bi (.inr (.of R)) (aA (j:=1) Z) ?_;exact⟨sz Z,λm l b=>k m l (s1.trans b.sm) b.at_⟩
def OF (T:Txt w K mg t):fe P w K mg base t.f6 "look" 7 t.gO t.iV ["self", "begun", "page"] [] (kc t):=⟨T.si,T.Mg,⟨_,T.oY,.nil⟩,nQ T⟩
def OY (T:Txt w K mg t):fe P w K mg base t.f9 "look" 7 t.gO t.iV ["self", "begun", "page"] [] (kc t):=⟨T.sj,T.mt_LeadTongue_look,⟨_,T.oY,.nil⟩,nQ T⟩
def OV (T:Txt w K mg t):fe P w K mg base t.di "look" 7 t.gO t.iV ["self", "begun", "page"] [] (kc t):=⟨T.iW,T.mt_PairTongue_look,⟨_,T.oY,.nil⟩,nQ T⟩
def OL (T:Txt w K mg t):fe P w K mg base t.cr "look" 7 t.gO t.iV ["self", "begun", "page"] [] (kc t):=⟨T.eK,T.mt_ShiftTongue_look,⟨_,T.oY,.nil⟩,nQ T⟩
def OI (T:Txt w K mg t):fe P w K mg base t.cB "look" 7 t.gO t.iV ["self", "begun", "page"] [] (kc t):=⟨T.gu,T.mt_TableTongue_look,⟨_,T.oY,.nil⟩,nQ T⟩
def ka(u:Int):Sp:=λvs H Q _=>∃o:V,vs=[o]/\Q (.int u) H
def qu (T:Txt w K mg t):bN P w K mg base cn 1 t.iB t.jS ["self"] (ka 1):=by
 refine T.TQ.okQ IY (λvs H Q E h=>by obtain⟨o,rfl,_⟩:=h;rfl) λ_ _ _ _ H vs Q E a h=>?_;obtain⟨o,rfl,k⟩:=h;exact⟨_,(ai (aq ag)),k⟩
def C8 (T:Txt w K mg t):cW P w K mg base t.f6 "unit" 1 t.iB t.jS ["self"] (ka 1):=⟨T.si,T.Mf,T.sy,qu T⟩
def Dh (T:Txt w K mg t):cW P w K mg base t.f9 "unit" 1 t.iB t.jS ["self"] (ka 1):=⟨T.sj,T.mt_LeadTongue_unit,T.sy,qu T⟩
def Db (T:Txt w K mg t):cW P w K mg base t.cr "unit" 1 t.iB t.jS ["self"] (ka 1):=⟨T.eK,T.mt_ShiftTongue_unit,T.sy,qu T⟩
def C9 (T:Txt w K mg t):cW P w K mg base t.cB "unit" 1 t.iB t.jS ["self"] (ka 1):=⟨T.gu,T.mt_TableTongue_unit,T.sy,qu T⟩
def Dg (T:Txt w K mg t):cW P w K mg base t.di "unit" 1 t.zi t.wJ ["self"] (ka 2):=by
 refine⟨T.iW,T.MG,T.Tp,T.Ul.okQ Jm (λvs H Q E h=>by obtain⟨o,rfl,_⟩:=h;rfl) λ_ _ _ _ H vs Q E a h=>?_⟩;obtain⟨o,rfl,k⟩:=h;exact⟨_,(ai (aq ag)),k⟩
def cV:Kt->Prop
 | .sh _ ns ms=>dE ns/\dE ms
 | .tb _ es=>Es es
 | _=>True
def TN.koS{H:Hp}{o:Addr}{D:Kt}(h:TN t H o D):cV D:=by
 cases D with
 | sh f ns ms=>exact⟨Tg.k0 h,Tg.k1 h⟩
 | tb f es=>exact h.2
 | _=>exact trivial
def cV.kok{D:Kt}(h:cV D):zu D:=by
 cases D with
 | tb f es=>exact h
 | _=>exact trivial
def NO{D:Kt}{n:Int}(ok:cV D)(h:dM D n):Sg n:=by
 cases D with
 | ld=>exact h
 | pr b=>exact h
 | sh f ns ms=>exact h.elim (ok.1.1 n) (ok.2.1 n)
 | tb f es =>
  obtain⟨e,a,rfl⟩:=h;exact (Es.sg ok e a).1
 | br=>exact h.elim
def CL{P:e7}{n:Int}{i:Nat}(nd:P.Nodup)(h:P[i]? = some n):cS P n=some i:=by
 obtain⟨j,a,_⟩:=jQ (Vo h);obtain⟨k,b⟩:=jg a;rcases Nat.lt_trichotomy i j with c|c|c
 ·exact Ya h (b i c)
 ·rw[c];exact a
 ·obtain⟨d,f⟩:=Vh.mp k;obtain⟨e,g⟩:=Vh.mp h;exact Ya (f.trans g.symm) (Ws.mp nd j i d e c)
def mI{D:Kt}{g n g':Int}{r:e7}(ok:cV D)(pg:bZ D g)(j:Dm D g r)(h:aY D g r=.sg n g'):dM D n/\bI D g n=(r,g')/\bZ D g':=by
 cases D with
 | br=>cases h
 | ld =>
  dsimp only [aY]at h;by_cases c:gy r
  ·rw[X9 c]at h;cases h;obtain⟨a,b⟩:=Gb c λx hx=>(j.1 x hx).1;refine⟨a,?_,pg⟩;show (row (gM r),g)=_;rw[b]
  ·rw[X8 c]at h
   split at h<;>cases h
 | pr b =>
  dsimp only [aY]at h;cases e:eR b r with
  | some m =>
   rw[e]at h;cases h;obtain⟨a,k⟩:=Gd b j.1 e;refine⟨a,?_,pg⟩;show (fU b n,g)=_;rw[k]
  | none =>
   rw[e]at h;dsimp only at h
   split at h<;>cases h
 | sh f ns ms =>
  dsimp only [aY]at h;have two:cP g:=pg;obtain⟨okP,okO⟩:=ok;have oP:=pT (g:=g) okP okO;have oO:=pT (g:=g) okO okP;cases e:dY (ao g ns ms) (ao g ms ns) g r with
  | none =>
   rw[e]at h;dsimp only at h
   split at h<;>cases h
  | some z =>
   rw[e]at h;obtain⟨m,u⟩:=z;cases h;have i:∀ {x:Int},x∈ao g ns ms\/x∈ao g ms ns->x∈ns\/x∈ms:=λ{x} hx=>by
    rcases two with rfl|rfl
    ·exact hx
    ·exact hx.symm
   rcases j with ⟨b,rfl,b0⟩|⟨c,rfl,c0⟩
   ·have e:((ao g ns ms)[b.toNat]?.map λn=>(n,g))=some (n,g'):=e;obtain⟨m,d,k⟩:=Wr.mp e;cases k;refine⟨i (.inl (Vo d)),?_,pg⟩;show (fi (ao g ns ms) (ao g ms ns) g (.int n)).getD _=_;unfold fi;dsimp only;rw[CL oP.2.1 d];show (([(b.toNat:Int)],g):e7 × Int)=_;rw[WC b0]
   ·have e:(match (ao g ms ns)[c.toNat]? with|some n=>if n∈ao g ns ms then none else some (n,1-g)|none=>none)=some (n,g'):=e;cases d:(ao g ms ns)[c.toNat]? with
    | none=>rw[d]at e;cases e
    | some m =>
     rw[d]at e;dsimp only at e;by_cases hp:m∈ao g ns ms
     ·rw[X9 hp]at e;cases e
     ·rw[X8 hp]at e;cases e;refine⟨i (.inr (Vo d)),?_,two.flip⟩;show (fi (ao g ns ms) (ao g ms ns) g (.int n)).getD _=_;unfold fi;dsimp only;rw[iz.mpr hp];dsimp only;rw[CL oO.2.1 d];show (([254+(1-g),(c.toNat:Int)],1-g):e7 × Int)=_;rw[WC c0]
 | tb f es =>
  dsimp only [aY]at h;cases e:es.find? λe=>decide (e.2=r) with
  | none =>
   rw[e]at h;dsimp only at h
   split at h<;>cases h
  | some x =>
   rw[e]at h;cases h;have hx:=Xc e;have o:x.2=r:=by simpa using WI e
   refine⟨⟨x,hx,Z⟩,?_,pg⟩;obtain⟨y,p,s,l⟩:=mQ (es:=es) (n:=x.1) ⟨x,hx,rfl⟩;have q:y=x:=by
    rcases Es.two ok p hx with z|z
    ·exact z
    ·unfold gq at z;rw[Yc s]at z;cases z
   show (Option.map _ _).getD _=_;rw[l,q,<- o]
   rfl
def cu:Kt->Int->e7->Prop
 | .ld,_,r=>bp r/\r.length<=4
 | .pr _,_,r=>bp r/\r.length<=3
 | .sh _ _ _,g,r=>r=[]\/r=[254+(1-g)]
 | .tb _ _,_,r=>bp r/\r.length<=6
 | .br,_,r=>r=[]
def ap:Kt->Nat
 | .pr _=>2
 | _=>1
def cu.nil(D:Kt)(g:Int):cu D g []:=by
 cases D with
 | ld=>exact⟨(λ_ h=>nomatch h),Vq _⟩
 | pr b=>exact⟨(λ_ h=>nomatch h),Vq _⟩
 | sh f ns ms=>exact .inl rfl
 | tb f es=>exact⟨(λ_ h=>nomatch h),Vq _⟩
 | br=>rfl
def cu.byts{D:Kt}{g:Int}{r:e7}(pg:bZ D g)(h:cu D g r):bp r/\r.length<=6:=by
 cases D with
 | ld=>exact⟨h.1,by have:=h.2;lia⟩
 | pr b=>exact⟨h.1,by have:=h.2;lia⟩
 | sh f ns ms =>
  have two:cP g:=pg;rcases h with rfl|rfl
  ·exact⟨(λ_ h=>nomatch h),Vq _⟩
  ·refine⟨λx hx=>?_,by show 1<=6;decide⟩;rw[Vp.mp hx];rcases two with rfl|rfl<;>decide
 | tb f es=>exact h
 | br =>
  obtain rfl:r=[]:=h;exact⟨(λ_ h=>nomatch h),Vq _⟩
def ib{r:e7}{b:Int}(h:bp r)(c:0<=b)(a:b<=255):bp (r++[b]):=λx hx=>by
 rcases Vm.mp hx with z|z
 ·exact h x z
 ·rw[Vp.mp z];exact⟨c,a⟩
def oU{D:Kt}{g:Int}{r:e7}{b:Int}(h:cu D g r)(a:0<=b)(d:b<=255):Dm D g (r++[b]):=by
 cases D with
 | ld=>exact⟨ib h.1 a d,by have:=h.2;rw[Vc];show _+1<=_;lia⟩
 | pr c=>exact⟨ib h.1 a d,by have:=h.2;rw[Vc];show _+1<=_;lia⟩
 | sh f ns ms =>
  rcases h with rfl|rfl
  ·exact .inl ⟨b,Z,a⟩
  ·exact .inr ⟨b,Z,a⟩
 | tb f es=>exact ib h.1 a d
 | br=>exact trivial
def DO{D:Kt}{g:Int}{r:e7}{b:Int}(h:cu D g r)(a:0<=b)(d:b<=255):Dm D g ((r++[b]).drop ((r++[b]).length-ap D)):=by
 have one:(r++[b]).drop ((r++[b]).length-1)=[b]:=by rw[Vc];simp
 have e:bp [b]:=λx hx=>by rw[Vp.mp hx];exact⟨a,d⟩
 cases D with
 | ld=>show bp _/\_;rw[show ap .ld=1 from rfl,one];exact⟨e,by show 1<=9;decide⟩
 | pr c=>exact⟨λx hx=>ib h.1 a d x (Wn hx),by have:=h.2;rw[VT,Vc];show _+1-_<=_;lia⟩
 | sh f ns ms=>show sR _ _;rw[show ap (.sh f ns ms)=1 from rfl,one];exact .inl ⟨b,Z,a⟩
 | tb f es=>show bp _;rw[show ap (.tb f es)=1 from rfl,one];exact e
 | br=>exact trivial
def DL(h:Bool){r:e7}(l:r.length=4)(e:eR h r=none):iU h r=none:=by
 unfold iU;refine V3.mpr λf hf=>?_;rw[W5,X3,X4];by_cases c:f=[]
 ·rw[c,VI];exact e
 ·unfold eR;have:1<=f.length:=Xy.mpr c;rw[X8 (by rw[Vc,l];lia)]
def uk{D:Kt}{g:Int}{r:e7}(ok:cV D)(i:Dm D g r)(k:r.length%ap D=0)(j:r.length<=4\/∀h,D ≠ .pr h)(h:aY D g r=.mo):cu D g r:=by
 cases D with
 | br=>cases h
 | ld =>
  dsimp only [aY]at h;refine⟨i.1,?_⟩
  split at h
  ·cases h
  split at h
  ·rename_i bg;cases r with
   | nil=>exact Vq _
   | cons f r =>
    have bg:jw f r:=bg;have:=bg.1;have:=(qL f).2;rw[Vt];lia
  ·cases h
 | pr b =>
  dsimp only [aY]at h;refine⟨i.1,?_⟩;have k:r.length%2=0:=k;cases e:eR b r with
  | some m=>rw[e]at h;cases h
  | none =>
   rw[e]at h;dsimp only at h;rcases j with j|j
   ·by_cases c:r.length=4
    ·rw[X9 (DL b c e)]at h;cases h
    ·lia
   ·exact Ya Z (j b)
 | sh f ns ms =>
  dsimp only [aY]at h;rcases i with ⟨b,rfl,b0⟩|⟨c,rfl,c0⟩
  ·have a:=Cn (P:=ao g ns ms) (O:=ao g ms ns) (g:=g) b0;unfold iN at a;cases e:dY (ao g ns ms) (ao g ms ns) g [b] with
   | some z=>rw[e]at h;cases h
   | none =>
    rw[e]at h a;dsimp only at h a;by_cases c:gK (ao g ns ms) (ao g ms ns) g [b]=true
    ·rw[X9 c]at a;cases e2:(ao g ns ms)[b.toNat]? with
     | some n=>rw[e2]at a;cases a
     | none =>
      rw[e2]at a;dsimp only at a;by_cases c2:b=254+(1-g)/\fJ (ao g ms ns) (ao g ns ms)≠[]
      ·exact .inr (by rw[c2.1])
      ·rw[X8 c2]at a;cases a
    ·rw[X8 c]at h;cases h
  ·have a:=Cm (P:=ao g ns ms) (O:=ao g ms ns) (g:=g) c0;unfold iN at a;cases e:dY (ao g ns ms) (ao g ms ns) g [254+(1-g),c] with
   | some z=>rw[e]at h;cases h
   | none =>
    rw[e]at h a;dsimp only at h a;by_cases d:gK (ao g ns ms) (ao g ms ns) g [254+(1-g),c]=true
    ·rw[X9 d]at a
     split at a<;>cases a
    ·rw[X8 d]at h;cases h
 | tb f es =>
  dsimp only [aY]at h;refine⟨i,?_⟩
  split at h
  ·cases h
  split at h
  ·rename_i rt;obtain⟨e,l,m,o,rfl⟩:=rt;have:=(Es.sg ok e l).2.2.1;rw[Vk];lia
  ·cases h
inductive Ev where
 | sg (n:Int)
 | ft (p l:Nat) (k:Str) (bs:e7)
inductive Wy where
 | lv
 | pt (n:Int)
 | se
def GQ:Wy->e7->e7
 | .lv,_=>[]
 | .pt n,_=>[n]
 | .se,bs=>bs.map λb=>61184+b
def GR(W:Wy):Ev->e7
 | .sg n=>[n]
 | .ft _ _ _ bs=>GQ W bs
def iZ(W:Wy)(es:List Ev):e7:=es.flatMap (GR W)
noncomputable def h8(D:Kt)(g:Int)(c:Nat)(r:e7):Int × e7 × List Ev:=match aY D g r with
 | .sg n g'=>(g',[],[.sg n])
 | .mo=>(g,r,[])
 | .no=>(g,[],[.ft (c-r.length) r.length "strange" r])
noncomputable def nW(D:Kt)(g:Int)(c:Nat)(r:e7):Int × e7 × List Ev:=match aY D g r with
 | .sg n g'=>(g',[],[.sg n])
 | .mo=>(g,r,[])
 | .no=>((h8 D g c (r.drop (r.length-ap D))).1,(h8 D g c (r.drop (r.length-ap D))).2.1,.ft (c-r.length) (r.length-ap D) "broken" (r.take (r.length-ap D))::(h8 D g c (r.drop (r.length-ap D))).2.2)
noncomputable def bD(D:Kt)(g:Int)(r:e7)(c:Nat)(b:Int):Int × e7 × List Ev :=
 if (r++[b]).length%ap D=0 then (if (r++[b]).length=ap D then h8 D g c (r++[b]) else nW D g c (r++[b])) else (g,r++[b],[])
noncomputable def run(D:Kt):Int->e7->Nat->e7->Int × e7 × List Ev
 | g,r,_,[]=>(g,r,[])
 | g,r,c,b::bs=>((run D (bD D g r (c+1) b).1 (bD D g r (c+1) b).2.1 (c+1) bs).1,(run D (bD D g r (c+1) b).1 (bD D g r (c+1) b).2.1 (c+1) bs).2.1,(bD D g r (c+1) b).2.2++(run D (bD D g r (c+1) b).1 (bD D g r (c+1) b).2.1 (c+1) bs).2.2)
theorem tT(D:Kt)(b:Int):∀(bs:e7) (g:Int) (r:e7) (c:Nat),run D g r c (bs++[b])=((bD D (run D g r c bs).1 (run D g r c bs).2.1 (c+bs.length+1) b).1,(bD D (run D g r c bs).1 (run D g r c bs).2.1 (c+bs.length+1) b).2.1,(run D g r c bs).2.2++(bD D (run D g r c bs).1 (run D g r c bs).2.1 (c+bs.length+1) b).2.2)
 | [],g,r,c=>by simp[run]
 | a::bs,g,r,c=>by
  show run D g r c (a::(bs++[b]))=_;simp only [run];rw[tT D b bs];simp[Xw,Nat.add_comm 1,Nat.add_left_comm]
def TF(D:Kt):Ev->Prop
 | .sg n=>dM D n
 | .ft _ l _ bs=>bp bs/\bs.length=l
def gY(D:Kt)(g x:Int):e7 × Int:=if 61184<=x/\x<=61439 then ([x-61184],g) else bI D g x
def cN(D:Kt)(g:Int)(xs:e7):e7 × Int:=xs.foldl (λa n=>(a.1++(gY D a.2 n).1,(gY D a.2 n).2)) ([],g)
theorem tm(D:Kt):∀(b:e7) (row:e7) (g:Int),b.foldl (λa n=>(a.1++(gY D a.2 n).1,(gY D a.2 n).2)) (row,g)=(row++(cN D g b).1,(cN D g b).2)
 | [],row,g=>by simp[cN]
 | n::b,row,g=>by
  rw[Wm,tm D b];have e:cN D g (n::b)=((gY D g n).1++(cN D (gY D g n).2 b).1,(cN D (gY D g n).2 b).2):=by
   show List.foldl _ _ (n::b)=_;rw[Wm,tm D b];simp
  rw[e,VF]
def zF(D:Kt)(g:Int)(xs ys:e7):cN D g (xs++ys)=((cN D g xs).1++(cN D (cN D g xs).2 ys).1,(cN D (cN D g xs).2 ys).2):=by
 show List.foldl _ _ (xs++ys)=_;rw[List.foldl_append];exact tm D ys _ _
def zE(D:Kt)(g n:Int):cN D g [n]=gY D g n:=by simp[cN]
theorem tj(D:Kt)(g:Int):∀bs:e7,bp bs->cN D g (bs.map λb=>61184+b)=(bs,g)
 | [],_=>rfl
 | b::bs,h=>by
  have hb:=h b (Vz ..);have e:(b::bs).map (λb=>61184+b)=[61184+b]++bs.map λb=>61184+b:=rfl;rw[e,zF,zE];unfold gY;rw[X9 (by lia),tj D g bs λx hx=>h x (Vx _ hx)];simp;lia
def Hk{D:Kt}{g n:Int}(h:Sg n):gY D g n=bI D g n:=by
 unfold gY;rw[X8 (λz=>h.2.2.2 z)]
def zv(D:Kt)(g:Int)(r:e7)(z:Int × e7 × List Ev):Prop:=bZ D z.1/\cu D z.1 z.2.1/\(cN D g (iZ .se z.2.2)).1++z.2.1=r/\(cN D g (iZ .se z.2.2)).2=z.1/\(∀e∈z.2.2,TF D e)/\z.2.2.length<=2
def Dl{D:Kt}{g n g':Int}{r:e7}(ok:cV D)(pg:bZ D g)(d:Dm D g r)(h:aY D g r=.sg n g'):zv D g r (g',[],[.sg n]):=by
 obtain⟨a,b,c⟩:=mI ok pg d h;have e:cN D g (iZ .se [.sg n])=(r,g'):=by
  show cN D g [n]=_;rw[zE,Hk (NO ok a),b]
 refine⟨c,cu.nil _ _,by rw[e,VI],by rw[e],λx hx=>?_,by show 1<=2;decide⟩;rw[Vp.mp hx];exact a
def Dn{D:Kt}{g:Int}{r:e7}(c:Nat)(ok:cV D)(pg:bZ D g)(d:Dm D g r)(a:bp r)(j:r.length%ap D=0)(i:r.length<=4\/∀h,D ≠ .pr h):zv D g r (h8 D g c r)/\(h8 D g c r).2.2.length<=1:=by
 unfold h8;cases e:aY D g r with
 | sg n g'=>exact⟨Dl ok pg d e,by show 1<=1;decide⟩
 | mo=>exact⟨⟨pg,uk ok d j i e,rfl,rfl,(λ_ h=>nomatch h),by show 0<=2;decide⟩,by show 0<=1;decide⟩
 | no =>
  have f:cN D g (iZ .se [.ft (c-r.length) r.length "strange" r])=(r,g):=by
   show cN D g ((r.map λb=>61184+b)++[])=_;rw[VI,tj D g r a]
  refine⟨⟨pg,cu.nil _ _,by rw[f,VI],by rw[f],λx hx=>?_,by show 1<=2;decide⟩,by show 1<=1;decide⟩;rw[Vp.mp hx];exact⟨a,Z⟩
def Dj{D:Kt}{g:Int}{r:e7}(c:Nat){b:Int}(ok:cV D)(pg:bZ D g)(bg:cu D g r)(o:0<=b)(i:b<=255):zv D g (r++[b]) (bD D g r c b):=by
 obtain⟨j,I⟩:=bg.byts pg;have a:=ib j o i;have m:=oU bg o i;have s:(r++[b]).length<=4\/∀h,D ≠ .pr h:=by
  cases D with
  | pr h=>exact .inl (by rw[Vc];have:=bg.2;show _+1<=4;lia)
  | _=>exact .inr (λh z=>by cases z)
 unfold bD;by_cases d:(r++[b]).length%ap D=0
 ·rw[X9 d];by_cases one:(r++[b]).length=ap D
  ·rw[X9 one];exact (Dn c ok pg m a d s).1
  ·rw[X8 one];unfold nW;cases e:aY D g (r++[b]) with
   | sg n g'=>exact Dl ok pg m e
   | mo=>exact⟨pg,uk ok m d s e,rfl,rfl,(λ_ h=>nomatch h),by show 0<=2;decide⟩
   | no =>
    have M:1<=ap D/\ap D<=2:=by cases D<;>simp[ap]
    have F:(r++[b]).length=r.length+1:=by rw[Vc];rfl
    have J:ap D<=(r++[b]).length:=by
     rcases Wt (r++[b]).length (ap D) with z|z
     ·rw[WO z]at d;lia
     ·exact z
    have ld:((r++[b]).drop ((r++[b]).length-ap D)).length=ap D:=by rw[VT];lia
    obtain⟨⟨C,y,B,u,v,G⟩,L⟩:=Dn (r:=(r++[b]).drop ((r++[b]).length-ap D)) c ok pg (DO bg o i) (λx hx=>a x (Wn hx)) (by rw[ld,Nat.mod_self]) (.inl (by rw[ld];lia));have f:bp ((r++[b]).take ((r++[b]).length-ap D)):=λx hx=>a x (Wb hx);have q:∀(p l:Nat) (k:Str) (bs:e7) (es:List Ev),bp bs->cN D g (iZ .se (.ft p l k bs::es))=(bs++(cN D g (iZ .se es)).1,(cN D g (iZ .se es)).2):=λp l k bs es hb=>by
     show cN D g ((bs.map λb=>61184+b)++iZ .se es)=_;rw[zF,tj D g bs hb]
    refine⟨C,y,?_,?_,λx hx=>?_,?_⟩
    ·dsimp only;rw[q _ _ _ _ _ f,VF,B,V8]
    ·dsimp only;rw[q _ _ _ _ _ f,u]
    ·rcases Vr.mp hx with rfl|hx
     ·exact⟨f,by rw[Vk];lia⟩
     ·exact v x hx
    ·dsimp only;rw[Vt];lia
 ·rw[X8 d];refine⟨pg,?_,rfl,rfl,(λ_ h=>nomatch h),by show 0<=2;decide⟩;have F:(r++[b]).length=r.length+1:=by rw[Vc];rfl
  cases D with
  | pr h =>
   have d:¬(r++[b]).length%2=0:=d;refine⟨a,?_⟩;have:=bg.2;dsimp only;lia
  | _=>exact Ya (WP _) d
def oB(_:Wy)(_:e7):List (Option Int):=[none]
def o1(W:Wy):Ev->List (Option Int)
 | .sg n=>[some n]
 | .ft _ _ _ bs=>oB W bs
def G1{D:Kt}{g n:Int}(tn:zu D)(pg:bZ D g)(a:dM D n):1<=(bI D g n).1.length:=by
 cases D with
 | ld=>exact (Bl n).1
 | pr h=>show 1<=(fU h n).length;rw[KC];split<;>lia
 | sh f ns ms =>
  obtain⟨r,g',e,_,d⟩:=tK pg a;rw[tI e];rcases d with ⟨b,rfl,_⟩|⟨c,rfl,_⟩
  ·show 1<=1;decide
  ·show 1<=2;decide
 | tb f es =>
  obtain⟨e,i,_,j⟩:=mQ a;have es':bI (.tb f es) g n=(e.2,g):=by
   show (Option.map _ _).getD _=_;rw[j];rfl
  rw[es'];exact (Es.sg tn e i).2.1
 | br=>exact a.elim
def jk(c:Nat)(r:e7):List Ev:=if r=[] then [] else [.ft (c-r.length) r.length "short" r]
def mF{H:Hp}{p a:Addr}{u:HO}(n:H p=none)(h:H a=some u):p≠a:=(aO h n).symm
def d6{t u:TS}{D:ff}{σ:St}{H:Hp}(a:St)(h:∀nx:St->Hp->Prop,nx a H->t { D with nx:=nx } σ H)(k:u D a H):nj t u D σ H:=h (u D) k
def Kp.free{x b:Addr}{H a:Hp}{o:HO}(k:Kp x H a)(hx:a x=some o)(n:a b=none):H b=none:=by
 cases e:H b with
 | none=>rfl
 | some u =>
  have:=k b u (λz=>by rw[z,hx]at n;cases n) e;rw[n]at this;cases this
def wo(H:Hp)(X:List Addr):Hp:=λa=>if a∈X then none else H a
def tu{H:Hp}{X:List Addr}{a:Addr}(h:a∈X):wo H X a=none:=X9 h
def zM{H:Hp}{X:List Addr}{a:Addr}{u:HO}(h:a∉X)(e:H a=some u):wo H X a=some u:=(X8 h).trans e
def FS{H:Hp}{X:List Addr}:aj (wo H X) H:=λa u e=>by
 unfold wo at e
 split at e
 ·cases e
 ·exact e
def aj.wo{b H:Hp}{X:List Addr}(s:aj b H)(h:∀a∈X,b a=none):aj b (wo H X):=λa u e=>zM (λz=>by rw[h a z]at e;cases e) (s a u e)
def j4{H:Hp}{x y z a:Addr}{u:HO}(c:a≠x)(d:a≠y)(b:a≠z)(e:H a=some u):wo H [x,y,z] a=some u:=zM (by simp only [Vr,Xa,or_false,not_or];exact⟨c,d,b⟩) e
def j3{b H:Hp}{x y z:Addr}(s:aj b H)(f:b x=none)(d:b y=none)(e:b z=none):aj b (wo H [x,y,z]):=aj.wo s λa c=>by
 simp only [Vr,Xa,or_false]at c;rcases c with rfl|rfl|rfl<;>assumption
def i7{H:Hp}{x dx C:Addr}(hx:H x=none)(a:H dx=none):aj H (upd (upd H dx (.own x)) x (.ins C dx [])):=λb c q=>by rw[au (aO q hx),au (aO q a)];exact q
def mC(D:Kt):bZ D 0:=by
 cases D with
 | sh f ns ms=>exact .inl rfl
 | _=>exact rfl
def HX(K:PySem.W.Frag):Sp:=λvs H Q _=>∃(a:Addr) (ns:e7) (k:Nat),vs=[.ref a,.int (k:Int)]/\aH K H a (ns.map V.int)/\∀c H',aj H H'->Q (.int c) H'
def qT (T:Txt w K mg t):bC P w K mg base "_law_drawn" 1 t.yq t.vL ["_law_script", "_law_at"] (HX K):=by
 refine⟨T.Px,T.E5.kp,T.Ss,T.E5.okQ IE (λvs H Q E h=>by obtain⟨a,ns,i,rfl,_⟩:=h;rfl) λ_ _ _ _ H vs Q E e h=>?_⟩;obtain⟨a,ns,i,rfl,c,k⟩:=h;refine⟨_,(ai (aq (bf (Rw (K:=K) Z Z) T.n_sum PyProof.Rows.boot_sum (ad (fw (U4 K) (aa 0) (dO (aa 1)) (dO (aE (U0 K) (aa 1) ag))) ae)))),?_⟩;refine⟨_,Z,_,Z,_,c,λf d b=>?_⟩;rw[gL]at b;exact⟨_,b.lst,k _ _ b.sm⟩
def uF (T:Txt w K mg t):bC P w K mg base "_law_is_number" 1 t.yn t.vH ["_law_found"] (λvs H Q _=>∃i,vs=[.int i]/\Q (.bl true) H):=by
 refine⟨T.Pt,T.EY.kp,T.So,T.EY.okQ ID (λvs H Q E h=>by obtain⟨i,rfl,_⟩:=h;rfl) λ_ _ _ _ H vs Q E c h=>?_⟩;obtain⟨i,rfl,k⟩:=h;refine⟨_,(ai (aq (fB (tY (bf (U1 K) T.n_isinstance VY (ad (aa 0) (ad (iL Z T.n_bool X2) ae)))) (gE (bf (U1 K) T.n_isinstance VY (ad (aa 0) (ad (iL Z T.n_int VN) ae))))))),?_⟩;obtain⟨ty,a,b⟩:=(gc.int (K:=K) (H:=H) i).isBl;refine aU ty _ a b ?_;refine iw ?_;obtain⟨ty,a,b⟩:=(gc.int (K:=K) (H:=H) i).isInt;exact⟨ty,_,a,b,k⟩
def HF:Sp:=λvs H Q _=>∃(n k:Int),vs=[.int n,.int k]/\0<=k/\k<=1000000/\∀m,0<=m->m<2147483629->Q (.int m) H
def uE (T:Txt w K mg t):bC P w K mg base "_law_mixed" 1 t.yj t.vD ["_law_number", "_law_k"] HF:=by
 refine⟨T.Pp,T.EU.kp,T.Sj,T.EU.okQ AY (λvs H Q E h=>by obtain⟨n,k,rfl,_⟩:=h;rfl) λ_ _ _ _ H vs Q E c h=>?_⟩;obtain⟨n,k,rfl,k0,k1,b⟩:=h;have a:(2:Int) ^ 64=18446744073709551616:=by decide
 refine⟨_,(ah (aF (i:=0) AY.nd Z (.inl Z) (bB (aE (U0 K) (aE (U0 K) (aa 0) (aE eG (aE eG ag (aa 1)) (aa 1))) ag)))
  (ai (aq (bB (aE (U0 K) (aE (U0 K) (aE eG (aa 0) (aa 0)) (aE eG ag (aa 0))) (aa 1)))))),?_⟩
 refine⟨Or.inl ⟨by decide,by decide⟩,?_⟩;refine⟨Or.inr ⟨by lia,by lia⟩,?_⟩;refine⟨Or.inl ⟨by lia,by lia⟩,?_⟩;refine⟨Or.inl ⟨by decide,by decide⟩,?_⟩;exact b _ (by lia) (by lia)
def gk(n:Int):Int:=if (if n%1111808>=55296 then n%1111808+2048 else n%1111808)>=61184 then (if n%1111808>=55296 then n%1111808+2048 else n%1111808)+256 else (if n%1111808>=55296 then n%1111808+2048 else n%1111808)
def qV(n:Int):Sg (gk n):=by
 unfold gk Sg
 (repeat' split)<;>lia
def uP{a b:Int}(h:gk a=gk b):a%1111808=b%1111808:=by
 unfold gk at h;revert h
 (repeat' split)<;>lia
def QD{k d:Int}(c : -251<d)(a:d<251)(b:14997*d=1111808*k):d=0:=by
 lia
def QC{k d:Int}(c : -251<d)(a:d<251)(b:24995*d=1111808*k):d=0:=by
 lia
def Nh(B x y:Int):4999*(B+3*(0+x))-4999*(B+3*(0+y))=14997*(x-y):=by
 lia
def Ng(B x y:Int):4999*(B+5*(0+x))-4999*(B+5*(0+y))=24995*(x-y):=by
 lia
def uj{x y:Int}(h:x%1111808=y%1111808):∃k:Int,x-y=1111808*k:=⟨x/1111808-y/1111808,by lia⟩
def NL{B:Int}{i j n:Nat}(d:i<n)(b:j<n)(c:n<=250)(h:4999*(B+3*(0+(i:Int)))%1111808=4999*(B+3*(0+(j:Int)))%1111808):i=j:=by
 obtain⟨k,a⟩:=uj h;rw[Nh]at a;have:=QD (by clear h a;lia) (by clear h a;lia) a;clear h a;lia
def NK{B:Int}{i j n:Nat}(d:i<n)(b:j<n)(c:n<=250)(h:4999*(B+5*(0+(i:Int)))%1111808=4999*(B+5*(0+(j:Int)))%1111808):i=j:=by
 obtain⟨k,a⟩:=uj h;rw[Ng]at a;have:=QC (by clear h a;lia) (by clear h a;lia) a;clear h a;lia
def QF{k d:Int}(c : -251<d)(a:d<251)(b:4999*d=1111808*k):d=0:=by
 lia
def Ni(B x y:Int):4999*(B+(0+x))-4999*(B+(0+y))=4999*(x-y):=by
 lia
def NM{B:Int}{i j n:Nat}(d:i<n)(b:j<n)(c:n<=250)(h:4999*(B+(0+(i:Int)))%1111808=4999*(B+(0+(j:Int)))%1111808):i=j:=by
 obtain⟨k,a⟩:=uj h;rw[Ni]at a;have:=QF (by clear h a;lia) (by clear h a;lia) a;clear h a;lia
def qS (T:Txt w K mg t):bC P w K mg base "_law_gapped" 1 t.yo t.vJ ["_law_number"] (λvs H Q _=>∃n,vs=[.int n]/\Q (.int (gk n)) H):=by
 refine⟨T.Pu,T.EZ.kp,T.Sq,T.EZ.okQ pW (λvs H Q E h=>by obtain⟨n,rfl,_⟩:=h;rfl) λ_ _ _ _ H vs Q E a h=>?_⟩;obtain⟨n,rfl,k⟩:=h;refine⟨_,(ah (aF (i:=1) pW.nd Z (.inl Z) (bB (aa 0)))
  (ah (aD (aw Du (aa 1) ag (av _)) (ai (aF (i:=1) pW.nd rfl (.inl rfl) (aE (U0 K) (aa 1) ag))) aG)
  (ah (aD (aw Du (aa 1) ag (av _)) (ai (aF (i:=1) pW.nd rfl (.inl rfl) (aE (U0 K) (aa 1) ag))) aG)
  (ai (aq (aa 1)))))),?_⟩
 unfold gk at k;refine ak (λz=>?_) (λz=>?_)
 ·have z:n%1111808>=55296:=Yb z;rw[X9 z]at k;refine ak (λy=>?_) (λy=>?_)
  ·rw[X9 (Yb y)]at k;exact k
  ·rw[X8 (λx=>y (Yc x))]at k;exact k
 ·have z:¬n%1111808>=55296:=λy=>z (Yc y);rw[X8 z]at k;refine ak (λy=>?_) (λy=>?_)
  ·rw[X9 (Yb y)]at k;exact k
  ·rw[X8 (λx=>y (Yc x))]at k;exact k
def Hj:Sp:=λvs H Q _=>∃c,vs=[.int c]/\∀n H',aj H H'->Sg n->Q (.int n) H'
def Ip:∀n∈([0,10,127,128,2047,2048,55295,57344,61183,61440,65279,65535,65536,1048575,1114111]:e7),Sg n:=by unfold Sg;decide
def Oq (T:Txt w K mg t):bC P w K mg base "_law_as_sign" 2 t.yu t.vO ["_law_number"] Hj:=by
 refine⟨T.PB,T.E8.kp,T.Sw,T.E8.okQ AZ (λvs H Q E h=>by obtain⟨c,rfl,_⟩:=h;rfl) λ_ _ _ _ H vs Q E b h=>?_⟩;obtain⟨c,rfl,k⟩:=h;have d:=b.units;refine⟨_,(ah (aF (i:=1) AZ.nd Z (.inl Z) (aM (hU Z)))
  (ah (aD (aw (bh (K:=K) rfl d) (bB (aa 0)) ag (av _)) (ai (aq (ay (U3 K) (aa 1) (bB (ce (aa 0))) (λ_ _=>rfl)))) aG)
  (ah (aD (aw (bh (K:=K) rfl d) (bB (aa 0)) ag (av _)) (ai (aq (bB (ce (aa 0))))) aG)
  (ai (aq (aW (qS T) b (ad (ce (aa 0)) ae))))))),?_⟩
 refine⟨sz Z,λl j a=>?_⟩;refine ak (λ_=>?_) (λ_=>?_)
 ·obtain⟨v,e,g,_⟩:=sB (xs:=(([0,10,127,128,2047,2048,55295,57344,61183,61440,65279,65535,65536,1048575,1114111]:e7).map V.int)) (i:=c/4%15) (by lia) (by simp;lia);obtain⟨n,f,rfl⟩:=VC.mp e;exact⟨_,_,.inl a.lst,g,k _ _ a.sm (Ip n f)⟩
 refine ak (λ_=>?_) (λ_=>?_)
 ·exact k _ _ a.sm (by unfold Sg;lia)
 ·exact⟨_,Z,k _ _ a.sm (qV _)⟩
def Bm{f:Nat->Int}{n:Nat}(g:n<=250)(hs:∀k,k<n->Sg (f k))(inj:∀i j,i<n->j<n->f i=f j->i=j):dE ((List.range n).map f):=by
 refine⟨λm d=>?_,?_,by rw[U9,V4];exact g⟩
 ·obtain⟨k,c,rfl⟩:=VC.mp d;exact hs k (V5.mp c)
 ·refine List.pairwise_map.mpr ?_;exact List.nodup_range.imp_of_mem λ{i j} b a ne e=>ne (inj i j (V5.mp b) (V5.mp a) e)
def dE.rev{ns:e7}(h:dE ns):dE ns.reverse:=⟨λn a=>h.1 n (List.mem_reverse.mp a),List.pairwise_reverse.mpr (h.2.1.imp λh=>Ne.symm h),by rw[XJ];exact h.2.2⟩
def HI:Sp:=λvs H Q _=>∃(c:Int),vs=[.int c]/\∀(p q r:Addr) (ns ms:e7) H',aj H H'->H' p=some (.tup [.ref q,.ref r])->H' q=some (.lst (ns.map V.int))->H' r=some (.lst (ms.map V.int))->dE ns->dE ms->Q (.ref p) H'
def Om (T:Txt w K mg t):bC P w K mg base "_law_lists" 2 t.yk t.vE ["_law_number"] HI:=by
 refine⟨T.Pq,T.EV.kp,T.Sk,T.EV.okQ ki (λvs H Q E h=>by obtain⟨c,rfl,_⟩:=h;rfl) λ_ _ _ _ H vs Q E M h=>?_⟩;obtain⟨c,rfl,k⟩:=h;have hu:=M.units;have D:(2:Int) ^ 64=18446744073709551616:=by decide
 refine⟨_,(ah (aF (i:=1) ki.nd Z (.inl Z) (aM (ad (bB (ce (aa 0))) (ad (bB (ce (aa 0))) ae))))
  (ah (aD (aw (bh (K:=K) rfl hu) (bB (aa 0)) ag (av _)) (ai (aF (i:=1) ki.nd rfl (.inl rfl) (aM (ad (aE (U0 K) ag (bB (ce (aa 0)))) (ad (bB (ce (aa 0))) ae))))) aG)
  (ah (aF (i:=2) ki.nd rfl (.inr rfl) (bB (ce (aa 0))))
  (ah (Bu (i:=3) ki.nd rfl (.inl rfl) rfl (dG.of (fns:=(am i8).names) (N:=["_law_number", "_law_sizes", "_law_base", "_law_first", "_law_second"]) (Nc:=["_law_k", "_law_base"]) (nv:=1) (caps:=[2]) rfl rfl (by decide +kernel)) (nH rfl T.n_range (ad (ay (U3 K) (aa 1) ag (λ_ _=>rfl)) ae)) (λ_ _ _ _=>(bj (i:=0) (show List.Nodup (["_law_k", "_law_base"]:List Str) by decide +kernel) rfl (Or.inl rfl) (Or.inr rfl))) (λ_ _ _ _=>gZ) (λ_ _ _ _=>(aW (qS T) M (ad (aE eG ag (aE (U0 K) (aa 1) (aE eG ag (aa 0)))) ae))))
  (ah (Bu (i:=4) ki.nd rfl (.inl rfl) rfl (dG.of (fns:=(am i8).names) (N:=["_law_number", "_law_sizes", "_law_base", "_law_first", "_law_second"]) (Nc:=["_law_k", "_law_base"]) (nv:=1) (caps:=[2]) rfl rfl (by decide +kernel)) (nH rfl T.n_range (ad (ay (U3 K) (aa 1) ag (λ_ _=>rfl)) ae)) (λ_ _ _ _=>(bj (i:=0) (show List.Nodup (["_law_k", "_law_base"]:List Str) by decide +kernel) rfl (Or.inl rfl) (Or.inr rfl))) (λ_ _ _ _=>gZ) (λ_ _ _ _=>(aW (qS T) M (ad (aE eG ag (aE (U0 K) (aa 1) (aE eG ag (aa 0)))) ae))))
  (ah (aD (aw fF (bB (aa 0)) ag (av _)) (ai (cY (tX (K:=K) rfl VD PySem.F.slot_list_reverse PySem.F.type_list_reverse L7 (aa 4)))) aG)
  (ai (aq (bR (ad (aa 3) (ad (aa 4) ae))))))))))),?_⟩
 refine⟨sz Z,λp1 H1 J=>?_⟩;dsimp only [bU];refine bO (λp l=>aj H l/\∃(ps:Addr) (x y:Int),l ps=some (.lst [.int x,.int y])/\0<=x/\x<=250/\0<=y/\y<=250/\p=[some (.int c),some (.ref ps),none,none,none]) (λnx r=>?_) ?_
 ·refine ak (λ_=>?_) (λ_=>?_)
  ·refine⟨sz Z,λU H2 R=>?_⟩;exact r _ _ ⟨J.sm.trans R.sm,U,_,_,R.at_,by lia,by lia,by lia,by lia,rfl⟩
  ·exact r _ _ ⟨J.sm,p1,_,_,J.at_,by lia,by lia,by lia,by lia,rfl⟩
 rintro p H2 ⟨C,ps,x,y,o,x0,x1,y0,y1,rfl⟩;obtain⟨b,eb⟩:∃b,b=c/1000%1111:=⟨_,rfl⟩;refine aU _ (.int x) (.inl (.of o)) (aA (j:=0) Z) ?_;refine zB x rfl (by lia) (by lia) ?_;refine rV (lo:=0) (n:=x.toNat) (((List.range x.toNat).map λk:Nat=>gk (4999*(c/1000%1111+3*(0+(k:Int))))).map V.int) (by rw[U9,U9,V4]) (cQ (by lia)) (λj v S N d m I hN=>?_) λz H3 f=>?_
 ·rw[Vf,Vf,W7 d]at m;cases m;refine⟨Or.inl ⟨by decide,by decide⟩,?_⟩;refine⟨Or.inl ⟨by decide,by decide⟩,?_⟩;exact⟨_,Z,hN _ (aj.refl _)⟩
 have O:dE ((List.range x.toNat).map λk:Nat=>gk (4999*(c/1000%1111+3*(0+(k:Int))))):=Bm (by lia) (λk _=>qV _) λi j B d e=>NL B d (by lia) (uP e);refine aU _ (.int y) (.inl (.of (f.sm _ _ o))) (aA (j:=1) Z) ?_;refine zB y rfl (by lia) (by lia) ?_;refine rV (lo:=0) (n:=y.toNat) (((List.range y.toNat).map λk:Nat=>gk (4999*(c/1000%1111+5*(0+(k:Int))))).map V.int) (by rw[U9,U9,V4]) (cQ (by lia)) (λj v S N d m I hN=>?_) λg H4 a=>?_
 ·rw[Vf,Vf,W7 d]at m;cases m;refine⟨Or.inl ⟨by decide,by decide⟩,?_⟩;refine⟨Or.inl ⟨by decide,by decide⟩,?_⟩;exact⟨_,Z,hN _ (aj.refl _)⟩
 have s:dE ((List.range y.toNat).map λk:Nat=>gk (4999*(c/1000%1111+5*(0+(k:Int))))):=Bm (by lia) (λk _=>qV _) λi j B d e=>NK B d (by lia) (uP e);have q:=f.sm.trans a.sm;have L:g≠z:=(aO f.at_ a.nw).symm;have W:H g=none:=C.free (f.sm.free a.nw);dsimp only [bU];refine bO (λp l=>aj H l/\l z=some (.lst (((List.range x.toNat).map λk:Nat=>gk (4999*(c/1000%1111+3*(0+(k:Int))))).map V.int))/\(∃ms,l g=some (.lst (ms.map V.int))/\dE ms)/\p=[some (.int c),some (.ref ps),some (.int (c/1000%1111)),some (.ref z),some (.ref g)]) (λnx r=>?_) ?_
 ·refine ak (λ_=>?_) (λ_=>?_)
  ·refine⟨.inl ⟨rfl,_,.of a.at_⟩,?_⟩;refine zA g _ Z Z a.at_ ?_;exact r _ _ ⟨(C.trans q).put W,by rw[au L.symm];exact a.sm _ _ f.at_,⟨_,by rw[aX,List.map_reverse],s.rev⟩,rfl⟩
  ·exact r _ _ ⟨C.trans q,a.sm _ _ f.at_,⟨_,a.at_,s⟩,Z⟩
 ·rintro p S ⟨I,h0,⟨ms,Y,G⟩,rfl⟩;exact⟨sz Z,λp6 H6 u=>k p6 z g _ _ H6 (I.trans u.sm) u.at_ (u.sm _ _ h0) (u.sm _ _ Y) O G⟩
def Ei{h h' a b:e7}(l:h.length=h'.length)(n:h≠h'):c7 (h++a) (h'++b)=false:=by
 unfold c7;rw[Yd];intro z
 apply n
 have:=congrArg (List.take h.length) z;rw[Xq,VV (by rw[Vc];lia),WQ (by lia),WQ (by lia),Vw,l,Vw]at this;exact this.symm
def eY(n:Int)(k:Nat):e7:=if n/11%3 > 0 then [(n/13+7*((0+(k:Int))/3))%256,(n/4000+5*((0+(k:Int))%3))%256] else [(n/13+7*(0+(k:Int)))%256]
def CV(n:Int)(i j:Nat):(eY n i).length=(eY n j).length:=by
 unfold eY;split<;>rfl
def CW(n:Int)(i:Nat):1<=(eY n i).length/\(eY n i).length<=2:=by
 unfold eY;split<;>simp
def CU{n:Int}{i j:Nat}(b:i<13)(a:j<13)(h:i≠j):eY n i≠eY n j:=by
 unfold eY
 split
 ·intro z;simp at z;lia
 ·intro z;simp at z;lia
def N6(n:Int)(i:Nat):∀b∈eY n i,0<=b/\b<=255:=by
 intro b hb;unfold eY at hb
 split at hb
 ·simp at hb;lia
 ·simp at hb;lia
def nB(n:Int)(k:Nat):Int:=gk (4999*(n/13%999+(0+(k:Int))))
def Iq{n:Int}{i j:Nat}(b:i<13)(a:j<13)(h:i≠j):nB n i≠nB n j:=λz=>by
 exact h (NM b a (by decide) (uP z))
def Fy(n:Int)(es:List (Int × e7)):Prop:=∀(j:Nat) e,es[j]? = some e->e.1=nB n j/\∃tl,e.2=eY n j++tl/\tl.length<=4/\∀b∈tl,0<=b/\b<=255
def QQ{n:Int}{es:List (Int × e7)}(h:Fy n es)(l:es.length<=13):Es es:=by
 refine⟨λe f=>?_,Ws.mpr λi j k c g=>?_,by lia⟩
 ·obtain⟨j,c,rfl⟩:=Xb.mp f;obtain⟨r,v,d,s,hb⟩:=h j _ (VG c);have:=CW n j;refine⟨by rw[r];exact qV _,by rw[d,Vc];lia,by rw[d,Vc];lia,λb a=>?_⟩;rw[d]at a;rcases Vm.mp a with z|z
  ·exact N6 n j b z
  ·exact hb b z
 ·obtain⟨m,u,p,_⟩:=h i _ (VG k);obtain⟨o,x,q,_⟩:=h j _ (VG c);unfold gq;rw[m,p,o,q,Ei (CV n i j) (CU (by lia) (by lia) (by lia)),Ei (CV n j i) (CU (by lia) (by lia) (by lia)),Yd (Iq (by lia) (by lia) (by lia))]
  rfl
def jW(H:Hp)(qs:List Addr)(es:List (Int × e7)):Prop:=cL (λq e=>H q=some (.lst (e.2.map V.int))) qs es
def jW.mono{H a:Hp}{qs:List Addr}{es:List (Int × e7)}(h:jW H qs es)(s:aj H a):jW a qs es:=h.imp λq e z=>s _ _ z
def He:Sp:=λvs H Q _=>∃(c:Int),vs=[.int c]/\0<=c/\∀(p a b:Addr) (qs:List Addr) (es:List (Int × e7)) H',aj H H'->H' p=some (.tup [.ref a,.ref b])->H' a=some (.lst ((es.map λe=>e.1).map V.int))->H' b=some (.lst (qs.map V.ref))->jW H' qs es->Es es->Q (.ref p) H'
def Oc (T:Txt w K mg t):bC P w K mg base "_law_table" 2 t.x9 t.vp ["_law_number"] He:=by
 refine⟨T.Pc,T.EI.kp,T.R7,T.EI.okQ i6 (λvs H Q E h=>by obtain⟨c,rfl,_⟩:=h;rfl) λ_ _ _ _ H vs Q E hr h=>?_⟩;obtain⟨c,rfl,c0,k⟩:=h;have hu:=hr.units;have W:(2:Int) ^ 64=18446744073709551616:=by decide
 refine⟨_,(ah (aF (i:=1) i6.nd Z (.inl Z) (aM ae))
  (ah (aF (i:=2) i6.nd rfl (.inl rfl) (aM ae))
  (ah (dy PassesOwn.never rfl (nH rfl T.n_range (ad (bB (aa 0)) ae)) (bj (i:=3) i6.nd rfl (.inl rfl)) (ah (aF (i:=4) i6.nd rfl (.inr rfl) (aW (uE T) hr (ad (aa 0) (ad (aE (U0 K) (aa 3) ag) ae))))
  (ah (aF (i:=5) i6.nd rfl (.inl rfl) (aM (ad (bB (aE (U0 K) (ce (aa 0)) (aE eG ag (aa 3)))) ae)))
  (ah (aD (aw fF (bB (ce (aa 0))) ag (av _)) (ai (aF (i:=5) i6.nd rfl (.inl rfl) (aM (ad (bB (aE (U0 K) (ce (aa 0)) (aE eG ag (ce (aa 3))))) (ad (bB (aE (U0 K) (ce (aa 0)) (aE eG ag (bB (aa 3))))) ae))))) aG)
  (ah (aF (i:=5) i6.nd rfl (.inl rfl) (aE (U0 K) (aa 5) (hJ rfl (dG.of (fns:=(am jF).names) (N:=["_law_number", "_law_signs", "_law_rows", "_law_k", "_law_far", "_law_row_here"]) (Nc:=["_law_j", "_law_far"]) (nv:=1) (caps:=[4]) rfl rfl (by decide +kernel)) (nH rfl T.n_range (ad (bB (aa 4)) ae)) (λ_ _ _ _=>(bj (i:=0) (show List.Nodup (["_law_j", "_law_far"]:List Str) by decide +kernel) rfl (Or.inl rfl) (Or.inr rfl))) (λ_ _ _ _=>gZ) (λ_ _ _ _=>(bB (aE (U0 K) (ce (aa 1)) (aE eG ag (aa 0))))))))
  (ah (cY (dP (K:=K) rfl VD VO VP fX (aa 1) (ad (aW (qS T) hr (ad (aE eG ag (aE (U0 K) (bB (ce (aa 0))) (aa 3))) ae)) ae)))
  (ai (cY (dP (K:=K) rfl VD VO VP fX (aa 2) (ad (aa 5) ae))))))))))
  (ai (aq (bR (ad (aa 1) (ad (aa 2) ae)))))))),?_⟩
 refine⟨sz Z,λl H1 D=>?_⟩;refine⟨sz Z,λg H2 F=>?_⟩;have I:g≠l:=(aO D.at_ F.nw).symm;have fa:H l=none:=D.nw;have fb:H g=none:=D.sm.free F.nw;refine⟨c%13,rfl,by lia,by lia,?_⟩;refine vf (lo:=0) (n:=(c%13).toNat) (λi σ s=>aj H s/\(∃qs es,es.length=i/\Fy c es/\s l=some (.lst ((es.map λe=>e.1).map V.int))/\s g=some (.lst (qs.map V.ref))/\jW s qs es/\∀q∈qs,q≠l/\q≠g)/\∃R v4 Y,σ=[some (.int c),some (.ref l),some (.ref g),R,v4,Y])
  ⟨D.sm.trans F.sm,⟨[],[],rfl,(λj e h=>by simp at h),F.sm _ _ D.at_,F.at_,cL.nil,(λq h=>nomatch h)⟩,_,_,_,rfl⟩ ?_ ?_
 ·rintro i σ H3 hi ⟨s3,⟨qs,es,le,dr,M,hb,d,O⟩,R,v4,Y,rfl⟩;have al:i<13:=by lia
  refine gf rfl (by lia) (by lia) (λa f0 f1=>?_);refine⟨Or.inl ⟨by decide,by decide⟩,?_⟩;refine⟨sz Z,λp4 H4 m=>?_⟩;dsimp only [bU];refine bO (λσ' s=>aj H3 s/\∃u,s u=some (.lst ((eY c i).map V.int))/\σ'=[some (.int c),some (.ref l),some (.ref g),some (.int (0+(i:Int))),some (.int a),some (.ref u)]) (λnx hn=>?_) ?_
  ·refine ak (λz=>?_) (λz=>?_)
   ·have z:c/11%3 > 0:=Yb z;refine⟨Or.inl ⟨by decide,by decide⟩,?_⟩;refine⟨Or.inl ⟨by decide,by decide⟩,?_⟩;refine⟨sz Z,λu H5 g5=>?_⟩;exact hn _ _ ⟨m.sm.trans g5.sm,u,by unfold eY;rw[X9 z];exact g5.at_,Z⟩
   ·have z:¬c/11%3 > 0:=λy=>z (Yc y);exact hn _ _ ⟨m.sm,p4,by unfold eY;rw[X8 z];exact m.at_,Z⟩
  rintro σ' H5 ⟨s5,u,h5,rfl⟩;refine⟨a%5,rfl,by lia,by lia,?_⟩;refine rV (lo:=0) (n:=(a%5).toNat) (((List.range (a%5).toNat).map λj:Nat=>(a/16+3*(0+(j:Int)))%256).map V.int) (by rw[U9,U9,V4]) (cQ (by lia)) (λj v H6 N hj hv s6 hN=>?_) λp6 H6 G=>?_
  ·rw[Vf,Vf,W7 hj]at hv;cases hv;refine⟨Or.inl ⟨by decide,by decide⟩,?_⟩;exact hN _ (aj.refl _)
  have hl:=CW c i;refine gf (.of (G.sm _ _ h5)) G.lst (cQ (by rw[U9,U9,U9,V4];lia)) (λp7 H7 J=>?_);rw[<- Vj]at J;have f:=s5.trans (G.sm.trans J.sm);have C:=f _ _ M;have U:=f _ _ hb;have o:p7≠l:=(aO (G.sm _ _ (s5 _ _ M)) J.nw).symm;have p:p7≠g:=(aO (G.sm _ _ (s5 _ _ hb)) J.nw).symm;refine⟨.inl ⟨rfl,_,.of C⟩,?_⟩;refine⟨Or.inl ⟨by decide,by decide⟩,?_⟩;refine aS Z ?_;refine cM C (dq (by rw[U9,U9];lia)) ?_;have B:upd H7 l (.lst ((es.map λe=>e.1).map V.int++[.int (nB c i)])) g=some (.lst (qs.map V.ref)):=by rw[au I];exact U
  refine⟨.inl ⟨rfl,_,.of B⟩,?_⟩;have lq:qs.length=i:=by rw[<- le];exact d.1
  refine cM B (dq (by rw[U9];lia)) ?_;refine⟨((s3.trans f).put fa).put fb,⟨qs++[p7],es++[(nB c i,eY c i++(List.range (a%5).toNat).map λj:Nat=>(a/16+3*(0+(j:Int)))%256)],by rw[Vc,le];rfl,λj e r=>?_,?_,?_,cL.app ⟨d.1,λj q e L r=>?_⟩ (cL.cons ?_ cL.nil),λq L=>?_⟩,_,_,_,rfl⟩
  ·by_cases cj:j<es.length
   ·rw[V2 cj]at r;exact dr j e r
   ·have S:j=es.length:=by
     have:=(Vh.mp r).1;rw[Vc]at this;simp at this;lia
    rw[S,VZ (Va _),Nat.sub_self]at r;cases r;refine⟨by rw[S,le],_,by rw[S,le],by rw[U9,V4];lia,λb hb=>?_⟩;obtain⟨x,_,rfl⟩:=VC.mp hb;lia
  ·rw[au I.symm,aX,Vj,Vj];rfl
  ·rw[aX,Vj];rfl
  ·obtain⟨n1,n2⟩:=O q (Vo L);rw[au n2,au n1];exact f _ _ (d.2 j q e L r)
  ·rw[au p,au o];exact J.at_
  ·rcases Vm.mp L with z|z
   ·exact O q z
   ·rw[Vp.mp z];exact⟨o,p⟩
 ·rintro σ H3 ⟨s3,⟨qs,es,le,dr,M,hb,d,O⟩,R,v4,Y,rfl⟩;exact⟨sz rfl,λp4 H4 m=>k p4 l g qs es H4 (s3.trans m.sm) m.at_ (m.sm _ _ M) (m.sm _ _ hb) (d.mono m.sm) (QQ dr (by lia))⟩
def fW:PyData.strOk "lead" = true:=by decide +kernel
def d9:PyData.strOk "high" = true:=by decide +kernel
def fD:PyData.strOk "low" = true:=by decide +kernel
def dU:PyData.strOk "shift" = true:=by decide +kernel
def fV:PyData.strOk "table" = true:=by decide +kernel
def mD:PyData.strOk "bare" = true:=by decide +kernel
def BX{p q:Prop}[Decidable p][Decidable q]{A B:Prop}(a:p\/q->A)(b:¬p->¬q->B):if decide p=true then (if true=true then A else B) else (if decide q=true then A else B):=by
 by_cases c:p
 ·rw[X9 (Yc c),X9 rfl];exact a (.inl c)
 ·rw[X8 (λz=>c (Yb z))];by_cases c':q
  ·rw[X9 (Yc c')];exact a (.inr c')
  ·rw[X8 (λz=>c' (Yb z))];exact b c c'
inductive Md where
 | ld
 | pr (h:Bool)
 | sh (ns ms:e7)
 | tb (es:List (Int × e7))
 | br
def cy:Md->Str
 | .ld => "lead"
 | .pr h=>hW h
 | .sh _ _ => "shift"
 | .tb _ => "table"
 | .br => "bare"
def sX(H:Hp)(a b:Addr):Md->Prop
 | .sh ns ms=>H a=some (.lst (ns.map V.int))/\H b=some (.lst (ms.map V.int))/\dE ns/\dE ms
 | .tb es=>H a=some (.lst ((es.map λe=>e.1).map V.int))/\(∃qs,H b=some (.lst (qs.map V.ref))/\jW H qs es)/\Es es
 | _=>H a=some (.lst [])/\H b=some (.lst [])
def sX.mono{H c:Hp}{a b:Addr}{M:Md}(h:sX H a b M)(s:aj H c):sX c a b M:=by
 cases M with
 | sh ns ms=>exact⟨s _ _ h.1,s _ _ h.2.1,h.2.2⟩
 | tb es =>
  obtain⟨g,⟨qs,e,f⟩,d⟩:=h;exact⟨s _ _ g,⟨qs,s _ _ e,f.mono s⟩,d⟩
 | ld=>exact⟨s _ _ h.1,s _ _ h.2⟩
 | pr b=>exact⟨s _ _ h.1,s _ _ h.2⟩
 | br=>exact⟨s _ _ h.1,s _ _ h.2⟩
def Mod(H:Hp)(p:Addr)(M:Md):Prop:=∃a b,H p=some (.tup [.str (cy M),.ref a,.ref b])/\sX H a b M
def Mod.mono{H c:Hp}{p:Addr}{M:Md}(h:Mod H p M)(s:aj H c):Mod c p M:=by
 obtain⟨a,b,e,d⟩:=h;exact⟨a,b,s _ _ e,d.mono s⟩
def HH:Sp:=λvs H Q _=>∃c:Int,vs=[.int c]/\∀p M H',aj H H'->Mod H' p M->Q (.ref p) H'
def Ol (T:Txt w K mg t):bC P w K mg base "_law_model" 3 t.yi t.vC ["_law_cell"] HH:=by
 refine⟨T.Pn,T.ET.kp,T.Si,T.ET.okQ kh (λvs H Q E h=>by obtain⟨c,rfl,_⟩:=h;rfl) λ_ _ _ _ H vs Q E x h=>?_⟩;obtain⟨c,rfl,k⟩:=h;have v:=x.units;refine⟨_,(ah (aF (i:=1) kh.nd Z (.inl Z) (aW (uE T) x (ad (ce (aa 0)) (ad ag ae))))
  (ah (aD (bY (dw (aw (bh (K:=K) rfl v) (bB (aa 0)) ag (av _)) (dJ (aw (bh (K:=K) rfl v) (bB (aa 0)) ag (av _))))) (ah (jN (aW (Om T) x (ad (aa 1) ae)) (eU (K:=K) rfl rfl (bP (bj (i:=2) kh.nd rfl (.inl rfl)) (bP (bj (i:=3) kh.nd rfl (.inl rfl)) eT))))
  (ai (aq (bR (ad bc (ad (aa 2) (ad (aa 3) ae))))))) aG)
  (ah (aD (bY (dw (aw (bh (K:=K) rfl v) (bB (aa 0)) ag (av _)) (dJ (aw (bh (K:=K) rfl v) (bB (aa 0)) ag (av _))))) (ah (jN (aW (Oc T) x (ad (aa 1) ae)) (eU (K:=K) rfl rfl (bP (bj (i:=4) kh.nd rfl (.inl rfl)) (bP (bj (i:=5) kh.nd rfl (.inl rfl)) eT))))
  (ai (aq (bR (ad bc (ad (aa 4) (ad (aa 5) ae))))))) aG)
  (ah (aD (bY (fu (aw (bh (K:=K) rfl v) (bB (aa 0)) ag (av _)) (fQ (aw (bh (K:=K) rfl v) (bB (aa 1)) ag (av _))))) (ai (aq (bR (ad bc (ad (aM ae) (ad (aM ae) ae)))))) aG)
  (ai (aq (bR (ad (ay (U3 K) (aM (hU rfl)) (bB (bB (aa 0))) (λ_ _=>rfl)) (ad (aM ae) (ad (aM ae) ae)))))))))),?_⟩
 refine gf rfl (by decide) (by decide) (λn J O=>?_);refine BX (p:=c%8=3) (q:=c%8=4) (λ_=>?_) (λ_ _=>?_)
 ·refine gS n Z (λp q r ns ms d s1 D C u G B=>?_);refine⟨p,_,Z,.of D,Z,_,_,Z,_,_,Z,Z,?_⟩;exact⟨sz Z,λz b a=>k z (.sh ns ms) b (s1.trans a.sm) ⟨q,r,a.at_,a.sm _ _ C,a.sm _ _ u,G,B⟩⟩
 refine BX (p:=c%8=5) (q:=c%8=6) (λ_=>?_) (λ_ _=>?_)
 ·refine dX n Z J (λp q r qs es d s1 D C u F ok=>?_);refine⟨p,_,Z,.of D,Z,_,_,Z,_,_,Z,Z,?_⟩;exact⟨sz Z,λz b a=>k z (.tb es) b (s1.trans a.sm) ⟨q,r,a.at_,a.sm _ _ C,⟨qs,a.sm _ _ u,F.mono a.sm⟩,ok⟩⟩
 have g:∀l,aj H l->∀M:Md,(M=.ld\/(∃h,M=.pr h)\/M=.br)->∀f d e b s m,bz l f (.lst []) d->bz d e (.lst []) b->bz b s (.tup [.str (cy M),.ref f,.ref e]) m->Q (.ref s) m:=by
  intro l s0 M hM f d e b s m o a j;refine k s M m (s0.trans (o.sm.trans (a.sm.trans j.sm))) ⟨f,e,j.at_,?_⟩;rcases hM with rfl|⟨h,rfl⟩|rfl<;>exact⟨j.sm _ _ (a.sm _ _ o.at_),j.sm _ _ a.at_⟩
 have bQ:∀i:Int,0<=i->i<3->∃M:Md,(M=.ld\/(∃h,M=.pr h)\/M=.br)/\c8 [V.str "lead",.str "high",.str "low"] i=some (.str (cy M)):=by
  intro i N S;rcases (show i=0\/i=1\/i=2 by lia) with rfl|rfl|rfl
  ·exact⟨.ld,.inl Z,Z⟩
  ·exact⟨.pr true,.inr (.inl ⟨_,Z⟩),Z⟩
  ·exact⟨.pr false,.inr (.inl ⟨_,Z⟩),Z⟩
 have L:∀ {R:VK},(∀p y,(∃M:Md,(M=.ld\/(∃h,M=.pr h)\/M=.br)/\∃f d e b l,aj H l/\bz l f (.lst []) d/\bz d e (.lst []) b/\bz b p (.tup [.str (cy M),.ref f,.ref e]) y)->Q (.ref p) y):=λ{R} p y h=>by
  obtain⟨M,hM,f,d,e,b,l,s0,o,a,j⟩:=h;exact g l s0 M hM f d e b p y o a j
 have tail:∀(hx:True),ul (j5 (iI (fG K) (nS (tE [V.str "lead",V.str "high",V.str "low"])) (qC 3 (qC 8 (mV 0)))) (j5 (nS i4) (j5 (nS i4) i4))) [some (.int c),some (.int n),none,none,none,none] H Q:=by
  intro _;refine⟨sz Z,λU l I=>?_⟩;obtain⟨M,hM,eM⟩:=bQ (c%8%3) (by lia) (by lia);refine bi (.inl I.lst) eM ?_;refine⟨sz Z,λf d o=>?_⟩;refine⟨sz Z,λe b a=>?_⟩;exact⟨sz Z,λs m j=>g l I.sm M hM f d e b s m o a j⟩
 refine ak (λ_=>?_) (λ_=>?_)
 ·refine ak (λ_=>?_) (λ_=>?_)
  ·refine⟨sz Z,λf d o=>?_⟩;refine⟨sz Z,λe b a=>?_⟩;exact⟨sz Z,λs m j=>g H (aj.refl _) .br (.inr (.inr Z)) f d e b s m o a j⟩
  ·exact tail trivial
 ·exact tail trivial
def Mt:Md->Kt->Prop
 | .ld,D=>D=.ld
 | .pr h,D=>D=.pr h
 | .sh ns ms,D=>∃f,D=.sh f ns ms
 | .tb es,D=>∃f,D=.tb f es
 | .br,D=>D=.br
def Ha(t:Adr):Sp:=λvs H Q _=>∃(p:Addr) (M:Md),vs=[.ref p]/\Mod H p M/\∀o D H',aj H H'->Mt M D->TN t H' o D->Q (.ref o) H'
def Oa (T:Txt w K mg t):bC P w K mg base "_law_tongue" 8 t.x6 t.vm ["_law_model_here"] (Ha t):=by
 refine⟨T.Pa,T.EG.kp,T.R5,T.EG.okQ pU (λvs H Q E h=>by obtain⟨p,M,rfl,_⟩:=h;rfl) λ_ _ _ _ H vs Q E L h=>?_⟩;obtain⟨p,M,rfl,⟨a,b,hp,ct⟩,k⟩:=h;have v:=L.units;refine⟨_,(ah (jN (aa 0) (eU (K:=K) Z Z (bP (bj (i:=1) pU.nd Z (.inl Z)) (bP (bj (i:=2) pU.nd Z (.inl Z)) (bP (bj (i:=3) pU.nd Z (.inl Z)) eT)))))
  (ah (aD (aw (bh (K:=K) rfl v) (aa 1) bc (av _)) (ai (aq (BA T.MQ T.O8))) aG)
  (ah (aD (bY (dw (aw (bh (K:=K) rfl v) (aa 1) bc (av _)) (dJ (aw (bh (K:=K) rfl v) (aa 1) bc (av _))))) (ai (aq (nK (NY T) L (ad (aa 1) ae)))) aG)
  (ah (aD (aw (bh (K:=K) rfl v) (aa 1) bc (av _)) (ai (aq (nK (NV T) L (ad (cw (U5 K) T.n_list VL (ad (aa 2) ae)) (ad (cw (U5 K) T.n_list VL (ad (aa 3) ae)) ae))))) aG)
  (ah (aD (aw (bh (K:=K) rfl v) (aa 1) bc (av _)) (ai (aq (nK (NU T) L (ad (hJ rfl (dG.of (fns:=(am jE).names) (N:=["_law_model_here", "_law_word", "_law_first", "_law_second"]) (Nc:=["_law_sign", "_law_row_here"]) (nv:=2) (caps:=[]) rfl rfl (by decide +kernel)) (Bw (K:=K) rfl rfl T.n_zip (ad (aa 2) (ad (aa 3) ae))) (λ_ _ _ _=>(eU (K:=K) rfl (n:=2) rfl (bP (bj (i:=0) (show List.Nodup (["_law_sign", "_law_row_here"]:List Str) by decide +kernel) rfl (Or.inl rfl) (Or.inr rfl)) (bP (bj (i:=1) (show List.Nodup (["_law_sign", "_law_row_here"]:List Str) by decide +kernel) rfl (Or.inl rfl) (Or.inr rfl)) eT)))) (λ_ _ _ _=>gZ) (λ_ _ _ _=>(bR (ad (aa 0) (ad (cw (U5 K) T.n_list VL (ad (aa 1) ae)) ae))))) ae)))) aG)
  (ai (aq (BA T.MP T.O4)))))))),?_⟩
 refine⟨p,_,Z,.of hp,Z,_,_,Z,_,_,Z,_,_,Z,Z,?_⟩;cases M with
 | ld =>
  refine xS (aP fW) (aP fW) ?_;refine ak (λ_=>?_) (λz=>Ya (show PyData.eqv (.str "lead") (.str "lead")=true by decide +kernel) z);refine λx dx hx d g=>?_;exact k x .ld _ (i7 hx d) Z ⟨dx,aX⟩
 | pr h =>
  cases h with
  | true =>
   refine xS (aP d9) (aP fW) ?_;refine ak (λz=>Ya (show PyData.eqv (.str "high") (.str "lead")=true from z) (by decide +kernel)) (λ_=>?_);refine xS (aP d9) (aP d9) ?_;refine ak (λ_=>?_) (λz=>Ya (show PyData.eqv (.str "high") (.str "high")=true by decide +kernel) z);refine iw ?_;refine λx dx hx d g=>?_;refine bL x dx true Z aX Z ?_;refine k x (.pr true) _ (λc u e=>?_) Z ⟨dx,aX⟩;rw[au (aO e hx)];exact i7 hx d c u e
  | false =>
   refine xS (aP fD) (aP fW) ?_;refine ak (λz=>Ya (show PyData.eqv (.str "low") (.str "lead")=true from z) (by decide +kernel)) (λ_=>?_);refine xS (aP fD) (aP d9) ?_;refine ak (λz=>Ya (show PyData.eqv (.str "low") (.str "high")=true from z) (by decide +kernel)) (λ_=>?_);refine xS (aP fD) (aP fD) ?_;refine ak (λ_=>?_) (λz=>Ya (show PyData.eqv (.str "low") (.str "low")=true by decide +kernel) z);refine λx dx hx d g=>?_;refine bL x dx false Z aX Z ?_;refine k x (.pr false) _ (λc u e=>?_) Z ⟨dx,aX⟩;rw[au (aO e hx)];exact i7 hx d c u e
 | sh ns ms =>
  obtain⟨J,hb,a2,U⟩:=ct;refine xS (aP dU) (aP fW) ?_;refine ak (λz=>Ya (show PyData.eqv (.str "shift") (.str "lead")=true from z) (by decide +kernel)) (λ_=>?_);refine xS (aP dU) (aP d9) ?_;refine ak (λz=>Ya (show PyData.eqv (.str "shift") (.str "high")=true from z) (by decide +kernel)) (λ_=>?_);refine xS (aP dU) (aP fD) ?_;refine ak (λz=>Ya (show PyData.eqv (.str "shift") (.str "low")=true from z) (by decide +kernel)) (λ_=>?_);refine xS (aP dU) (aP dU) ?_;refine ak (λ_=>?_) (λz=>Ya (show PyData.eqv (.str "shift") (.str "shift")=true by decide +kernel) z);refine aS (.inl (.of J)) (λq H1 D=>?_);refine aS (.inl (.of (D.sm _ _ hb))) (λr H2 o=>?_);refine λx dx hx d g=>?_;have s:=i7 (C:=t.cr) hx d;have O:=o.sm _ _ D.at_;refine⟨x,dx,q,r,ns,ms,rfl,aX,.of (s _ _ O),.of (s _ _ o.at_),a2,U,aO O hx,aO o.at_ hx,λfp R k8 S fr=>⟨rfl,?_⟩⟩;refine k x (.sh fp ns ms) R (λc u e=>k8 _ _ (aO (o.sm _ _ (D.sm _ _ e)) hx) (s _ _ (o.sm _ _ (D.sm _ _ e)))) ⟨fp,Z⟩ S
 | tb es =>
  obtain⟨J,⟨qs,hb,y⟩,ok⟩:=ct;refine xS (aP fV) (aP fW) ?_;refine ak (λz=>Ya (show PyData.eqv (.str "table") (.str "lead")=true from z) (by decide +kernel)) (λ_=>?_);refine xS (aP fV) (aP d9) ?_;refine ak (λz=>Ya (show PyData.eqv (.str "table") (.str "high")=true from z) (by decide +kernel)) (λ_=>?_);refine xS (aP fV) (aP fD) ?_;refine ak (λz=>Ya (show PyData.eqv (.str "table") (.str "low")=true from z) (by decide +kernel)) (λ_=>?_);refine xS (aP fV) (aP dU) ?_;refine ak (λz=>Ya (show PyData.eqv (.str "table") (.str "shift")=true from z) (by decide +kernel)) (λ_=>?_);refine xS (aP fV) (aP fV) ?_;refine ak (λ_=>?_) (λz=>Ya (show PyData.eqv (.str "table") (.str "table")=true by decide +kernel) z);have ag:=ok.l;have lq:=y.1;refine⟨a,b,_,_,Z,.of J,.of hb,?_⟩;refine Rf (K:=K) (a:=a) (b:=b) (xs:=(es.map λe=>e.1).map V.int) (zs:=qs.map V.ref) (cs:=[]) (by simp[lq]) (λi ys H'=>aj H H'/\∃ps:List Addr,ys=ps.map V.ref/\ps.length=i/\m4 H' ps (es.take i)) ⟨aj.refl _,[],rfl,rfl,cL.nil⟩ (λi ys H' hi z=>⟨z.1.seq (.of J),z.1.seq (.of hb),by obtain⟨_,ps,rfl,hl,_⟩:=z;rw[U9];lia⟩) (cQ (by rw[U9,U9];lia)) (λi x z ys H2 H3 N hx hz pv s3 hN=>?_) λys H2 pf H3 pv F=>?_
  ·obtain⟨n,hn,rfl⟩:=eX hx;obtain⟨q,hq,rfl⟩:=qc hz;obtain⟨B,ps,rfl,hl,I⟩:=pv;obtain⟨e,Y,m⟩:=y.right hq;rw[Vf,Y]at hn;cases hn;simp only [gW,if_true];have j:=B.trans s3;refine aS (.inl (.of (j _ _ m))) (λO H4 g4=>?_);refine⟨sz Z,λp5 H5 G=>?_⟩;refine hN _ _ ⟨j.trans (g4.sm.trans G.sm),ps++[p5],by rw[Vj];rfl,by rw[Vc,hl];rfl,?_⟩;rw[fh Y];refine cL.app (I.mono (s3.trans (g4.sm.trans G.sm))) (cL.cons ⟨⟨O,G.at_,G.sm _ _ g4.at_⟩,?_⟩ cL.nil);have:=ok.sg e (Vo Y);exact⟨this.2.1,this.2.2.1⟩
  obtain⟨B,ps,rfl,hl,I⟩:=pv;rw[U9,U9,Vw]at I;refine λx dx hx d g=>?_;have s:=i7 (C:=t.cB) hx d;refine cq x dx pf ps es rfl aX (s _ _ F.at_) (I.mono (F.sm.trans s)) ok (λf R k8 W=>⟨rfl,?_⟩);exact k x (.tb f es) R (λc u e=>k8 _ _ (aO (F.sm _ _ (B _ _ e)) hx) (s _ _ (F.sm _ _ (B _ _ e)))) ⟨f,Z⟩ ⟨W,ok⟩
 | br =>
  refine xS (aP mD) (aP fW) ?_;refine ak (λz=>Ya (show PyData.eqv (.str "bare") (.str "lead")=true from z) (by decide +kernel)) (λ_=>?_);refine xS (aP mD) (aP d9) ?_;refine ak (λz=>Ya (show PyData.eqv (.str "bare") (.str "high")=true from z) (by decide +kernel)) (λ_=>?_);refine xS (aP mD) (aP fD) ?_;refine ak (λz=>Ya (show PyData.eqv (.str "bare") (.str "low")=true from z) (by decide +kernel)) (λ_=>?_);refine xS (aP mD) (aP dU) ?_;refine ak (λz=>Ya (show PyData.eqv (.str "bare") (.str "shift")=true from z) (by decide +kernel)) (λ_=>?_);refine xS (aP mD) (aP fV) ?_;refine ak (λz=>Ya (show PyData.eqv (.str "bare") (.str "table")=true from z) (by decide +kernel)) (λ_=>?_);refine λx dx hx d g=>?_;exact k x .br _ (i7 hx d) Z ⟨dx,aX⟩
def HJ:Sp:=λvs H Q _=>∃n,vs=[.int n]/\∀p H',bz H p (.lst ((row n).map V.int)) H'->Q (.ref p) H'
def On (T:Txt w K mg t):bC P w K mg base "_law_lead_row" 1 t.yl t.vF ["_law_sign"] HJ:=by
 refine⟨T.Pr,T.EW.kp,T.Sl,T.EW.okQ IC (λvs H Q E h=>by obtain⟨n,rfl,_⟩:=h;rfl) λ_ _ _ _ H vs Q E d h=>?_⟩;obtain⟨n,rfl,k⟩:=h;refine⟨_,(ah (aD (aw cZ (aa 0) ag (av _)) (ai (aq (aM (ad (aa 0) ae)))) aG)
  (ah (aD (aw cZ (aa 0) ag (av _)) (ai (aq (aM (ad (aE (U0 K) ag (ce (aa 0))) (ad (aE (U0 K) ag (bB (aa 0))) ae))))) aG)
  (ah (aD (aw cZ (aa 0) ag (av _)) (ai (aq (aM (ad (aE (U0 K) ag (ce (aa 0))) (ad (aE (U0 K) ag (bB (ce (aa 0)))) (ad (aE (U0 K) ag (bB (aa 0))) ae)))))) aG)
  (ai (aq (aM (ad (aE (U0 K) ag (ce (aa 0))) (ad (aE (U0 K) ag (bB (ce (aa 0)))) (ad (aE (U0 K) ag (bB (ce (aa 0)))) (ad (aE (U0 K) ag (bB (aa 0))) ae)))))))))),?_⟩
 unfold row at k;refine ak (λc=>?_) (λc=>?_)
 ·rw[X9 (Yb c)]at k;exact⟨sz Z,k⟩
 rw[X8 (λz=>c (Yc z))]at k;refine ak (λa=>?_) (λa=>?_)
 ·rw[X9 (Yb a)]at k;exact⟨sz Z,k⟩
 rw[X8 (λz=>a (Yc z))]at k;refine ak (λb=>?_) (λb=>?_)
 ·rw[X9 (Yb b)]at k;exact⟨sz Z,k⟩
 rw[X8 (λz=>b (Yc z))]at k;exact⟨sz Z,k⟩
def Hu:Sp:=λvs H Q _=>∃(n:Int) (h:Bool),vs=[.int n,.str (hW h)]/\∀p H',aj H H'->H p=none->H' p=some (.lst ((fU h n).map V.int))->Q (.ref p) H'
def Oi (T:Txt w K mg t):bC P w K mg base "_law_pair_row" 1 t.yg t.vA ["_law_sign", "_law_word"] Hu:=by
 refine⟨T.Pk,T.ER.kp,T.Sf,T.ER.okQ jD (λvs H Q E h=>by obtain⟨n,h,rfl,_⟩:=h;rfl) λ_ _ _ _ H vs Q E U h=>?_⟩;obtain⟨n,h,rfl,k⟩:=h;have R:=U.units;refine⟨_,(ah (aF (i:=2) jD.nd Z (.inl Z) (aM (ad (aa 0) ae)))
  (ah (aD (aw fF (aa 0) ag (av _)) (ai (aF (i:=2) jD.nd rfl (.inl rfl) (aM (ad (aE (U0 K) ag (ce (aE dB (aa 0) ag))) (ad (aE (U0 K) ag (bB (aa 0))) ae))))) aG)
  (ah (aF (i:=3) jD.nd rfl (.inl rfl) (aM ae))
  (ah (dy PassesOwn.never rfl (d7 (K:=K) rfl (aa 2)) (bj (i:=4) jD.nd rfl (.inl rfl)) (ai (aD (aw (bh (K:=K) rfl R) (aa 1) bc (av _)) (ai (aF (i:=3) jD.nd rfl (.inl rfl) (aE (U0 K) (aa 3) (aM (ad (ce (aa 4)) (ad (bB (aa 4)) ae)))))) (ai (aF (i:=3) jD.nd rfl (.inl rfl) (aE (U0 K) (aa 3) (aM (ad (bB (aa 4)) (ad (ce (aa 4)) ae)))))))))
  (ai (aq (aa 3))))))),?_⟩
 refine⟨sz Z,λW H1 s=>?_⟩;dsimp only [bU];refine bO (λB j=>aj H j/\∃g,j g=some (.lst ((dn n).map V.int))/\B=[some (.int n),some (.str (hW h)),some (.ref g),none,none]) (λnx F=>?_) ?_
 ·refine ak (λc=>?_) (λc=>?_)
  ·have c:n > 65535:=Yb c;refine⟨sz Z,λI S C=>?_⟩;refine F _ _ ⟨s.sm.trans C.sm,I,?_,Z⟩;have e:dn n=[55296+(n-65536)/1024,56320+n%1024]:=by
    unfold dn;rw[X8 (by lia)]
    congr 2
    lia
   rw[e];exact C.at_
  ·have c:¬n > 65535:=λz=>c (Yc z);refine F _ _ ⟨s.sm,W,?_,Z⟩;have e:dn n=[n]:=by unfold dn;rw[X9 (by lia)]
   rw[e];exact s.at_
 rintro B S ⟨r,g,q,rfl⟩;have lu:=zU n;refine⟨sz Z,λN G f=>?_⟩;refine dX g Z ⟨_,.of (f.sm _ _ q)⟩ (iS (K:=K) (a:=g) (xs:=(dn n).map V.int) (λi σ j=>aj G j/\∃(pr:Addr) (v:Option V),H pr=none/\j pr=some (.lst ((((dn n).take i).flatMap (ub h)).map V.int))/\σ=[some (.int n),some (.str (hW h)),some (.ref g),some (.ref pr),v]) ⟨aj.refl _,N,_,r.free f.nw,f.at_,Z⟩ (λi σ j _ z=>z.1.seq (.of (f.sm _ _ q))) ?_ ?_)
 ·rintro i x σ D hx ⟨o,pr,v,_,l,rfl⟩;obtain⟨m,y,rfl⟩:=eX hx;have p:=r.trans (f.sm.trans o);have Y:i<(dn n).length:=(Vh.mp y).1;have fl:=q9 h ((dn n).take i);have lt:((dn n).take i).length<=2:=by rw[Vk];lia
  have e:((dn n).take (i+1)).flatMap (ub h)=((dn n).take i).flatMap (ub h)++ub h m:=by rw[fh y,List.flatMap_append];simp
  cases h with
  | true =>
   refine xS (aP d9) (aP d9) ?_;refine ak (λ_=>?_) (λz=>Ya (show PyData.eqv (.str "high") (.str "high")=true by decide +kernel) z);refine⟨sz Z,λJ O b=>?_⟩;refine gf (.of (b.sm _ _ l)) b.lst (cQ (by rw[U9];show _+2<=_;lia)) (λu M d=>?_);refine⟨o.trans (b.sm.trans d.sm),u,_,(p.trans b.sm).free d.nw,?_,Z⟩;rw[e,Vj];exact d.at_
  | false =>
   refine xS (aP fD) (aP d9) ?_;refine ak (λz=>Ya (show PyData.eqv (.str "low") (.str "high")=true from z) (by decide +kernel)) (λ_=>?_);refine⟨sz Z,λJ O b=>?_⟩;refine gf (.of (b.sm _ _ l)) b.lst (cQ (by rw[U9];show _+2<=_;lia)) (λu M d=>?_);refine⟨o.trans (b.sm.trans d.sm),u,_,(p.trans b.sm).free d.nw,?_,Z⟩;rw[e,Vj];exact d.at_
 ·rintro σ D ⟨o,pr,v,L,l,rfl⟩;rw[U9,Vw]at l;exact k pr D (r.trans (f.sm.trans o)) L l
def ix(n:Int)(ns:e7):bG (.int n) (ns.map V.int)=decide (n∈ns):=NR n ns
def ji(ns:e7):(ns.map V.int).all fZ=true:=by
 rw[WD];intro x hx;obtain⟨n,_,rfl⟩:=VC.mp hx
 rfl
def Hg(t:Adr):Sp:=λvs H Q _=>∃(p:Addr) (M:Md) (D:Kt) (n g:Int),vs=[.ref p,.int n,.int g]/\Mod H p M/\Mt M D/\dM D n/\bZ D g/\∀pr q H',aj H H'->H q=none->H' q=some (.lst ((bI D g n).1.map V.int))->H' pr=some (.tup [.ref q,.int (bI D g n).2])->Q (.ref pr) H'
def CZ (T:Txt w K mg t):bC P w K mg base "_law_spell" 2 t.ya t.vq ["_law_model_here", "_law_sign", "_law_page"] (Hg t):=by
 refine⟨T.Pd,T.EJ.kp,T.R8,T.EJ.okQ pV (λvs H Q E h=>by obtain⟨p,M,D,n,g,rfl,_⟩:=h;rfl) λ_ _ _ _ H vs Q E hr h=>?_⟩;obtain⟨p,M,D,n,g,rfl,⟨a,b,O,ct⟩,mt,s,pg,k⟩:=h;have C:=hr.units;refine⟨_,(ah (jN (aa 0) (eU (K:=K) Z Z (bP (bj (i:=3) pV.nd Z (.inl Z)) (bP (bj (i:=4) pV.nd Z (.inl Z)) (bP (bj (i:=5) pV.nd Z (.inl Z)) eT)))))
  (ah (aD (aw (bh (K:=K) rfl C) (aa 3) bc (av _)) (ai (aq (bR (ad (aW (On T) hr (ad (aa 1) ae)) (ad ag ae))))) aG)
  (ah (aD (bY (dw (aw (bh (K:=K) rfl C) (aa 3) bc (av _)) (dJ (aw (bh (K:=K) rfl C) (aa 3) bc (av _))))) (ai (aq (bR (ad (aW (Oi T) hr (ad (aa 1) (ad (aa 3) ae))) (ad ag ae))))) aG)
  (ah (aD (bY (fu (aw (bh (K:=K) rfl C) (aa 3) bc (av _)) (fQ (aw (jR (K:=K) rfl) (aa 1) (aa 4) (by with_unfolding_all rfl))))) (ai (aq (bR (ad (cw (U5 K) T.n_list VL (ad (ay (U3 K) (aa 5) (dP (K:=K) rfl VD WH Xd (qA (K:=K) rfl) (aa 4) (ad (aa 1) ae)) (λ_ _=>rfl)) ae)) (ad ag ae))))) aG)
  (ah (aD (bY (fu (aw (bh (K:=K) rfl C) (aa 3) bc (av _)) (fQ (aw (jR (K:=K) rfl) (aa 1) (ay (U3 K) (aa 0) (aE (U0 K) ag (aa 2)) (λ_ _=>rfl)) (by with_unfolding_all rfl))))) (ai (aq (bR (ad (aM (ad (dP (K:=K) rfl VD WH Xd (qA (K:=K) rfl) (ay (U3 K) (aa 0) (aE (U0 K) ag (aa 2)) (λ_ _=>rfl)) (ad (aa 1) ae)) ae)) (ad (aa 2) ae))))) aG)
  (ah (aD (bY (fu (aw (bh (K:=K) rfl C) (aa 3) bc (av _)) (fQ (aw (jR (K:=K) rfl) (aa 1) (ay (U3 K) (aa 0) (aE dB ag (aa 2)) (λ_ _=>rfl)) (by with_unfolding_all rfl))))) (ai (aq (bR (ad (aM (ad (aE dB ag (aa 2)) (ad (dP (K:=K) rfl VD WH Xd (qA (K:=K) rfl) (ay (U3 K) (aa 0) (aE dB ag (aa 2)) (λ_ _=>rfl)) (ad (aa 1) ae)) ae))) (ad (aE dB ag (aa 2)) ae))))) aG)
  (ai (aq bW)))))))),?_⟩
 refine⟨p,_,Z,.of O,Z,_,_,Z,_,_,Z,_,_,Z,Z,?_⟩;cases M with
 | ld =>
  obtain rfl:D=.ld:=mt;obtain rfl:g=0:=pg;refine xS (aP fW) (aP fW) ?_;refine ak (λ_=>?_) (λz=>Ya (show PyData.eqv (.str "lead") (.str "lead")=true by decide +kernel) z);refine gS n Z (λq G d=>?_);exact⟨sz Z,λl r c=>k l q r (d.sm.trans c.sm) d.nw (c.sm _ _ d.at_) c.at_⟩
 | pr h =>
  obtain rfl:D=.pr h:=mt;obtain rfl:g=0:=pg;cases h with
  | true =>
   refine xS (aP d9) (aP fW) ?_;refine ak (λz=>Ya (show PyData.eqv (.str "high") (.str "lead")=true from z) (by decide +kernel)) (λ_=>?_);refine xS (aP d9) (aP d9) ?_;refine ak (λ_=>?_) (λz=>Ya (show PyData.eqv (.str "high") (.str "high")=true by decide +kernel) z);refine iw ?_;refine⟨n,true,Z,λq G s1 Y N=>?_⟩;exact⟨sz Z,λl r c=>k l q r (s1.trans c.sm) Y (c.sm _ _ N) c.at_⟩
  | false =>
   refine xS (aP fD) (aP fW) ?_;refine ak (λz=>Ya (show PyData.eqv (.str "low") (.str "lead")=true from z) (by decide +kernel)) (λ_=>?_);refine xS (aP fD) (aP d9) ?_;refine ak (λz=>Ya (show PyData.eqv (.str "low") (.str "high")=true from z) (by decide +kernel)) (λ_=>?_);refine xS (aP fD) (aP fD) ?_;refine ak (λ_=>?_) (λz=>Ya (show PyData.eqv (.str "low") (.str "low")=true by decide +kernel) z);refine⟨n,false,Z,λq G s1 Y N=>?_⟩;exact⟨sz Z,λl r c=>k l q r (s1.trans c.sm) Y (c.sm _ _ N) c.at_⟩
 | br =>
  obtain rfl:D=.br:=mt;exact s.elim
 | tb es =>
  obtain⟨f,rfl⟩:=mt;obtain rfl:g=0:=pg;obtain⟨F,⟨qs,hb,a1⟩,ok⟩:=ct;refine xS (aP fV) (aP fW) ?_;refine ak (λz=>Ya (show PyData.eqv (.str "table") (.str "lead")=true from z) (by decide +kernel)) (λ_=>?_);refine xS (aP fV) (aP d9) ?_;refine ak (λz=>Ya (show PyData.eqv (.str "table") (.str "high")=true from z) (by decide +kernel)) (λ_=>?_);refine xS (aP fV) (aP fD) ?_;refine ak (λz=>Ya (show PyData.eqv (.str "table") (.str "low")=true from z) (by decide +kernel)) (λ_=>?_);refine xS (aP fV) (aP fV) ?_;refine ak (λ_=>?_) (λz=>Ya (show PyData.eqv (.str "table") (.str "table")=true by decide +kernel) z);obtain⟨e0,S,J,a3⟩:=mQ s;have u:n∈es.map λe=>e.1:=VC.mpr ⟨e0,S,J⟩;refine gR (.inl (.of F)) Z (ji _) ?_;refine ak (λ_=>?_) (λz=>?_)
  ·obtain⟨j,x,_⟩:=jQ u;obtain⟨B,I⟩:=jg x;rw[Vf]at B;obtain⟨ej,v,U⟩:=Wr.mp B;obtain⟨q,N,L⟩:=a1.left v;have ee:ej=e0:=by
    rcases ok.two (Vo v) S with z|z
    ·exact z
    ·unfold gq at z;rw[Yc (U.trans J.symm)]at z;cases z
   refine⟨.inl ⟨rfl,_,.of F⟩,?_⟩;refine⟨_,_,_,j,rfl,rfl,F,rfl,ji _,⟨.int n,by rw[Vf,Vf,v,<- U];rfl,by simp[dh]⟩,λW z o hz=>?_,?_⟩
   ·obtain⟨m,u,rfl⟩:=eX hz;have:¬m=n:=λy=>I W o (by rw[<- y];exact u);simp[dh,this]
   refine⟨_,.ref q,.inl (.of hb),aA (by rw[Vf,N];rfl),?_⟩;refine aS (.inl (.of L)) (λq2 G d=>?_);have es':bI (.tb f es) 0 n=(e0.2,0):=by
    show (Option.map _ _).getD _=_;rw[a3];rfl
   rw[ee]at d;exact⟨sz rfl,λl r c=>k l q2 r (d.sm.trans c.sm) d.nw (by rw[es'];exact c.sm _ _ d.at_) (by rw[es'];exact c.at_)⟩
  ·have z:¬bG (.int n) ((es.map λe=>e.1).map V.int)=true:=z;rw[ix]at z;exact Ya (Yc u) z
 | sh ns ms =>
  obtain⟨f,rfl⟩:=mt;obtain⟨F,hb,a8,a5⟩:=ct;have two:cP g:=pg;refine xS (aP dU) (aP fW) ?_;refine ak (λz=>Ya (show PyData.eqv (.str "shift") (.str "lead")=true from z) (by decide +kernel)) (λ_=>?_);refine xS (aP dU) (aP d9) ?_;refine ak (λz=>Ya (show PyData.eqv (.str "shift") (.str "high")=true from z) (by decide +kernel)) (λ_=>?_);refine xS (aP dU) (aP fD) ?_;refine ak (λz=>Ya (show PyData.eqv (.str "shift") (.str "low")=true from z) (by decide +kernel)) (λ_=>?_);refine xS (aP dU) (aP fV) ?_;refine ak (λz=>Ya (show PyData.eqv (.str "shift") (.str "table")=true from z) (by decide +kernel)) (λ_=>?_);refine xS (aP dU) (aP dU) ?_;refine ak (λ_=>?_) (λz=>Ya (show PyData.eqv (.str "shift") (.str "shift")=true by decide +kernel) z);have hP:H (ao g a b)=some (.lst ((ao g ns ms).map V.int)):=by
   rcases two with rfl|rfl
   ·exact F
   ·exact hb
  have hO:H (ao g b a)=some (.lst ((ao g ms ns).map V.int)):=by
   rcases two with rfl|rfl
   ·exact hb
   ·exact F
  have eP:c8 [V.str (cy (.sh ns ms)),.ref a,.ref b] (1+g)=some (.ref (ao g a b)):=by rcases two with rfl|rfl<;>rfl
  have eO:c8 [V.str (cy (.sh ns ms)),.ref a,.ref b] (2-g)=some (.ref (ao g b a)):=by rcases two with rfl|rfl<;>rfl
  have mem:n∈ao g ns ms\/n∈ao g ms ns:=by
   rcases two with rfl|rfl
   ·exact s
   ·exact s.symm
  refine bi (.inr (.of O)) eP ?_;refine gR (.inl (.of hP)) Z (ji _) ?_;refine ak (λz=>?_) (λz=>?_)
  ·have z:bG (.int n) ((ao g ns ms).map V.int)=true:=z;rw[ix]at z;obtain⟨j,x,_⟩:=jQ (Yb z);obtain⟨B,I⟩:=jg x;refine bi (.inr (.of O)) eP ?_;refine⟨.inl ⟨rfl,_,.of hP⟩,?_⟩;refine⟨_,_,_,j,rfl,rfl,hP,rfl,ji _,⟨.int n,by rw[Vf,B];rfl,by simp[dh]⟩,λW z o hz=>?_,?_⟩
   ·obtain⟨m,u,rfl⟩:=eX hz;have:¬m=n:=λy=>I W o (by rw[<- y];exact u);simp[dh,this]
   have es':bI (.sh f ns ms) g n=([(j:Int)],g):=by
    show (fi (ao g ns ms) (ao g ms ns) g (.int n)).getD _=_;unfold fi;dsimp only;rw[x];rfl
   refine⟨sz Z,λq G d=>?_⟩;exact⟨sz rfl,λl r c=>k l q r (d.sm.trans c.sm) d.nw (by rw[es'];exact c.sm _ _ d.at_) (by rw[es'];exact c.at_)⟩
  ·have z:¬bG (.int n) ((ao g ns ms).map V.int)=true:=z;rw[ix]at z;have z:n∉ao g ns ms:=λy=>z (Yc y);have hmO:=mem.resolve_left z;refine xS (aP dU) (aP dU) ?_;refine ak (λ_=>?_) (λz=>Ya (show PyData.eqv (.str "shift") (.str "shift")=true by decide +kernel) z);refine bi (.inr (.of O)) eO ?_;refine gR (.inl (.of hO)) Z (ji _) ?_;refine ak (λ_=>?_) (λy=>?_)
   ·obtain⟨j,x,_⟩:=jQ hmO;obtain⟨B,I⟩:=jg x;refine bi (.inr (.of O)) eO ?_;refine⟨.inl ⟨rfl,_,.of hO⟩,?_⟩;refine⟨_,_,_,j,rfl,rfl,hO,rfl,ji _,⟨.int n,by rw[Vf,B];rfl,by simp[dh]⟩,λW z o hz=>?_,?_⟩
    ·obtain⟨m,u,rfl⟩:=eX hz;have:¬m=n:=λy=>I W o (by rw[<- y];exact u);simp[dh,this]
    have es':bI (.sh f ns ms) g n=([254+(1-g),(j:Int)],1-g):=by
     show (fi (ao g ns ms) (ao g ms ns) g (.int n)).getD _=_;unfold fi;dsimp only;rw[iz.mpr z];dsimp only;rw[x];rfl
    have R:(255:Int)-g=254+(1-g):=by lia
    refine⟨sz Z,λq G d=>?_⟩;dsimp only at d;rw[R]at d;exact⟨sz rfl,λl r c=>k l q r (d.sm.trans c.sm) d.nw (by rw[es'];exact c.sm _ _ d.at_) (by rw[es'];exact c.at_)⟩
   ·have y:¬bG (.int n) ((ao g ms ns).map V.int)=true:=y;rw[ix]at y;exact Ya (Yc hmO) y
def ua(M:Md):PyData.strOk (cy M)=true:=by
 cases M with
 | ld=>exact fW
 | pr h=>cases h with
  | true=>exact d9
  | false=>exact fD
 | sh ns ms=>exact dU
 | tb es=>exact fV
 | br=>exact mD
def NE (ns ms:e7):PyData.eqv (.str (cy (.sh ns ms))) (.str "shift")=true:=show PyData.eqv (.str "shift") (.str "shift")=true by decide +kernel
def B5 {M:Md} (h:∀ns ms,M ≠ .sh ns ms):PyData.eqv (.str (cy M)) (.str "shift")=false:=by
 cases M with
 | ld=>exact show PyData.eqv (.str "lead") (.str "shift")=false by decide +kernel
 | pr b=>cases b with
  | true=>exact show PyData.eqv (.str "high") (.str "shift")=false by decide +kernel
  | false=>exact show PyData.eqv (.str "low") (.str "shift")=false by decide +kernel
 | sh ns ms=>exact Ya rfl (h ns ms)
 | tb es=>exact show PyData.eqv (.str "table") (.str "shift")=false by decide +kernel
 | br=>exact show PyData.eqv (.str "bare") (.str "shift")=false by decide +kernel
def zt:Md->Bool
 | .ld=>true
 | .pr _=>true
 | _=>false
def CK (M:Md):bG (.str (cy M)) [.str "lead",.str "high",.str "low"]=zt M:=by
 cases M with
 | ld=>exact show bG (.str "lead") [.str "lead",.str "high",.str "low"]=true by decide +kernel
 | pr h=>cases h with
  | true=>exact show bG (.str "high") [.str "lead",.str "high",.str "low"]=true by decide +kernel
  | false=>exact show bG (.str "low") [.str "lead",.str "high",.str "low"]=true by decide +kernel
 | sh ns ms=>exact show bG (.str "shift") [.str "lead",.str "high",.str "low"]=false by decide +kernel
 | tb es=>exact show bG (.str "table") [.str "lead",.str "high",.str "low"]=false by decide +kernel
 | br=>exact show bG (.str "bare") [.str "lead",.str "high",.str "low"]=false by decide +kernel
def Nn{M:Md}(h:zt M=true){D:Kt}(m:Mt M D){n:Int}(s:Sg n):dM D n:=by
 cases M with
 | ld=>obtain rfl:D=.ld:=m;exact s
 | pr b=>obtain rfl:D=.pr b:=m;exact s
 | _=>cases h
def TJ:Md->Int->Prop
 | .sh ns ms,n=>n∉ns/\n∉ms
 | .tb es,n=>∀e∈es,e.1≠n
 | _,_=>True
def NQ(n:Int)(qs:List Addr):bG (.int n) (qs.map V.ref)=false:=by
 unfold bG;rw[List.any_eq_false];intro x hx;obtain⟨q,_,rfl⟩:=VC.mp hx;simp[dh]
def Mod.two{H:Hp}{p:Addr}{M:Md}(h:Mod H p M):∃a b xs ys zs,H p=some (.tup [.str (cy M),.ref a,.ref b])/\H a=some (.lst (xs.map V.int))/\H b=some (.lst ys)/\(∀y∈ys,TL H y)/\(∀n:Int,bG (.int n) ys=decide (n∈zs))/\xs.length<=250/\zs.length<=250/\(∀n:Int,n∉xs->n∉zs->TJ M n)/\(zt M=false->∀D,Mt M D->∀n∈xs,dM D n)/\(∀ns ms,M=.sh ns ms->xs=ns/\zs=ms/\ys=ms.map V.int):=by
 obtain⟨a,b,d,ct⟩:=h;cases M with
 | ld=>exact⟨a,b,[],[],[],d,ct.1,ct.2,(λ_ h=>nomatch h),λ_=>rfl,by decide,by decide,λ_ _ _=>trivial,(λh=>nomatch h),(λ_ _ h=>nomatch h)⟩
 | pr h=>exact⟨a,b,[],[],[],d,ct.1,ct.2,(λ_ h=>nomatch h),λ_=>rfl,by decide,by decide,λ_ _ _=>trivial,(λh=>nomatch h),(λ_ _ h=>nomatch h)⟩
 | br=>exact⟨a,b,[],[],[],d,ct.1,ct.2,(λ_ h=>nomatch h),λ_=>rfl,by decide,by decide,λ_ _ _=>trivial,(λ_ _ _ _ h=>nomatch h),(λ_ _ h=>nomatch h)⟩
 | sh ns ms =>
  obtain⟨s,hb,o,g⟩:=ct;refine⟨a,b,ns,_,ms,d,s,hb,λy i=>?_,λn=>ix n ms,o.2.2,g.2.2,λn r B=>⟨r,B⟩,λ_ D mt n k=>?_,λx C e=>?_⟩
  ·obtain⟨m,_,rfl⟩:=VC.mp i;exact .inl Z
  ·obtain⟨f,rfl⟩:=mt;exact .inl k
  ·cases e;exact⟨rfl,rfl,rfl⟩
 | tb es =>
  obtain⟨s,⟨qs,hb,u⟩,ok⟩:=ct;refine⟨a,b,es.map λe=>e.1,_,[],d,s,hb,λy i=>?_,λn=>NQ n qs,by rw[U9];have:=ok.l;lia,by decide,λn r _ e c z=>r (VC.mpr ⟨e,c,z⟩),λ_ D mt n k=>?_,(λ_ _ h=>nomatch h)⟩
  ·obtain⟨q,F,rfl⟩:=VC.mp i;obtain⟨j,v⟩:=WR.mp F;obtain⟨e,_,c⟩:=u.right v;exact .inr ⟨q,_,Z,c⟩
  ·obtain⟨f,rfl⟩:=mt;obtain⟨e,c,G⟩:=VC.mp k;exact⟨e,c,G⟩
def G7(K:PySem.W.Frag):Sp:=λvs H Q _=>∃(p c:Addr) (M:Md) (cs:e7),vs=[.ref p,.ref c]/\Mod H p M/\aH K H c (cs.map V.int)/\cs.length<=100/\∀q (a:e7) H',aj H H'->H' q=some (.lst (a.map V.int))->a.length<=100->(a=[]\/a.length=cs.length)->(∀D,Mt M D->∀n∈a,dM D n)->Q (.ref q) H'
def Ob (T:Txt w K mg t):bC P w K mg base "_law_text" 3 t.x8 t.vo ["_law_model_here", "_law_cells"] (G7 K):=by
 refine⟨T.Pb,T.EH.kp,T.R6,T.EH.okQ kg (λvs H Q E h=>by obtain⟨p,c,M,cs,rfl,_⟩:=h;rfl) λ_ _ _ _ H vs Q E hr h=>?_⟩;obtain⟨p,c,M,cs,rfl,mod,hc,lc,k⟩:=h;have hu:=hr.units;obtain⟨a,b,xs,ys,zs,hp,Y,hb,fl,iy,lx,lz,lk,ld,sh⟩:=mod.two;refine⟨_,(ah (jN (aa 0) (eU (K:=K) Z Z (bP (bj (i:=2) kg.nd Z (.inl Z)) (bP (bj (i:=3) kg.nd Z (.inr Z)) (bP (bj (i:=4) kg.nd Z (.inl Z)) eT)))))
  (ah (aD (aw (jR (K:=K) rfl) (aa 2) (bR (hU rfl)) (by with_unfolding_all rfl)) (ai (aq (hJ rfl (dG.of (fns:=(am iJ).names) (N:=["_law_model_here", "_law_cells", "_law_word", "_law_first", "_law_second", "_law_some"]) (Nc:=["_law_cell"]) (nv:=1) (caps:=[]) rfl rfl (by decide +kernel)) (d7 (K:=K) rfl (aa 1)) (λ_ _ _ _=>(bj (i:=0) (show List.Nodup (["_law_cell"]:List Str) by decide +kernel) rfl (Or.inl rfl) (Or.inr rfl))) (λ_ _ _ _=>gZ) (λ_ _ _ _=>(aW (Oq T) hr (ad (aa 0) ae)))))) aG)
  (ah (aF (i:=5) kg.nd rfl (.inr rfl) (cw (U5 K) T.n_list VL (ad (aa 3) ae)))
  (ah (aD (aw (bh (K:=K) rfl hu) (aa 2) bc (av _)) (ai (aF (i:=5) kg.nd rfl (.inr rfl) (aE (U0 K) (aa 3) (hJ rfl (dG.of (fns:=(am iJ).names) (N:=["_law_model_here", "_law_cells", "_law_word", "_law_first", "_law_second", "_law_some"]) (Nc:=["_law_sign", "_law_first"]) (nv:=1) (caps:=[3]) rfl rfl (by decide +kernel)) (d7 (K:=K) rfl (aa 4)) (λ_ _ _ _=>(bj (i:=0) (show List.Nodup (["_law_sign", "_law_first"]:List Str) by decide +kernel) rfl (Or.inl rfl) (Or.inr rfl))) (λ_ _ _ _=>(Bt (aw (uQ (K:=K) rfl) (aa 0) (aa 1) (by with_unfolding_all rfl)))) (λ_ _ _ _=>(aa 0)))))) aG)
  (ah (aD (aw (bh (K:=K) rfl hu) (aa 5) (aM ae) (av _)) (ai (aq (aM ae))) aG)
  (ai (aq (hJ rfl (dG.of (fns:=(am iJ).names) (N:=["_law_model_here", "_law_cells", "_law_word", "_law_first", "_law_second", "_law_some"]) (Nc:=["_law_cell", "_law_some"]) (nv:=1) (caps:=[5]) rfl rfl (by decide +kernel)) (d7 (K:=K) rfl (aa 1)) (λ_ _ _ _=>(bj (i:=0) (show List.Nodup (["_law_cell", "_law_some"]:List Str) by decide +kernel) rfl (Or.inl rfl) (Or.inr rfl))) (λ_ _ _ _=>gZ) (λ_ _ _ _=>(ay (U3 K) (aa 1) (aE oo (aa 0) (bf (U2 K) T.n_len Ve (ad (aa 1) ae))) (λ_ _=>rfl))))))))))),?_⟩
 refine⟨p,_,Z,.of hp,Z,_,_,Z,_,_,Z,_,_,Z,Z,?_⟩;refine⟨sz Z,λp1 H1 L=>?_⟩;refine gR (.inr L.tup) Z Z ?_;have I:=L.sm.seq hc;refine ak (λz=>?_) (λz=>?_)
 ·have z:bG (.str (cy M)) [.str "lead",.str "high",.str "low"]=true:=z;rw[CK]at z;refine dX c rfl ⟨_,I⟩ (oX (K:=K) (a:=c) (xs:=cs.map V.int) (λi ys j=>aj H1 j/\∃d:e7,ys=d.map V.int/\d.length=i/\∀n∈d,Sg n) ⟨aj.refl _,[],rfl,rfl,(λn h=>nomatch h)⟩ (λi ys j _ z=>⟨z.1.seq I,by obtain⟨_,d,rfl,l,_⟩:=z;rw[U9];lia⟩) (cQ (by rw[U9];lia)) (λi x ys j N hx y hN=>?_) λys j q B y g=>?_)
  ·obtain⟨o,d,rfl,l,hs⟩:=y;obtain⟨m,U,rfl⟩:=eX hx;simp only [gW,if_true];refine gS m rfl (λn H2 F r=>hN _ _ ⟨o.trans F,d++[n],by rw[Vj];rfl,by rw[Vc,l];rfl,λJ s=>?_⟩);rcases Vm.mp s with y|y
   ·exact hs J y
   ·rw[Vp.mp y];exact r
  ·obtain⟨o,d,rfl,l,hs⟩:=y;rw[U9]at l;exact k q d B (L.sm.trans (o.trans g.sm)) g.at_ (by lia) (.inr l) λD m n r=>Nn z m (hs n r)
 have z:¬bG (.str (cy M)) [.str "lead",.str "high",.str "low"]=true:=z;rw[CK,W5]at z;refine aS (.inl (.of (L.sm _ _ Y))) (λp2 H2 g2=>?_);have F:=L.sm.trans g2.sm;dsimp only [bU];refine bO (λσ' j=>aj H j/\∃(ps:Addr) (ss:e7),j ps=some (.lst (ss.map V.int))/\ss.length<=500/\(∀D,Mt M D->∀n∈ss,dM D n)/\σ'=[some (.ref p),some (.ref c),some (.str (cy M)),some (.ref a),some (.ref b),some (.ref ps)]) (λnx r=>?_) ?_
 ·refine xS (aP (ua M)) (aP dU) ?_;refine ak (λy=>?_) (λy=>?_)
  ·have y:PyData.eqv (.str (cy M)) (.str "shift")=true:=y;obtain⟨ns,ms,eM⟩:∃ns ms,M=.sh ns ms:=by
    cases M with
    | sh ns ms=>exact⟨ns,ms,rfl⟩
    | _=>rw[B5 (λ_ _ h=>by cases h)]at y;cases y
   obtain⟨rfl,rfl,rfl⟩:=sh ns ms eM;have O:aH K H2 b (zs.map V.int):=.of (F _ _ hb);refine dX b rfl ⟨_,O⟩ (oX (K:=K) (a:=b) (xs:=zs.map V.int) (λi ys j=>aj H2 j/\∃d:e7,ys=d.map V.int/\d.length<=i/\∀n∈d,n∈zs) ⟨aj.refl _,[],rfl,Va _,(λn h=>nomatch h)⟩ (λi ys j _ z=>⟨z.1.seq O,by obtain⟨_,d,rfl,l,_⟩:=z;rw[U9];lia⟩) (cQ (by rw[U9];lia)) (λi x ys j N hx y hN=>?_) λys j q B y g=>?_)
   ·obtain⟨o,d,rfl,l,hs⟩:=y;obtain⟨m,U,rfl⟩:=eX hx;refine gR (.inl (.of (o _ _ (F _ _ Y)))) Z (ji _) ?_;refine ak (λ_=>?_) (λ_=>?_)
    ·refine hN _ _ ⟨o,d++[m],by rw[Vj];rfl,by rw[Vc];show _+1<=_;lia,λJ s=>?_⟩;rcases Vm.mp s with y|y
     ·exact hs J y
     ·rw[Vp.mp y];exact Vo U
    ·exact hN _ _ ⟨o,d,rfl,by lia,hs⟩
   ·obtain⟨o,d,rfl,l,hs⟩:=y;rw[U9]at l;have G:=F.trans (o.trans g.sm);refine gf (.of (G _ _ Y)) g.lst (cQ (by rw[U9,U9];lia)) (λp4 H4 C=>?_);refine r _ _ ⟨G.trans C.sm,p4,xs++d,by rw[Vj];exact C.at_,by rw[Vc];lia,λD mt n r=>?_,rfl⟩;rw[eM]at mt;obtain⟨f,rfl⟩:=mt;rcases Vm.mp r with y|y
    ·exact .inl y
    ·exact .inr (hs n y)
  ·exact r _ _ ⟨F,p2,xs,g2.at_,by lia,ld z,rfl⟩
 ·rintro σ' H3 ⟨G,ps,ss,W,ao,S,rfl⟩;refine⟨sz Z,λp4 H4 C=>?_⟩;have u:=C.sm _ _ W;refine mS (ns:=ss) (ms:=[]) (.of u) C.lst ?_;refine ak (λy=>?_) (λy=>?_)
  ·exact⟨sz rfl,λp5 H5 g5=>k p5 [] H5 (G.trans (C.sm.trans g5.sm)) g5.at_ (by decide) (.inl rfl) (λ_ _ _ h=>nomatch h)⟩
  ·have y:¬ss=[]:=λe=>y (Yc e);have pos:0<ss.length:=by cases ss with|nil=>exact Ya rfl y|cons _ _=>exact Nat.succ_pos _
   have R:=(G.trans C.sm).seq hc;refine dX c rfl ⟨_,R⟩ (oX (K:=K) (a:=c) (xs:=cs.map V.int) (λi ys j=>aj H4 j/\∃d:e7,ys=d.map V.int/\d.length=i/\∀n∈d,n∈ss) ⟨aj.refl _,[],rfl,rfl,(λn h=>nomatch h)⟩ (λi ys j _ z=>⟨z.1.seq R,by obtain⟨_,d,rfl,l,_⟩:=z;rw[U9];lia⟩) (cQ (by rw[U9];lia)) (λi x ys j N hx y hN=>?_) λys j q B y g=>?_)
   ·obtain⟨o,d,rfl,l,hs⟩:=y;obtain⟨m,U,rfl⟩:=eX hx;simp only [gW,if_true];refine aS (.inl (.of (o _ _ u))) ?_;rw[U9];refine⟨by lia,?_⟩;obtain⟨v,hv,e1,_⟩:=sB (xs:=ss.map V.int) (i:=m%(ss.length:Int)) (Int.emod_nonneg _ (by lia)) (by rw[U9];exact Int.emod_lt_of_pos _ (by lia));obtain⟨n,r,rfl⟩:=VC.mp hv;refine bi (.inl (.of (o _ _ u))) e1 ?_;refine hN _ _ ⟨o,d++[n],by rw[Vj];rfl,by rw[Vc,l];rfl,λJ s=>?_⟩;rcases Vm.mp s with y|y
    ·exact hs J y
    ·rw[Vp.mp y];exact r
   ·obtain⟨o,d,rfl,l,hs⟩:=y;rw[U9]at l;exact k q d B (G.trans (C.sm.trans (o.trans g.sm))) g.at_ (by lia) (.inr l) λD m n r=>S D m n (hs n r)
def Hl(K:PySem.W.Frag)(t:Adr):Sp:=λvs H Q _=>∃(p c:Addr) (M:Md) (cs:e7),vs=[.ref p,.ref c]/\Mod H p M/\aH K H c (cs.map V.int)/\cs.length<=62/\(∃D,Mt M D/\cV D)/\∀q (r:e7) H',aj H H'->H' q=some (.lst (r.map V.int))->bp r->r.length<=400->Q (.ref q) H'
def DN:∀b∈([0,65,127,128,143,144,159,160,187,188,191,192,193,194,216,219,220,223,224,237,238,239,240,244,245,253,254,255]:e7),0<=b/\b<=255:=by decide
def RX{xs ys:e7}(h:bp xs)(g:bp ys):bp (xs++ys):=λx hx=>(Vm.mp hx).elim (h x) (g x)
def G3{D:Kt}{g n:Int}(ok:cV D)(pg:bZ D g)(a:dM D n):bp (bI D g n).1:=by
 cases D with
 | ld =>
  obtain⟨l,s,o,q⟩:=id a;intro b hb;have hb:b∈row n:=hb;unfold row at hb
  split at hb
  ·simp at hb;lia
  ·split at hb
   ·simp at hb;lia
   ·split at hb<;>simp at hb<;>lia
 | pr h=>exact KE h a
 | sh f ns ms =>
  obtain⟨r,g',e,_,k⟩:=tK pg a;rw[tI e];have two:cP g:=pg;have l1:∀c:Int,0<=c->∀xs:e7,xs.length<=250->xs[c.toNat]? = some n->0<=c/\c<=255:=λc d xs m e=>by
   have:=(Vh.mp e).1;lia
  have p:=ok.1.2.2;have u:=ok.2.2.2;have s1:(ao g ns ms).length<=250/\(ao g ms ns).length<=250:=by rcases two with rfl|rfl<;>exact⟨by assumption,by assumption⟩
  rcases k with ⟨b,rfl,b0,eb,_⟩|⟨c,rfl,d,ec,_⟩
  ·intro x hx;rw[Vp.mp hx];exact l1 b b0 _ s1.1 eb
  ·have:=l1 c d _ s1.2 ec;intro x hx;rcases Vr.mp hx with rfl|hx
   ·rcases two with rfl|rfl<;>decide
   ·rw[Vp.mp hx];exact this
 | tb f es =>
  obtain⟨e,i,_,j⟩:=mQ a;have es':bI (.tb f es) g n=(e.2,g):=by
   show (Option.map _ _).getD _=_;rw[j];rfl
  rw[es'];exact (Es.sg ok e i).2.2.2
 | br=>exact a.elim
def Od (T:Txt w K mg t):bC P w K mg base "_law_row" 4 t.yb t.vt ["_law_model_here", "_law_cells"] (Hl K t):=by
 refine⟨T.Pe,T.EK.kp,T.R9,T.EK.okQ fO (λvs H Q E h=>by obtain⟨p,c,M,cs,rfl,_⟩:=h;rfl) λ_ _ _ _ H vs Q E hr h=>?_⟩;obtain⟨p,c,M,cs,rfl,mod,hc,lc,⟨D,mt,ok⟩,k⟩:=h;have hu:=hr.units;refine⟨_,(ah (aF (i:=2) fO.nd Z (.inl Z) (aM (hU Z)))
  (ah (aF (i:=2) fO.nd rfl (.inl rfl) (aE (U0 K) (aa 2) (aM (hU rfl))))
  (ah (aF (i:=3) fO.nd rfl (.inl rfl) (aW (Ob T) hr (ad (aa 0) (ad (aa 1) ae))))
  (ah (aF (i:=4) fO.nd rfl (.inl rfl) (aM ae))
  (ah (aF (i:=5) fO.nd rfl (.inl rfl) ag)
  (ah (dy PassesOwn.never rfl (nI (K:=K) rfl rfl T.n_enumerate (ad (aa 1) ae)) (eU (K:=K) rfl rfl (bP (bj (i:=6) fO.nd rfl (.inl rfl)) (bP (bj (i:=7) fO.nd rfl (.inl rfl)) eT))) (ah (aF (i:=8) fO.nd rfl (.inl rfl) (bB (ce (aa 7))))
  (ai (aD (bY (fu (aw (fY (K:=K) rfl hu) (aa 3) (aM ae) (av _)) (fQ (aw cZ (aa 8) ag (av _))))) (ah (jN (aW (CZ T) hr (ad (aa 0) (ad (ay (U3 K) (aa 3) (aa 6) (λ_ _=>rfl)) (ad (aa 5) ae)))) (eU (K:=K) rfl rfl (bP (bj (i:=9) fO.nd rfl (.inl rfl)) (bP (bj (i:=10) fO.nd rfl (.inl rfl)) eT))))
  (ah (aD (aw (bh (K:=K) rfl hu) (aa 8) ag (av _)) (ai (aF (i:=9) fO.nd rfl (.inl rfl) (fw (U4 K) (aa 9) hG (dO (aE oo (ce (aa 7)) (bf (U2 K) T.n_len Ve (ad (aa 9) ae))))))) (ai (aF (i:=5) fO.nd rfl (.inl rfl) (aa 10))))
  (ai (aF (i:=4) fO.nd rfl (.inl rfl) (aE (U0 K) (aa 4) (aa 9)))))) (ai (aD (aw (bh (K:=K) rfl hu) (aa 8) ag (av _)) (ai (cY (dP (K:=K) rfl VD VO VP fX (aa 4) (ad (bB (ce (aa 7))) ae)))) (ai (cY (dP (K:=K) rfl VD VO VP fX (aa 4) (ad (ay (U3 K) (aa 2) (bB (ce (aa 7))) (λ_ _=>rfl)) ae))))))))))
  (ai (aq (aa 4))))))))),?_⟩
 refine⟨sz Z,λp1 H1 g1=>?_⟩;refine⟨sz Z,λp2 H2 F=>?_⟩;refine gf (.of (F.sm _ _ g1.at_)) F.lst (sz Z) (λpe H3 g3=>?_);have N:=g1.sm.trans (F.sm.trans g3.sm);refine⟨p,c,M,cs,rfl,mod.mono N,N.seq hc,by lia,λq ts H4 C hq lt le ht=>?_⟩;refine⟨sz Z,λp5 H5 U=>?_⟩;have s5:=N.trans (C.trans U.sm);have he:=(C.trans U.sm) _ _ g3.at_;have ba:=U.sm _ _ hq;refine aU c _ rfl (s5.seq hc) (oy (K:=K) (a:=c) (xs:=cs.map V.int) (λi σ W=>aj H4 W/\∃(r:Addr) (xs:e7) (g:Int) (v6 v7 v8 v9 l:Option V),H4 r=none/\W r=some (.lst (xs.map V.int))/\bp xs/\xs.length<=6*i/\bZ D g/\σ=[some (.ref p),some (.ref c),some (.ref pe),some (.ref q),some (.ref r),some (.int g),v6,v7,v8,v9,l]) ⟨U.sm,p5,[],0,_,_,_,_,_,U.nw,U.at_,(λx h=>nomatch h),Va _,mC D,rfl⟩ (λi σ W _ z=>((N.trans C).trans z.1).seq hc) ?_ ?_)
 ·rintro i x p6 σ H6 H7 hx ⟨s6,r,xs,g,v6,v7,v8,v9,l,u,R,L,lx,pg,rfl⟩ g7;obtain⟨n,hn,rfl⟩:=eX hx;have hi:i<cs.length:=(Vh.mp hn).1;refine⟨p6,_,Z,g7.tup,Z,_,_,Z,_,_,Z,Z,?_⟩;have s7:=s6.trans g7.sm;have aY:=(N.trans C).trans s7;have J:=g7.sm _ _ R;have ao:=s7 _ _ hq;refine⟨sz Z,λp8 H8 G=>?_⟩;refine mS (ns:=ts) (ms:=[]) (.of (G.sm _ _ ao)) G.lst ?_;refine ak (λz=>?_) (λz=>?_)
  ·refine ak (λy=>?_) (λy=>?_)
   ·have z:¬ts=[]:=λe=>by have z:(!decide (ts=[]))=true:=z;rw[Yc e]at z;cases z
    have b3:=le.resolve_left z;have f:=s7.trans G.sm;obtain⟨m,hm⟩:∃m,ts[i]? = some m:=⟨_,VG (by lia)⟩;have hI:=ht D mt m (Vo hm);refine⟨_,.int m,.inl (.of (f _ _ hq)),aA (j:=i) (by rw[Vf,hm];rfl),?_⟩;refine cq p M D m g Z (mod.mono ((N.trans C).trans f)) mt hI pg (λpr q1 H9 s9 b0 s O=>?_);refine⟨pr,_,Z,.of O,Z,_,_,Z,_,_,Z,Z,?_⟩;obtain⟨r1,g',eO,ef,a7,sl⟩:=G2 ok.kok pg hI;have B:=G3 ok pg hI;have a2:=G1 ok.kok pg hI;rw[ef]at s O B a2;dsimp only at s O B a2;rw[ef];dsimp only [bU];refine bO (λσ' W=>∃(Y:Addr) (x2:e7) (F:Int) (l:Option V),aj H9 W/\W Y=some (.lst (x2.map V.int))/\bp x2/\x2.length<=6/\bZ D F/\σ'=[some (.ref p),some (.ref c),some (.ref pe),some (.ref q),some (.ref r),some (.int F),some (.int (i:Int)),some (.int n),some (.int (n/8%5)),some (.ref Y),l]) (λnx hn=>?_) ?_
    ·refine ak (λ_=>?_) (λ_=>?_)
     ·refine aS (.inl (.of s)) ?_;rw[U9];refine⟨by lia,?_⟩;refine⟨_,Z,_,.of s,λY au S=>?_⟩;rw[gL]at S;exact hn _ _ ⟨Y,_,g,_,S.sm,S.at_,(λx hx=>B x (Q9 hx)),Vs (Rb _ _ _) sl,pg,Z⟩
     ·exact hn _ _ ⟨q1,r1,g',_,aj.refl _,s,B,sl,a7,Z⟩
    ·rintro σ' au ⟨Y,x2,F,aJ,aH,af,ax,l2,am,rfl⟩;have o:=s9.trans aH;refine gf (.of (o _ _ (G.sm _ _ J))) (.of af) (cQ (by rw[U9,U9];lia)) (λq3 b2 I=>?_);have hg:=I.at_;rw[<- Vj]at hg;exact⟨(f.trans o).trans I.sm,q3,xs++x2,F,_,_,_,_,_,(f.trans o).free I.nw,hg,RX L ax,by rw[Vc];lia,am,rfl⟩
   ·have f:=s7.trans G.sm;have d:=G.sm _ _ J;refine ak (λ_=>?_) (λ_=>?_)
    ·refine⟨.inl ⟨rfl,_,.of d⟩,?_⟩;refine cM d (dq (by rw[U9];lia)) ?_;exact⟨f.put u,r,xs++[n/40%256],g,_,_,_,_,_,u,by rw[aX,Vj];rfl,ib L (by lia) (by lia),by rw[Vc];show _+1<=_;lia,pg,rfl⟩
    ·refine⟨.inl ⟨rfl,_,.of d⟩,?_⟩;obtain⟨v,hv,e1,_⟩:=sB (xs:=(([0,65,127,128,143,144,159,160,187,188,191,192,193,194,216,219,220,223,224,237,238,239,240,244,245,253,254,255]:e7).map V.int)) (i:=n/40%28) (by lia) (by simp;lia);obtain⟨b,hb,rfl⟩:=VC.mp hv;have hb:=DN b hb;refine bi (.inl (.of ((C.trans f) _ _ g3.at_))) e1 ?_;refine cM d (dq (by rw[U9];lia)) ?_;exact⟨f.put u,r,xs++[b],g,_,_,_,_,_,u,by rw[aX,Vj];rfl,ib L hb.1 hb.2,by rw[Vc];show _+1<=_;lia,pg,rfl⟩
  ·refine CF ?_;have f:=s7.trans G.sm;have d:=G.sm _ _ J;refine ak (λ_=>?_) (λ_=>?_)
   ·refine⟨.inl ⟨rfl,_,.of d⟩,?_⟩;refine cM d (dq (by rw[U9];lia)) ?_;exact⟨f.put u,r,xs++[n/40%256],g,_,_,_,_,_,u,by rw[aX,Vj];rfl,ib L (by lia) (by lia),by rw[Vc];show _+1<=_;lia,pg,rfl⟩
   ·refine⟨.inl ⟨rfl,_,.of d⟩,?_⟩;obtain⟨v,hv,e1,_⟩:=sB (xs:=(([0,65,127,128,143,144,159,160,187,188,191,192,193,194,216,219,220,223,224,237,238,239,240,244,245,253,254,255]:e7).map V.int)) (i:=n/40%28) (by lia) (by simp;lia);obtain⟨b,hb,rfl⟩:=VC.mp hv;have hb:=DN b hb;refine bi (.inl (.of ((C.trans f) _ _ g3.at_))) e1 ?_;refine cM d (dq (by rw[U9];lia)) ?_;exact⟨f.put u,r,xs++[b],g,_,_,_,_,_,u,by rw[aX,Vj];rfl,ib L hb.1 hb.2,by rw[Vc];show _+1<=_;lia,pg,rfl⟩
 ·rintro σ H6 ⟨s6,r,xs,g,v6,v7,v8,v9,l,u,R,L,lx,pg,rfl⟩;exact k r xs H6 ((N.trans C).trans s6) R L (by rw[U9]at lx;lia)
def dF(D:Kt)(g:Int)(r:e7):Prop:=∀m,0<m->m*ap D<=r.length->aY D g (r.take (m*ap D))=.mo
def jy(D:Kt):1<=ap D/\ap D<=2:=by cases D<;>simp[ap]
def dF.nil(D:Kt)(g:Int):dF D g []:=λm a h=>by
 have:=jy D;have:1<=m*ap D:=Nat.mul_pos a (by lia);rw[WW]at h;lia
def dF.take{D:Kt}{g:Int}{r:e7}(h:dF D g r)(n:Nat):dF D g (r.take n):=λm a b=>by
 rw[Vk]at b;rw[Xq,VV (by lia)];exact h m a (by lia)
def TK(D:Kt)(g:Int)(k:Str)(bs nx:e7):Prop :=
 (k = "strange"/\bs.length=ap D/\aY D g bs=.no)\/(k = "broken"/\bs.length%ap D=0/\dF D g bs/\ap D<=nx.length/\aY D g (bs++nx.take (ap D))=.no)\/(k = "short"/\nx=[]/\dF D g bs)
inductive pL (D:Kt):Int->Nat->e7->List Ev->Prop where
 | nil (g:Int) (p:Nat):pL D g p [] []
 | sg {g:Int} {p:Nat} {n:Int} {bs:e7} {es:List Ev} (h:dM D n) (pg:bZ D g) (k:pL D (bI D g n).2 (p+(bI D g n).1.length) bs es):pL D g p ((bI D g n).1++bs) (.sg n::es)
 | ft {g:Int} {p:Nat} {kd:Str} {xs bs:e7} {es:List Ev} (h:TK D g kd xs bs) (b:bp xs) (l:1<=xs.length) (pg:bZ D g) (k:pL D g (p+xs.length) bs es):pL D g p (xs++bs) (.ft p xs.length kd xs::es)
noncomputable def dC(D:Kt)(g:Int)(r:e7)(c:Nat)(bs:e7):List Ev:=(run D g r c bs).2.2++jk (c+bs.length) (run D g r c bs).2.1
def QJ(D:Kt)(g:Int)(r:e7)(c:Nat)(b:Int)(bs:e7):dC D g r c (b::bs)=(bD D g r (c+1) b).2.2++dC D (bD D g r (c+1) b).1 (bD D g r (c+1) b).2.1 (c+1) bs:=by
 unfold dC;simp only [run];rw[VF,Vt,show c+(bs.length+1)=c+1+bs.length by lia]
def Cr{D:Kt}{g:Int}{r:e7}{b:Int}(h:dF D g r)(e:(r++[b]).length%ap D=0)(mo:aY D g (r++[b])=.mo):dF D g (r++[b]):=λm d a=>by
 by_cases c:m*ap D<=r.length
 ·rw[WQ c];exact h m d c
 ·rw[Vc]at a;rw[VW (by rw[Vc];simp at a ⊢;lia)];exact mo
def cG:Lk->Str
 | .sg _ _ => "sign"
 | .mo => "more"
 | .no => "none"
def zT:Md->Int
 | .pr _=>2
 | _=>1
def CH:Md->Bool
 | .pr _=>true
 | _=>false
def NN (M:Md):bG (.str (cy M)) [.str "high",.str "low"]=CH M:=by
 cases M with
 | ld=>exact show bG (.str "lead") [.str "high",.str "low"]=false by decide +kernel
 | pr h=>cases h with
  | true=>exact show bG (.str "high") [.str "high",.str "low"]=true by decide +kernel
  | false=>exact show bG (.str "low") [.str "high",.str "low"]=true by decide +kernel
 | sh ns ms=>exact show bG (.str "shift") [.str "high",.str "low"]=false by decide +kernel
 | tb es=>exact show bG (.str "table") [.str "high",.str "low"]=false by decide +kernel
 | br=>exact show bG (.str "bare") [.str "high",.str "low"]=false by decide +kernel
def CY (T:Txt w K mg t):bC P w K mg base "_law_unit" 1 t.x5 t.vk ["_law_model_here"] (λvs H Q _=>∃(p:Addr) (M:Md),vs=[.ref p]/\Mod H p M/\∀H',aj H H'->Q (.int (zT M)) H'):=by
 refine⟨T.O9,T.EF.kp,T.R4,T.EF.okQ Iz (λvs H Q E h=>by obtain⟨p,M,rfl,_⟩:=h;rfl) λ_ _ _ _ H vs Q E i h=>?_⟩;obtain⟨p,M,rfl,⟨a,b,g,_⟩,k⟩:=h;refine⟨_,(ai (aq (aE (U0 K) ag (cw gN T.n_int VN (ad (da (jR (K:=K) rfl) (ay (U3 K) (aa 0) ag (λ_ _=>rfl)) (bR (ad bc (ad bc ae))) (by with_unfolding_all rfl)) ae))))),?_⟩;refine aU _ (.str (cy M)) (.inr (.of g)) (aA (j:=0) Z) ?_;refine⟨sz Z,λl c d=>?_⟩;refine gR (.inr d.tup) Z Z ?_;have e:(V.bl (if false=true then !bG (V.str (cy M)) [.str "high",.str "low"] else bG (V.str (cy M)) [.str "high",.str "low"]))=V.bl (CH M):=by rw[X8 Vn,NN]
 show (λx c=>uX [x] c λy f=>ve K (V.int 1) y f Q) (V.bl (if false=true then !bG (V.str (cy M)) [.str "high",.str "low"] else bG (V.str (cy M)) [.str "high",.str "low"])) c;rw[e];cases M<;>exact k c d.sm
open Classical in
noncomputable def qK(f:Int)(r:e7):Str:=if f<128 then "sign" else if f<194\/244<f then "none" else if jt f r then (if (r.length:Int)+1=lb f then "sign" else "more") else "none"
def Nm{f:Int}{r:e7}{g:Int}(d:r=[]\/(r.length:Int)+1<=lb f):qK f r=cG (aY .ld g (f::r)):=by
 unfold qK;dsimp only [aY];by_cases c1:f<128
 ·rw[X9 c1];have l1:lb f=1:=by unfold lb;rw[X9 c1]
  have a:r=[]:=by
   rcases d with d|d
   ·exact d
   ·rw[l1]at d;exact WJ (by lia)
  subst a;have ft:jt f []:=λi x h=>by cases h
  rw[X9 (show gy [f] from ⟨⟨by rw[l1];exact Int.le_refl _,ft⟩,by rw[l1];rfl⟩)]
  rfl
 rw[X8 c1];by_cases c2:f<194\/244<f
 ·rw[X9 c2];have l0:lb f=0:=by unfold lb;rw[X8 c1,X9 c2]
  rw[X8 (λz:gy (f::r)=>by have:=z.1.1;rw[l0]at this;lia),X8 (λz:m6 (f::r)=>by have:=z.1;rw[l0]at this;lia)]
  rfl
 rw[X8 c2];have b:2<=lb f:=by unfold lb;rw[X8 c1,X8 c2];split<;>(try split)<;>lia
 have le:(r.length:Int)+1<=lb f:=by
  rcases d with rfl|d
  ·show (0:Int)+1<=_;lia
  ·exact d
 by_cases c3:jt f r
 ·rw[X9 c3];by_cases c4:(r.length:Int)+1=lb f
  ·rw[X9 c4,X9 (show gy (f::r) from ⟨⟨le,c3⟩,c4⟩)];rfl
  ·rw[X8 c4,X8 (λz:gy (f::r)=>c4 z.2),X9 (show m6 (f::r) from ⟨le,c3⟩)];rfl
 ·rw[X8 c3,X8 (λz:gy (f::r)=>c3 z.1.2),X8 (λz:m6 (f::r)=>c3 z.2)];rfl
end
end My
namespace My
open PySem L2
def AT{f:Fp}{ns ms:e7}{g:Int}{r:e7}:(iN (ao g ns ms) (ao g ms ns) g r).head? = some (.str (cG (aY (.sh f ns ms) g r))):=by
 unfold iN;dsimp only [aY];cases dY (ao g ns ms) (ao g ms ns) g r with
 | some z=>rfl
 | none =>
  dsimp only;by_cases c:gK (ao g ns ms) (ao g ms ns) g r=true
  ·rw[X9 c,X9 c];rfl
  ·rw[X8 c,X8 c];rfl
def j8{a b:Str}(h:some (V.str a)=some (V.str b)):a=b:=by cases h;rfl
def En{O P:e7}:fJ O P≠[] ↔ ∃k∈O,k∉P:=by
 constructor
 ·intro h;cases e:fJ O P with
  | nil=>exact Ya e h
  | cons c r =>
   have a:c∈fJ O P:=by rw[e];exact Vz ..
   have j:0<=c:=by
    unfold fJ at a;obtain⟨b,_,rfl⟩:=VC.mp a;lia
   obtain⟨n,g,d⟩:=(mH j).mp a;exact⟨n,Vo g,d⟩
 ·rintro⟨k,hk,d⟩ e;obtain⟨i,f⟩:=WR.mp hk;have:(i:Int)∈fJ O P:=(mH (by lia)).mpr ⟨k,by simpa using f,d⟩;rw[e]at this;cases this
def Io {f:Fp} {ns ms:e7} {g b:Int} (two:cP g) (l:(ao g ns ms).length<=250) (c:0<=b):(b=255-g->(∃k∈ao g ms ns,k∉ao g ns ms)->cG (aY (.sh f ns ms) g [b]) = "more")/\(b=255-g->¬(∃k∈ao g ms ns,k∉ao g ns ms)->cG (aY (.sh f ns ms) g [b]) = "none")/\(b≠255-g->b<((ao g ns ms).length:Int)->cG (aY (.sh f ns ms) g [b]) = "sign")/\(b≠255-g->¬b<((ao g ns ms).length:Int)->cG (aY (.sh f ns ms) g [b]) = "none"):=by
 have w:=AT (f:=f) (ns:=ns) (ms:=ms) (g:=g) (r:=[b]);rw[Cn c]at w;have a:0<=g/\g<=1:=by rcases two with rfl|rfl<;>decide
 refine⟨λe h=>?_,λe h=>?_,λe h=>?_,λe h=>?_⟩
 ·rw[WM (by lia)]at w;dsimp only at w;rw[X9 ⟨by lia,En.mpr h⟩]at w;exact (j8 w).symm
 ·rw[WM (by lia)]at w;dsimp only at w;rw[X8 λz=>h (En.mp z.2)]at w;exact (j8 w).symm
 ·rw[VG (by lia)]at w;exact (j8 w).symm
 ·rw[WM (by lia)]at w;dsimp only at w;rw[X8 λz=>e (by lia)]at w;exact (j8 w).symm
def Im {f:Fp} {ns ms:e7} {g c:Int} (a:0<=c):((∃n,(ao g ms ns)[c.toNat]? = some n/\n∉ao g ns ms)->cG (aY (.sh f ns ms) g [254+(1-g),c]) = "sign")/\(¬(∃n,(ao g ms ns)[c.toNat]? = some n/\n∉ao g ns ms)->cG (aY (.sh f ns ms) g [254+(1-g),c]) = "none"):=by
 have w:=AT (f:=f) (ns:=ns) (ms:=ms) (g:=g) (r:=[254+(1-g),c]);rw[Cm a]at w;refine⟨λh=>?_,λh=>?_⟩
 ·rw[X9 ((mH a).mpr h)]at w;exact (j8 w).symm
 ·rw[X8 λz=>h ((mH a).mp z)]at w;exact (j8 w).symm
def GS {f:Ft} {es:List (Int × e7)} {g:Int} {r:e7}:((∃e∈es,e.2=r)->cG (aY (.tb f es) g r) = "sign")/\(¬(∃e∈es,e.2=r)->(∃e∈es,e.2.take r.length=r)->cG (aY (.tb f es) g r) = "more")/\(¬(∃e∈es,e.2=r)->¬(∃e∈es,e.2.take r.length=r)->cG (aY (.tb f es) g r) = "none"):=by
 dsimp only [aY];cases e:es.find? λe=>decide (e.2=r) with
 | some x =>
  have a:=Xc e;have b:x.2=r:=by simpa using WI e
  exact⟨λ_=>rfl,λh=>Ya ⟨x,a,b⟩ h,λh=>Ya ⟨x,a,b⟩ h⟩
 | none =>
  have n:¬ ∃e∈es,e.2=r:=by
   rintro⟨x,hx,rfl⟩;have:=V3.mp e x hx;simp at this
  dsimp only;refine⟨λh=>Ya h n,λ_ h=>?_,λ_ h=>?_⟩
  ·obtain⟨x,hx,c⟩:=h;rw[X9]
   ·rfl
   ·have l:=congrArg List.length c;rw[Vk]at l;exact⟨x,hx,r.length,by lia,c.symm⟩
  ·rw[X8]
   ·rfl
   ·rintro⟨x,hx,m,hm,rfl⟩;refine h ⟨x,hx,?_⟩;rw[Vk,VV hm]
def iq:e7->Str
 | [u]=>if (56320<=u/\u<57344)\/(61184<=u/\u<61440) then "none" else if u<55296\/57343<u then "sign" else "more"
 | [u,v]=>if (56320<=u/\u<57344)\/(61184<=u/\u<61440) then "none" else if u<55296\/57343<u then "sign" else if 56320<=v/\v<57344 then "sign" else "none"
 | _ => "none"
def GE(h:Bool){x y:Int}(hx:0<=x/\x<=255)(a:0<=y/\y<=255):0<=u2 h x y/\u2 h x y<65536/\ub h (u2 h x y)=[x,y]:=by
 unfold u2 ub;cases h<;>simp<;>lia
def BJ(h:Bool){x y g:Int}(hx:0<=x/\x<=255)(k:0<=y/\y<=255):cG (aY (.pr h) g [x,y])=iq [u2 h x y]/\(aY (.pr h) g [x,y]=.mo->55296<=u2 h x y/\u2 h x y<56320):=by
 obtain⟨m,n,d⟩:=GE h hx k;have f:eR h [x,y]=if eW (.int (u2 h x y))=true then some (u2 h x y) else none:=rfl
 dsimp only [aY];unfold iq;dsimp only;by_cases s:eW (.int (u2 h x y))=true
 ·rw[f,X9 s];dsimp only;have e:=(nA _).mp s;unfold Sg at e;refine⟨?_,λz=>by cases z⟩;rw[X8 (by lia),X9 (by lia)]
  rfl
 ·rw[f,X8 s];dsimp only;have e:¬Sg (u2 h x y):=λz=>s ((nA _).mpr z);unfold Sg at e;by_cases hd:55296<=u2 h x y/\u2 h x y<56320
  ·have:=N4 h hd.1 hd.2;rw[d]at this;rw[X8 this,X8 (by lia),X8 (by lia)];exact⟨rfl,λ_=>hd⟩
  ·have fn:iU h [x,y]=none:=by
    unfold iU;refine V3.mpr λj hf=>?_;rw[W5,X3,X4];have i:=DK hf
    match j,i with
    | [],_=>rw[VI,f,X8 s]
    | [a],_=>rfl
    | [a,b],_ =>
     show ik [u2 h x y,u2 h a b]=none;exact X8 λz=>hd z.1
    | [a,b,c],_=>rfl
    | _::_::_::_::_,l=>exact Ya l (by simp)
   rw[X9 fn];refine⟨?_,λz=>by cases z⟩;by_cases c:(56320<=u2 h x y/\u2 h x y<57344)\/(61184<=u2 h x y/\u2 h x y<61440)
   ·rw[X9 c];rfl
   ·lia
def KF(h:Bool){x y z v g:Int}(b:55296<=u2 h x y/\u2 h x y<56320):cG (aY (.pr h) g [x,y,z,v])=iq [u2 h x y,u2 h z v]:=by
 have a:eR h [x,y,z,v]=if (55296<=u2 h x y/\u2 h x y<56320)/\56320<=u2 h z v/\u2 h z v<=57343 then some (65536+((u2 h x y-55296)*1024+(u2 h z v-56320))) else none:=rfl
 dsimp only [aY];unfold iq;dsimp only;rw[X8 (show ¬((56320<=u2 h x y/\u2 h x y<57344)\/(61184<=u2 h x y/\u2 h x y<61440)) by lia),X8 (show ¬(u2 h x y<55296\/57343<u2 h x y) by lia)];by_cases c:56320<=u2 h z v/\u2 h z v<57344
 ·rw[X9 c,a,X9 ⟨b,by lia⟩];rfl
 ·have e:eR h [x,y,z,v]=none:=by rw[a,X8 (λd=>c (by lia))]
  rw[X8 c,e];dsimp only;rw[X9 (DL h rfl e)]
  rfl
def mW(D:Kt)(g:Int)(r:e7):Prop:=bp r/\∃p u,r=p++u/\u.length=ap D/\p.length%ap D=0/\cu D g p/\(p=[]\/aY D g p=.mo)
def QU{D:Kt}{g:Int}{p u:e7}(b:cu D g p)(hb:bp u)(l:u.length=ap D)(a:bp p):Dm D g (p++u):=by
 have one:∀ {E:Kt},cu E g p->u.length=1->Dm E g (p++u):=λb l=>by
  match u,l with
  | [x],_=>exact oU b (hb x (by simp)).1 (hb x (by simp)).2
 cases D with
 | pr h=>exact⟨a.app hb,by have:=b.2;have l:u.length=2:=l;rw[Vc];lia⟩
 | ld=>exact one b l
 | sh f ns ms=>exact one b l
 | tb f es=>exact one b l
 | br=>exact trivial
theorem Cc{D:Kt}{g:Int}{bs:e7}(ok:cV D)(pg:bZ D g)(h:dF D g bs)(hb:bp bs):∀m,m*ap D<=bs.length->cu D g (bs.take (m*ap D))
 | 0,_=>by rw[Nat.zero_mul];exact cu.nil _ _
 | m+1,hl=>by
  have i:(m+1)*ap D=m*ap D+ap D:=Nat.succ_mul ..;have ih:=Cc ok pg h hb m (by lia);have f:bs.take ((m+1)*ap D)=bs.take (m*ap D)++(bs.drop (m*ap D)).take (ap D):=by rw[i,List.take_add]
  have a:bp ((bs.drop (m*ap D)).take (ap D)):=λx hx=>hb x (Wn (Wb hx));have d:((bs.drop (m*ap D)).take (ap D)).length=ap D:=by rw[Vk,VT];lia
  have c:=QU ih a d (λx hx=>hb x (Wb hx));rw[<- f]at c;refine uk ok c ?_ ?_ (h (m+1) (by lia) hl)
  ·rw[Vk,VV hl,Nat.mul_mod_left]
  ·cases D with
   | pr b =>
    refine .inl ?_;have:=ih.2;have u:m*ap (.pr b)=m*2:=rfl;have e:(m+1)*ap (.pr b)=(m+1)*2:=rfl;rw[Vk,VV (by lia),u]at this;rw[Vk,VV hl,e];lia
   | _=>exact .inr λ_ z=>by cases z
def B3{D:Kt}{g:Int}{p u:e7}(ok:cV D)(pg:bZ D g)(h:dF D g p)(hb:bp p)(a:p.length%ap D=0)(d:u.length=ap D)(f:bp u):mW D g (p++u):=by
 have e:p.length/ap D*ap D=p.length:=Nat.div_mul_cancel (Nat.dvd_of_mod_eq_zero a);have b:=Cc ok pg h hb (p.length/ap D) (by lia);rw[e,Vw]at b;refine⟨hb.app f,p,u,Z,d,a,b,?_⟩;by_cases z:p=[]
 ·exact .inl z
 ·have i:0<p.length:=Xy.mpr z;have:=h (p.length/ap D) (Nat.pos_of_ne_zero λc=>by rw[c,Nat.zero_mul]at e;lia) (by lia);rw[e,Vw]at this;exact .inr this
def L3{g f:Int}{r:e7}(h:mW .ld g (f::r)):r=[]\/(r.length:Int)+1<=lb f:=by
 obtain⟨_,p,u,e,b,_,_,a⟩:=h;have b:u.length=1:=b;cases p with
 | nil =>
  rw[Xm]at e;rw[<- e,Vt]at b;exact .inl (WJ (by lia))
 | cons f' p =>
  obtain⟨rfl,c⟩:f=f'/\r=p++u:=by cases e;exact⟨rfl,rfl⟩
  rcases a with a|a
  ·cases a
  dsimp only [aY]at a
  split at a
  ·cases a
  rename_i nw
  split at a
  ·rename_i bg;have bg:jw f p:=bg;have nw:¬(jw f p/\(p.length:Int)+1=lb f):=nw;have:¬(p.length:Int)+1=lb f:=λz=>nw ⟨bg,z⟩;have:=bg.1;refine .inr ?_;rw[c,Vc,b];lia
  ·cases a
def LZ{h:Bool}{g:Int}{r:e7}(n:mW (.pr h) g r):(∃x y,r=[x,y]/\(0<=x/\x<=255)/\0<=y/\y<=255)\/∃x y z v,r=[x,y,z,v]/\((0<=x/\x<=255)/\0<=y/\y<=255)/\((0<=z/\z<=255)/\0<=v/\v<=255)/\55296<=u2 h x y/\u2 h x y<56320:=by
 obtain⟨hb,p,u,rfl,c,b,bg,a⟩:=n;have c:u.length=2:=c;have b:p.length%2=0:=b;have e:=bg.2
 match u,c with
 | [z,v],_ =>
  match p,b,e with
  | [],_,_=>exact .inl ⟨z,v,rfl,hb z (by simp),hb v (by simp)⟩
  | [x,y],_,_ =>
   refine .inr ⟨x,y,z,v,rfl,⟨hb x (by simp),hb y (by simp)⟩,⟨hb z (by simp),hb v (by simp)⟩,?_⟩;rcases a with a|a
   ·cases a
   ·exact (BJ h (g:=g) (hb x (by simp)) (hb y (by simp))).2 a
  | [_],d,_=>exact Ya d (by simp)
  | [_,_,_],d,_=>exact Ya d (by simp)
  | _::_::_::_::_,_,l=>exact Ya l (by simp)
def LY{f:Fp}{ns ms:e7}{g:Int}{r:e7}(n:mW (.sh f ns ms) g r):(∃b,r=[b]/\0<=b)\/∃c,r=[254+(1-g),c]/\0<=c:=by
 obtain⟨hb,p,u,rfl,a,d,bg,e⟩:=n;have a:u.length=1:=a
 match u,a with
 | [b],_ =>
  rcases bg with rfl|rfl
  ·exact .inl ⟨b,rfl,(hb b (by simp)).1⟩
  ·exact .inr ⟨b,rfl,(hb b (by simp)).1⟩
end My
namespace My
open PySem L2
section
variable {P:Program}{w:World}{K:PySem.W.Frag}{mg:Str->Option Value}{base:Heap}{t:Adr}
def Oo (T:Txt w K mg t):bC P w K mg base "_law_lead_begun" 1 t.ym t.vG ["_law_kept"] (λvs H Q _=>∃(c:Addr) (f:Int) (r:e7),vs=[.ref c]/\aH K H c ((f::r).map V.int)/\r.length<=900/\∀d,aj H d->Q (.str (qK f r)) d):=by
 refine⟨T.Ps,T.EX.kp,T.Sm,T.EX.okQ im (λvs H Q E h=>by obtain⟨c,f,r,rfl,_⟩:=h;rfl) λ_ _ _ _ H vs Q E hr h=>?_⟩;obtain⟨c,f,r,rfl,G,lr,k⟩:=h;have hu:=hr.units;refine⟨_,(ah (aF (i:=1) im.nd Z (.inl Z) (ay (U3 K) (aa 0) ag (λ_ _=>rfl)))
  (ah (aD (aw cZ (aa 1) ag (av _)) (ai (aq bc)) aG)
  (ah (aD (bY (dw (aw cZ (aa 1) ag (av _)) (dJ (aw fF (aa 1) ag (av _))))) (ai (aq bc)) aG)
  (ah (aF (i:=2) im.nd rfl (.inl rfl) ag)
  (ah (aF (i:=3) im.nd rfl (.inl rfl) ag)
  (ah (aD (aw (jR (K:=K) rfl) (aa 1) (bR (ad ag (ad ag ae))) (by with_unfolding_all rfl)) (ai (aF (i:=2) im.nd rfl (.inl rfl) (aE dB ag (aE eG ag (ce (aa 1)))))) aG)
  (ah (aD (aw (jR (K:=K) rfl) (aa 1) (bR (hU rfl)) (by with_unfolding_all rfl)) (ai (aF (i:=3) im.nd rfl (.inl rfl) (ay (U3 K) (aM (hU rfl)) (dP (K:=K) rfl VD WH Xd (qA (K:=K) rfl) (aM (hU rfl)) (ad (aa 1) ae)) (λ_ _=>rfl)))) aG)
  (ah (dy PassesOwn.never rfl (d7 (K:=K) rfl (fw (U4 K) (aa 0) (dO ag) hG)) (bj (i:=4) im.nd rfl (.inl rfl)) (ah (aD (bY (dw (aw cZ (aa 4) (aa 2) (av _)) (dJ (aw fF (aa 4) (aa 3) (av _))))) (ai (aq bc)) aG)
  (ah (aF (i:=2) im.nd rfl (.inl rfl) ag)
  (ai (aF (i:=3) im.nd rfl (.inl rfl) ag)))))
  (ah (aF (i:=5) im.nd rfl (.inl rfl) (aE (U0 K) (aE (U0 K) ag (cw gN T.n_int VN (ad (da fF (aa 1) ag (av _)) ae))) (cw gN T.n_int VN (ad (da fF (aa 1) ag (av _)) ae))))
  (ai (aq (ay (U3 K) (aM (ad bc (ad bc ae))) (cw gN T.n_int VN (ad (da (bh (K:=K) rfl hu) (bf (U2 K) T.n_len Ve (ad (aa 0) ae)) (aa 5) (av _)) ae)) (λ_ _=>rfl))))))))))))),?_⟩
 refine aU _ (.int f) (.inl G) (aA (j:=0) Z) ?_;unfold qK at k;refine ak (λm=>?_) (λm=>?_)
 ·have m:=Yb m;rw[X9 m]at k;exact k _ (aj.refl _)
 have m:¬f<128:=λz=>m (Yc z);rw[X8 m]at k;refine ak (λu=>?_) (λu=>?_)
 ·rw[X9 (.inl (Yb u))]at k;exact k _ (aj.refl _)
 have u:¬f<194:=λz=>u (Yc z);refine ak (λB=>?_) (λB=>?_)
 ·rw[X9 (.inr (Yb B))]at k;exact k _ (aj.refl _)
 have B:¬244<f:=λz=>B (Yc z);rw[X8 (by lia)]at k;unfold jz;dsimp only;refine d6 [some (.ref c),some (.int f),some (.int 128),none,none,none] (λnx h=>h) ?_;refine d6 [some (.ref c),some (.int f),some (.int 128),some (.int 191),none,none] (λnx h=>h) ?_;refine bO (λg d=>aj H d/\g=[some (.ref c),some (.int f),some (.int (gG f)),some (.int 191),none,none]) (λnx b=>?_) ?_
 ·refine⟨sz Z,λp1 O n=>?_⟩;refine gR (.inr n.tup) Z Z ?_;refine ak (λz=>?_) (λz=>?_)
  ·have z:bG (.int f) (([224,240]:e7).map V.int)=true:=z;rw[ix]at z;have z:f=224\/f=240:=by simpa using z
   have e:V.int (160-16*(f/240))=V.int (gG f):=by rcases z with rfl|rfl<;>rfl
   refine⟨.inl (by decide),?_⟩;show nx [some (.ref c),some (.int f),some (.int (160-16*(f/240))),some (.int 191),none,none] O;rw[e];exact b _ _ ⟨n.sm,Z⟩
  ·have z:¬bG (.int f) (([224,240]:e7).map V.int)=true:=z;rw[ix]at z;have z:¬f=224/\¬f=240:=by simpa using z
   have e:gG f=128:=by unfold gG;rw[X8 z.1,X8 z.2]
   rw[e]at b;exact b _ _ ⟨n.sm,Z⟩
 rintro g H2 ⟨s2,rfl⟩;refine bO (λg d=>aj H d/\g=[some (.ref c),some (.int f),some (.int (gG f)),some (.int (gH f)),none,none]) (λnx b=>?_) ?_
 ·refine⟨sz Z,λp1 O n=>?_⟩;refine gR (.inr n.tup) Z Z ?_;have s1:=s2.trans n.sm;refine ak (λz=>?_) (λz=>?_)
  ·have z:bG (.int f) (([237,238,244]:e7).map V.int)=true:=z;rw[ix]at z;have z:f=237\/f=238\/f=244:=by simpa using z
   refine⟨sz Z,λp2 H2 U=>?_⟩;refine⟨sz Z,λW N C=>?_⟩;refine⟨.inl ⟨rfl,_,C.lst⟩,?_⟩;have l:∀j v,([237,238,244]:e7)[j]? = some f->([159,187,143]:e7)[j]? = some v->gH f=v->(∀i z,i<j->(([237,238,244]:e7).map V.int)[i]? = some z->dh z (.int f)=false)->uU K (.ref W) [.int f] N λy J=>fG K (.ref p2) y J λx p=>bU 3 x [some (.ref c),some (.int f),some (.int (gG f)),some (.int 191),none,none] p nx:=λj v h1 h2 e h3=>by
    refine⟨W,.int f,_,j,rfl,rfl,C.at_,rfl,rfl,⟨.int f,?_,by simp[dh]⟩,h3,?_⟩
    ·show (([237,238,244]:e7).map V.int)[j]? = _;rw[Vf,h1];rfl
    ·refine⟨(([159,187,143]:e7).map V.int),.int v,.inl (.of (C.sm _ _ U.at_)),aA (j:=j) (by rw[Vf,h2];rfl),?_⟩;rw[<- e];exact b _ _ ⟨s1.trans (U.sm.trans C.sm),Z⟩
   rcases z with rfl|rfl|rfl
   ·exact l 0 159 Z Z Z (λi z h=>Ya h (W3 _))
   ·refine l 1 187 Z Z Z (λi z h e=>?_);obtain rfl:i=0:=by lia
    cases e;rfl
   ·refine l 2 143 Z Z Z (λi z h e=>?_);have:i=0\/i=1:=by lia
    rcases this with rfl|rfl<;>cases e<;>rfl
  ·have z:¬bG (.int f) (([237,238,244]:e7).map V.int)=true:=z;rw[ix]at z;have z:¬f=237/\¬f=238/\¬f=244:=by simpa using z
   have e:gH f=191:=by unfold gH;rw[X8 z.1,X8 z.2.1,X8 z.2.2]
   rw[e]at b;exact b _ _ ⟨s1,Z⟩
 rintro g N ⟨L,rfl⟩;refine⟨_,Z,_,L.seq G,λY J q=>?_⟩;have ec:dR ((f::r).map V.int) (some 1) none=r.map V.int:=by
  rw[gL];exact congrArg _ (rE (f::r) 1)
 rw[ec]at q;refine dX Y rfl ⟨_,q.lst⟩ (iS (K:=K) (a:=Y) (xs:=r.map V.int) (λi σ d=>d=J/\(∀j x,j<i->r[j]? = some x->dL f (j+1)<=x/\x<=eh f (j+1))/\∃F,σ=[some (.ref c),some (.int f),some (.int (dL f (i+1))),some (.int (eh f (i+1))),F,none]) ⟨rfl,λj x z=>Ya z (W3 _),_,rfl⟩ (λi σ d _ z=>by rw[z.1];exact q.lst) ?_ ?_)
 ·rintro i v σ p hv ⟨rfl,D,F,rfl⟩;obtain⟨x,hx,rfl⟩:=eX hv;have bad:¬(dL f (i+1)<=x/\x<=eh f (i+1))->Q (.str "none") p:=λz=>by
   rw[X8 λy=>z (y i x hx)]at k;exact k _ (L.trans q.sm)
  refine ak (λe=>?_) (λe=>?_)
  ·exact bad λz=>by have:=Yb e;lia
  refine ak (λs=>?_) (λs=>?_)
  ·exact bad λz=>by have:=Yb s;lia
  refine⟨rfl,λj y hj M=>?_,_,rfl⟩;by_cases cc:j<i
  ·exact D j y cc M
  ·obtain rfl:j=i:=by lia
   rw[hx]at M;cases M;have e:¬x<dL f (j+1):=λz=>e (Yc z);have s:¬eh f (j+1)<x:=λz=>s (Yc z);lia
 ·rintro σ p ⟨rfl,D,F,rfl⟩;rw[U9]at D;have ft:jt f r:=λi x h=>D i x (Vh.mp h).1 h;rw[X9 ft]at k;have ln:(((f::r).map V.int).length:Int)=(r.length:Int)+1:=by simp
  have I:=L.trans q.sm;dsimp only;refine bO (λg d=>d=p/\g=[some (.ref c),some (.int f),some (V.int (dL f ((List.map V.int r).length+1))),some (V.int (eh f ((List.map V.int r).length+1))),F,some (.int (lb f))]) (λnx b=>?_) ?_
  ·have e:2+(if decide (223<f)=true then (1:Int) else 0)+(if decide (239<f)=true then (1:Int) else 0)=lb f:=by
    unfold lb;simp only [decide_eq_true_eq]
    repeat' split<;>lia
   have b:=b _ _ ⟨rfl,rfl⟩;rw[<- e]at b;exact b
  rintro g _ ⟨rfl,rfl⟩;refine⟨sz Z,λR S o=>?_⟩;refine aS (.inl ((I.trans o.sm).seq G)) ?_;by_cases a:(r.length:Int)+1=lb f
  ·have e:(if decide ((((f::r).map V.int).length:Int)=lb f)=true then (1:Int) else 0)=1:=X9 (Yc (by rw[ln];exact a));rw[X9 a]at k;show fG K (.ref R) (.int (if decide ((((f::r).map V.int).length:Int)=lb f)=true then (1:Int) else 0)) S Q;rw[e];exact⟨_,_,.inl o.lst,aA (j:=1) Z,k _ (I.trans o.sm)⟩
  ·have e:(if decide ((((f::r).map V.int).length:Int)=lb f)=true then (1:Int) else 0)=0:=X8 λz=>a (by rw[<- ln];exact Yb z);rw[X8 a]at k;show fG K (.ref R) (.int (if decide ((((f::r).map V.int).length:Int)=lb f)=true then (1:Int) else 0)) S Q;rw[e];exact⟨_,_,.inl o.lst,aA (j:=0) Z,k _ (I.trans o.sm)⟩
def Oj (T:Txt w K mg t):bC P w K mg base "_law_pair_begun" 1 t.yh t.vB ["_law_kept", "_law_word"] (λvs H Q _=>∃(c:Addr) (h:Bool) (r:e7),vs=[.ref c,.str (cy (.pr h))]/\aH K H c (r.map V.int)/\(r.length=2\/r.length=4)/\∀B,aj H B->Q (.str (iq (cf h r))) B):=by
 refine⟨T.Pl,T.ES.kp,T.Sh,T.ES.okQ nE (λvs H Q E h=>by obtain⟨c,h,r,rfl,_⟩:=h;rfl) λ_ _ _ _ H vs Q E hr h=>?_⟩;obtain⟨c,h,r,rfl,hc,W,k⟩:=h;have hu:=hr.units;refine⟨_,(ah (aF (i:=2) nE.nd Z (.inl Z) (aM ae))
  (ah (dy PassesOwn.never rfl (Bx rfl T.n_range (ad ag (ad (bf (U2 K) T.n_len Ve (ad (aa 0) ae)) (ad ag ae)))) (bj (i:=3) nE.nd rfl (.inl rfl)) (ah (Bv (i:=4) (j:=5) rfl nE.nd rfl rfl (by decide) rfl rfl (ad (ay (U3 K) (aa 0) (aa 3) (λ_ _=>rfl)) (ad (ay (U3 K) (aa 0) (aE (U0 K) (aa 3) ag) (λ_ _=>rfl)) ae)) rfl)
  (ah (aD (aw (bh (K:=K) rfl hu) (aa 1) bc (av _)) (ai (Bv (i:=4) (j:=5) rfl nE.nd rfl rfl (by decide) rfl rfl (ad (aa 5) (ad (aa 4) ae)) rfl)) aG)
  (ai (cY (dP (K:=K) rfl VD VO VP fX (aa 2) (ad (aE (U0 K) (aE eG ag (aa 4)) (aa 5)) ae)))))))
  (ah (aD (bY (dw (nJ eI cZ ag (ay (U3 K) (aa 2) ag (λ_ _=>rfl)) ag) (dJ (nJ eI cZ ag (ay (U3 K) (aa 2) ag (λ_ _=>rfl)) ag)))) (ai (aq bc)) aG)
  (ah (aD (bY (dw (aw cZ (ay (U3 K) (aa 2) ag (λ_ _=>rfl)) ag (av _)) (dJ (aw fF (ay (U3 K) (aa 2) ag (λ_ _=>rfl)) ag (av _))))) (ai (aq bc)) aG)
  (ah (aD (aw (bh (K:=K) rfl hu) (bf (U2 K) T.n_len Ve (ad (aa 2) ae)) ag (av _)) (ai (aq bc)) aG)
  (ai (aq (ay (U3 K) (aM (ad bc (ad bc ae))) (cw gN T.n_int VN (ad (mz eI cZ ag (ay (U3 K) (aa 2) ag (λ_ _=>rfl)) ag) ae)) (λ_ _=>rfl))))))))),?_⟩
 refine⟨sz Z,λF H1 R=>?_⟩;have Y:=R.sm.seq hc;refine aS (.inl Y) ?_;rw[U9];refine⟨r.length,2,rfl,by lia,by decide,by decide,?_⟩;refine Qr (lo:=0) (c:=((2:Nat):Int)) (n:=(r.length+(2-1))/2) (λi σ B=>aj H B/\B F=some (.lst (((cf h r).take i).map V.int))/\∃M U O,σ=[some (.ref c),some (.str (cy (.pr h))),some (.ref F),M,U,O]) ⟨R.sm,R.at_,_,_,_,Z⟩ ?_ ?_
 ·rintro i σ S hi ⟨q,J,M,U,O,rfl⟩;have I:=q.seq hc;obtain⟨x,hx⟩:∃x,r[2*i]? = some x:=⟨_,VG (by lia)⟩;obtain⟨y,hy⟩:∃y,r[2*i+1]? = some y:=⟨_,VG (by lia)⟩;have e1:(0:Int)+(i:Int)*((2:Nat):Int)=((2*i:Nat):Int):=by lia
  have o:(cf h r)[i]? = some (u2 h x y):=by
   rcases W with l|l
   ·obtain⟨a,b,rfl⟩:=mJ l
    ·obtain rfl:i=0:=by simp at hi;lia
     cases hx;cases hy;rfl
   ·obtain⟨a,b,d,e,rfl⟩:=nY l
    ·have:i=0\/i=1:=by simp at hi;lia
     rcases this with rfl|rfl<;>cases hx<;>cases hy<;>rfl
  have tk:=fh o;dsimp only [bU];rw[e1];refine d6 [some (.ref c),some (.str (cy (.pr h))),some (.ref F),some (.int ((2*i:Nat):Int)),some (.int x),some (.int y)] (λnx D=>?_) ?_
  ·refine⟨_,.int x,.inl I,aA (j:=2*i) (by rw[Vf,hx];rfl),?_⟩;refine⟨_,.int y,.inl I,?_,?_⟩
   ·rw[show ((2*i:Nat):Int)+1=((2*i+1:Nat):Int) by lia];exact aA (by rw[Vf,hy];rfl)
   ·exact⟨_,_,Z,D⟩
  refine bO (λG B=>B=S/\G=[some (.ref c),some (.str (cy (.pr h))),some (.ref F),some (.int ((2*i:Nat):Int)),some (.int (if h then x else y)),some (.int (if h then y else x))]) (λnx D=>?_) ?_
  ·cases h with
   | true =>
    refine ez ?_;refine ak (λe=>Ya e (by decide +kernel)) (λ_=>?_);exact D _ _ ⟨rfl,rfl⟩
   | false =>
    refine ez ?_;refine ak (λ_=>?_) (λe=>Ya (by decide +kernel) e);exact⟨_,_,rfl,D _ _ ⟨rfl,rfl⟩⟩
  rintro G _ ⟨rfl,rfl⟩;refine⟨.inl ⟨rfl,_,.of J⟩,?_⟩;refine⟨.inl (by decide),?_⟩;have ev:256*(if h then x else y)+(if h then y else x)=u2 h x y:=by
   unfold u2;cases h<;>simp<;>lia
  refine cM J (dq (by rw[U9,Vk];lia)) ?_;rw[ev];exact⟨q.put R.nw,by rw[aX,tk,Vj];rfl,_,_,_,rfl⟩
 ·rintro σ S ⟨q,J,M,U,O,rfl⟩;have key:(∃u,cf h r=[u])\/∃u v,cf h r=[u,v]:=by
   rcases W with l|l
   ·obtain⟨a,b,rfl⟩:=mJ l;exact .inl ⟨_,Z⟩
   ·obtain⟨a,b,d,e,rfl⟩:=nY l;exact .inr ⟨_,_,Z⟩
  have el:(cf h r).length<=(r.length+(2-1))/2:=by
   rcases W with l|l
   ·obtain⟨a,b,rfl⟩:=mJ l;simp[cf]
   ·obtain⟨a,b,d,e,rfl⟩:=nY l;simp[cf]
  rw[VW el]at J;obtain⟨u,tl,o⟩:∃u tl,cf h r=u::tl:=by
   rcases key with ⟨u,e⟩|⟨u,v,e⟩
   ·exact⟨u,_,e⟩
   ·exact⟨u,_,e⟩
  have w1:(56320<=u/\u<57344)\/(61184<=u/\u<61440)->iq (cf h r) = "none":=λz=>by
   rcases key with ⟨u',e⟩|⟨u',v,e⟩<;>(rw[e]at o ⊢;cases o;exact X9 z)
  have w2:¬((56320<=u/\u<57344)\/(61184<=u/\u<61440))->u<55296\/57343<u->iq (cf h r) = "sign":=λz y=>by
   rcases key with ⟨u',e⟩|⟨u',v,e⟩<;>(rw[e]at o ⊢;cases o;exact (X8 z).trans (X9 y))
  have m:c8 ((cf h r).map V.int) 0=some (.int u):=by rw[o];exact aA (j:=0) Z
  have f:aH K S F ((cf h r).map V.int):=.of J;dsimp only;refine bO (λG B=>B=S/\¬((56320<=u/\u<57344)\/(61184<=u/\u<61440))/\G=[some (V.ref c),some (V.str (cy (Md.pr h))),some (V.ref F),M,U,O]) (λnx D=>?_) ?_
  ·refine aU _ (.int u) (.inl f) m ?_;refine ak (λC=>?_) (λC=>?_)
   ·refine ak (λp=>?_) (λp=>?_)
    ·have:=k _ q;rw[w1 (.inl ⟨Yb C,Yb p⟩)]at this;exact this
    ·refine aU _ (.int u) (.inl f) m ?_;refine ak (λg=>?_) (λg=>?_)
     ·refine ak (λs=>?_) (λs=>?_)
      ·have:=k _ q;rw[w1 (.inr ⟨Yb g,Yb s⟩)]at this;exact this
      ·exact D _ _ ⟨rfl,λz=>by have p:¬u<57344:=λy=>p (Yc y);have s:¬u<61440:=λy=>s (Yc y);lia,rfl⟩
     ·exact D _ _ ⟨rfl,λz=>by have p:¬u<57344:=λy=>p (Yc y);have g:¬61184<=u:=λy=>g (Yc y);lia,rfl⟩
   ·have C:¬56320<=u:=λy=>C (Yc y);refine aU _ (.int u) (.inl f) m ?_;refine ak (λg=>?_) (λg=>?_)
    ·exact Ya (Yb g) (by lia)
    ·exact D _ _ ⟨rfl,λz=>by lia,rfl⟩
  rintro G _ ⟨rfl,N,rfl⟩;refine aU _ (.int u) (.inl f) m ?_;refine ak (λC=>?_) (λC=>?_)
  ·have:=k _ q;rw[w2 N (.inl (Yb C))]at this;exact this
  refine aU _ (.int u) (.inl f) m ?_;refine ak (λp=>?_) (λp=>?_)
  ·have:=k _ q;rw[w2 N (.inr (Yb p))]at this;exact this
  have n2:¬(u<55296\/57343<u):=λz=>z.elim (λy=>C (Yc y)) (λy=>p (Yc y));refine aS (.inl f) ?_;rw[U9];have kk:=k;rcases key with ⟨u',e⟩|⟨u',v,e⟩
  ·rw[e]at o k ⊢;cases o;have:=k _ q;rw[show iq [u] = "more" from (X8 N).trans (X8 n2)]at this;exact this
  ·rw[e]at o k f ⊢;cases o;unfold jz;dsimp only;refine⟨sz Z,λp5 H6 L=>?_⟩;refine aU _ (.int v) (.inl (L.sm.seq f)) (aA (j:=1) Z) ?_;have k6:=k _ (q.trans L.sm);have ep:iq [u,v]=if 56320<=v/\v<57344 then ("sign" : Str) else ("none" : Str):=(X8 N).trans (X8 n2)
   rw[ep]at k6;refine ak (λg=>?_) (λg=>?_)
   ·by_cases s:v<57344
    ·rw[X9 ⟨Yb g,s⟩]at k6;show fG K (.ref p5) (.int (if decide (v<57344)=true then (1:Int) else 0)) H6 Q;rw[X9 (Yc s)];exact⟨_,_,.inl L.lst,aA (j:=1) Z,k6⟩
    ·rw[X8 λz=>s z.2]at k6;show fG K (.ref p5) (.int (if decide (v<57344)=true then (1:Int) else 0)) H6 Q;rw[X8 λz=>s (Yb z)];exact⟨_,_,.inl L.lst,aA (j:=0) Z,k6⟩
   ·rw[X8 λz=>g (Yc z.1)]at k6;exact⟨_,_,.inl L.lst,aA (j:=0) Z,k6⟩
theorem Cz:∀es:List (Int × e7),PyData.canLayAll0 (es.map λe=>PyData.list (e.2.map PyData.int))=true/\PyData.depthAll (es.map λe=>PyData.list (e.2.map PyData.int))<=1
 | []=>⟨rfl,by simp[PyData.depthAll]⟩
 | e::es=>by
  obtain⟨a,b⟩:=Cz es
  constructor
  ·simp[PyData.canLayAll0,PyData.canLay0,X5,a]
  ·simp[PyData.depthAll,PyData.depth,PySem.W.ke_depthAll];lia
theorem DT{K:PySem.W.Frag}{H:Hp}:∀ {qs:List Addr} {es:List (Int × e7)},jW H qs es->cX K H (es.map λe=>PyData.list (e.2.map PyData.int)) (qs.map V.ref)
 | [],[],_=>.nil
 | [],_::_,h=>Ya h.1 (by simp)
 | _::_,[],h=>Ya h.1 (by simp)
 | q::qs,e::es,h=>.cons (bA.lst (.of (h.2 0 q e rfl rfl)) (cX.ints _)) (DT (qs:=qs) (es:=es) ⟨by simpa using h.1,λi x y hx a=>h.2 (i+1) x y hx a⟩)
def Em(es:List (Int × e7))(r:e7):((es.map λe=>PyData.list (e.2.map PyData.int)).any λy=>PyData.eqv y (.list (r.map PyData.int)))=true ↔ ∃e∈es,e.2=r:=by
 rw[V1]
 constructor
 ·rintro⟨x,hx,e⟩;obtain⟨y,a,rfl⟩:=VC.mp hx;rw[rn]at e;exact⟨y,a,Yb e⟩
 ·rintro⟨y,a,rfl⟩;exact⟨_,VC.mpr ⟨y,a,rfl⟩,by rw[rn];exact Yc Z⟩
def Id(K:PySem.W.Frag):Sp:=λvs H Q _=>∃(p c:Addr) (M:Md) (D:Kt) (g:Int) (r:e7),vs=[.ref p,.ref c,.int g]/\Mod H p M/\Mt M D/\cV D/\bZ D g/\aH K H c (r.map V.int)/\mW D g r/\r.length<=900/\∀H',aj H H'->Q (.str (cG (aY D g r))) H'
def C1 (T:Txt w K mg t):bC P w K mg base "_law_begun" 2 t.yt t.vN ["_law_model_here", "_law_kept", "_law_page"] (Id K):=by
 refine⟨T.Pz,T.E7.kp,T.Sv,T.E7.okQ kj (λvs H Q E h=>by obtain⟨p,c,M,D,g,r,rfl,_⟩:=h;rfl) λ_ _ _ _ H vs Q E W h=>?_⟩;obtain⟨p,c,M,D,g,r,rfl,⟨a,b,C,ct⟩,mt,ok,pg,B,nx,lr,k⟩:=h;have o:=W.units;refine⟨_,(ah (jN (aa 0) (eU (K:=K) Z Z (bP (bj (i:=3) kj.nd Z (.inl Z)) (bP (bj (i:=4) kj.nd Z (.inl Z)) (bP (bj (i:=5) kj.nd Z (.inl Z)) eT)))))
  (ah (aD (aw (bh (K:=K) rfl o) (aa 3) bc (av _)) (ai (aq (aW (Oo T) W (ad (aa 1) ae)))) aG)
  (ah (aD (bY (dw (aw (bh (K:=K) rfl o) (aa 3) bc (av _)) (dJ (aw (bh (K:=K) rfl o) (aa 3) bc (av _))))) (ai (aq (aW (Oj T) W (ad (aa 1) (ad (aa 3) ae))))) aG)
  (ah (aD (aw (bh (K:=K) rfl o) (aa 3) bc (av _)) (ah (aD (aw (P8 (K:=K) rfl o) (aa 1) (aa 5) (by with_unfolding_all rfl)) (ai (aq bc)) aG)
  (ai (aq (ay (U3 K) (aM (ad bc (ad bc ae))) (cw gN T.n_int VN (ad (bf (RE (K:=K) rfl rfl) T.n_any PyProof.Rows.boot_any (ad (hJ rfl (dG.of (fns:=(am jG).names) (N:=["_law_model_here", "_law_kept", "_law_page", "_law_word", "_law_first", "_law_second", "_law_here", "_law_there"]) (Nc:=["_law_row_here", "_law_kept"]) (nv:=1) (caps:=[1]) rfl rfl (by decide +kernel)) (d7 (K:=K) rfl (aa 5)) (λ_ _ _ _=>(bj (i:=0) (show List.Nodup (["_law_row_here", "_law_kept"]:List Str) by decide +kernel) rfl (Or.inl rfl) (Or.inr rfl))) (λ_ _ _ _=>gZ) (λ_ _ _ _=>(da (bh (K:=K) rfl o) (fw (U4 K) (aa 0) hG (dO (bf (U2 K) T.n_len Ve (ad (aa 1) ae)))) (aa 1) (av _)))) ae)) ae)) (λ_ _=>rfl))))) aG)
  (ah (aD (aw (bh (K:=K) rfl o) (aa 3) bc (av _)) (ai (aq bc)) aG)
  (ah (aF (i:=6) kj.nd rfl (.inl rfl) (ay (U3 K) (aa 0) (aE (U0 K) ag (aa 2)) (λ_ _=>rfl)))
  (ah (aF (i:=7) kj.nd rfl (.inl rfl) (ay (U3 K) (aa 0) (aE dB ag (aa 2)) (λ_ _=>rfl)))
  (ah (aD (bY (fu (aw (bh (K:=K) rfl o) (bf (U2 K) T.n_len Ve (ad (aa 1) ae)) ag (av _)) (fQ (aw (bh (K:=K) rfl o) (ay (U3 K) (aa 1) ag (λ_ _=>rfl)) (aE dB ag (aa 2)) (av _))))) (ai (aq (ay (U3 K) (aM (ad bc (ad bc ae))) (cw gN T.n_int VN (ad (da fF (JR (K:=K) rfl rfl T.n_len Ve T.n_set PyProof.Rows.boot_set (aa 7) (aa 6)) ag (av _)) ae)) (λ_ _=>rfl)))) aG)
  (ah (aD (aw (bh (K:=K) rfl o) (bf (U2 K) T.n_len Ve (ad (aa 1) ae)) ag (av _)) (ai (aq (ay (U3 K) (aM (ad bc (ad bc ae))) (cw gN T.n_int VN (ad (da cZ (ay (U3 K) (aa 1) ag (λ_ _=>rfl)) (bf (U2 K) T.n_len Ve (ad (aa 6) ae)) (av _)) ae)) (λ_ _=>rfl)))) aG)
  (ai (aq (ay (U3 K) (aM (ad bc (ad bc ae))) (cw gN T.n_int VN (ad (fB (da cZ (ay (U3 K) (aa 1) ag (λ_ _=>rfl)) (bf (U2 K) T.n_len Ve (ad (aa 7) ae)) (av _)) (gE (da (uQ (K:=K) rfl) (ay (U3 K) (aa 7) (ay (U3 K) (aa 1) ag (λ_ _=>rfl)) (λ_ _=>rfl)) (aa 6) (by with_unfolding_all rfl)))) ae)) (λ_ _=>rfl))))))))))))),?_⟩
 have af:r≠[]:=λe=>by
  obtain⟨_,p',u,e',lu,_⟩:=nx;rw[e]at e';have:=congrArg List.length e';rw[Vc]at this;have:=jy D;simp at *;lia
 cases M with
 | ld =>
  obtain rfl:D=.ld:=mt;refine⟨p,_,Z,.of C,Z,_,_,Z,_,_,Z,_,_,Z,Z,?_⟩;refine ez ?_;refine ak (λ_=>?_) (λe=>Ya (by decide +kernel) e);cases r with
  | nil=>exact Ya rfl af
  | cons f r =>
   exact⟨c,f,r,rfl,B,by simp at lr;lia,λH' s'=>by rw[Nm (g:=g) (L3 nx)];exact k H' s'⟩
 | pr h =>
  obtain rfl:D=.pr h:=mt;refine⟨p,_,Z,.of C,Z,_,_,Z,_,_,Z,_,_,Z,Z,?_⟩;refine xS (aP (ua (.pr h))) (by decide +kernel) ?_;refine ak (λe=>Ya e (by cases h<;>decide +kernel)) (λ_=>?_);have I:(r.length=2\/r.length=4)/\cG (aY (.pr h) g r)=iq (cf h r):=by
   rcases LZ nx with ⟨x,y,rfl,hx,Y⟩|⟨x,y,z,v,rfl,hx,hz,o⟩
   ·exact⟨.inl Z,(BJ h hx Y).1⟩
   ·exact⟨.inr Z,KF h o⟩
  cases h with
  | true =>
   refine ez ?_;refine ak (λ_=>?_) (λe=>Ya (by decide +kernel) e);exact⟨c,true,r,rfl,B,I.1,λH' s'=>by rw[<- I.2];exact k H' s'⟩
  | false =>
   refine ez ?_;refine ak (λe=>Ya e (by decide +kernel)) (λ_=>?_);refine ez ?_;refine ak (λ_=>?_) (λe=>Ya (by decide +kernel) e);exact⟨c,false,r,rfl,B,I.1,λH' s'=>by rw[<- I.2];exact k H' s'⟩
 | br =>
  obtain rfl:D=.br:=mt;refine⟨p,_,Z,.of C,Z,_,_,Z,_,_,Z,_,_,Z,Z,?_⟩;refine ez ?_;refine ak (λe=>Ya e (by decide +kernel)) (λ_=>?_);refine ez ?_;refine ak (λe=>Ya e (by decide +kernel)) (λ_=>?_);refine ez ?_;refine ak (λe=>Ya e (by decide +kernel)) (λ_=>?_);refine ez ?_;refine ak (λe=>Ya e (by decide +kernel)) (λ_=>?_);refine ez ?_;refine ak (λ_=>?_) (λe=>Ya (by decide +kernel) e);exact k _ (aj.refl _)
 | tb es =>
  obtain⟨f,rfl⟩:=mt;obtain⟨ha,⟨qs,hb,U⟩,a8⟩:=ct;have C:H p=some (.tup [.str "table",.ref a,.ref b]):=C;refine⟨p,_,Z,.of C,Z,_,_,Z,_,_,Z,_,_,Z,Z,?_⟩;refine ez ?_;refine ak (λe=>Ya e (by decide +kernel)) (λ_=>?_);refine ez ?_;refine ak (λe=>Ya e (by decide +kernel)) (λ_=>?_);refine ez ?_;refine ak (λe=>Ya e (by decide +kernel)) (λ_=>?_);refine ez ?_;refine ak (λ_=>?_) (λe=>Ya (by decide +kernel) e);have ly:=Cz es;refine⟨_,_,bA.lst (.of hb) (DT U),bA.lst B (cX.ints r),ly.1,by simp[PyData.canLay0,X5],by have:=ly.2;lia,?_⟩;obtain⟨t1,t2,t3⟩:=GS (f:=f) (es:=es) (g:=g) (r:=r);refine ak (λz=>?_) (λz=>?_)
  ·have:=k _ (aj.refl _);rw[t1 ((Em es r).mp z)]at this;exact this
  have z:¬ ∃e∈es,e.2=r:=λy=>z ((Em es r).mpr y);refine⟨sz Z,λF J d=>?_⟩;have O:=d.sm _ _ hb;have s:=d.sm.seq B;have L:=U.mono d.sm;refine dX b rfl ⟨_,.of O⟩ (xj ((es.map λe=>decide (e.2.take r.length=r)).map V.bl) (by simp[L.1]) (.of O) (cQ (by rw[U9,L.1];have:=a8.l;lia)) (λi x y H7 N hx Y s7 hN=>?_) λp8 H8 g8=>?_)
  ·rw[Vf]at hx;rw[Vf,Vf]at Y;cases hq:qs[i]? with
   | none=>rw[hq]at hx;cases hx
   | some q =>
   rw[hq]at hx;cases hx;obtain⟨e,S,ab⟩:=L.right hq;rw[S]at Y;cases Y;refine⟨_,.inl (s7.seq s),_,Z,_,.of (s7 _ _ ab),λp9 H9 g9=>?_⟩;rw[U9,wW]at g9;exact mS g9.lst ((s7.trans g9.sm).seq s) (hN _ g9.sm)
  refine aS g8.lst ?_;have k8:=k _ (d.sm.trans g8.sm);by_cases y:∃e∈es,e.2.take r.length=r
  ·rw[t2 z y]at k8;have e:((es.map λe=>decide (e.2.take r.length=r)).any id)=true:=by
    rw[V1];obtain⟨e,S,W⟩:=y;exact⟨_,VC.mpr ⟨e,S,Z⟩,Yc W⟩
   show fG K (.ref F) (.int (if ((es.map λe=>decide (e.2.take r.length=r)).any id)=true then (1:Int) else 0)) H8 Q;rw[X9 e];exact⟨_,_,.inl (g8.sm.seq d.lst),aA (j:=1) Z,k8⟩
  ·rw[t3 z y]at k8;have e:¬((es.map λe=>decide (e.2.take r.length=r)).any id)=true:=by
    rw[V1];rintro⟨x,hx,e⟩;obtain⟨e',S,rfl⟩:=VC.mp hx;exact y ⟨e',S,Yb e⟩
   show fG K (.ref F) (.int (if ((es.map λe=>decide (e.2.take r.length=r)).any id)=true then (1:Int) else 0)) H8 Q;rw[X8 e];exact⟨_,_,.inl (g8.sm.seq d.lst),aA (j:=0) Z,k8⟩
 | sh ns ms =>
  obtain⟨f,rfl⟩:=mt;obtain⟨ha,hb,a1,R⟩:=ct;have two:cP g:=pg;have C:H p=some (.tup [.str "shift",.ref a,.ref b]):=C;refine⟨p,_,Z,.of C,Z,_,_,Z,_,_,Z,_,_,Z,Z,?_⟩;refine ez ?_;refine ak (λe=>Ya e (by decide +kernel)) (λ_=>?_);refine ez ?_;refine ak (λe=>Ya e (by decide +kernel)) (λ_=>?_);refine ez ?_;refine ak (λe=>Ya e (by decide +kernel)) (λ_=>?_);refine ez ?_;refine ak (λe=>Ya e (by decide +kernel)) (λ_=>?_);refine ez ?_;refine ak (λe=>Ya e (by decide +kernel)) (λ_=>?_);have i1:c8 ([.str "shift",.ref a,.ref b]:List V) (1+g)=some (.ref (ao g a b)):=by rcases two with rfl|rfl<;>rfl
  have i2:c8 ([.str "shift",.ref a,.ref b]:List V) (2-g)=some (.ref (ao g b a)):=by rcases two with rfl|rfl<;>rfl
  have hA:H (ao g a b)=some (.lst ((ao g ns ms).map V.int)):=by rcases two with rfl|rfl<;>assumption
  have hB:H (ao g b a)=some (.lst ((ao g ms ns).map V.int)):=by rcases two with rfl|rfl<;>assumption
  have lA:(ao g ns ms).length<=250:=(pT a1 R).2.2;have lB:(ao g ms ns).length<=250:=(pT R a1).2.2;unfold jz;dsimp only;refine d6 [some (.ref p),some (.ref c),some (.int g),some (.str "shift"),some (.ref a),some (.ref b),some (.ref (ao g a b)),none] (λnx G=>⟨_,_,.inr (.of C),i1,G⟩) ?_;refine d6 [some (.ref p),some (.ref c),some (.int g),some (.str "shift"),some (.ref a),some (.ref b),some (.ref (ao g a b)),some (.ref (ao g b a))] (λnx G=>⟨_,_,.inr (.of C),i2,G⟩) ?_;refine aS (.inl B) ?_;rcases LY nx with ⟨b1,rfl,b0⟩|⟨c1,rfl,c0⟩
  ·obtain⟨w1,w2,w3,w4⟩:=Io (f:=f) (ns:=ns) (ms:=ms) (g:=g) two lA b0;refine aU _ (.int b1) (.inl B) (aA (j:=0) Z) ?_;refine ak (λz=>?_) (λz=>?_)
   ·have z:b1=255-g:=Yb z;refine⟨sz Z,λF J d=>?_⟩;refine⟨_,_,Z,.of (d.sm _ _ hB),lB,_,_,Z,.of (d.sm _ _ hA),lA,λn G=>?_⟩;have k6:=k _ d.sm;by_cases y:∃k∈ao g ms ns,k∉ao g ns ms
    ·rw[w1 z y]at k6;show fG K (.ref F) (.int (if decide ((0:Int)<(n:Int))=true then (1:Int) else 0)) J Q;rw[X9 (Yc (by have:=G.mpr y;lia))];exact⟨_,_,.inl d.lst,aA (j:=1) Z,k6⟩
    ·rw[w2 z y]at k6;show fG K (.ref F) (.int (if decide ((0:Int)<(n:Int))=true then (1:Int) else 0)) J Q;rw[X8 (λh=>y (G.mp (by have:=Yb h;lia)))];exact⟨_,_,.inl d.lst,aA (j:=0) Z,k6⟩
   ·have z:¬b1=255-g:=λy=>z (Yc y);refine aS (.inl B) ?_;refine⟨sz Z,λF J d=>?_⟩;refine aU _ (.int b1) (.inl (d.sm.seq B)) (aA (j:=0) Z) ?_;refine aS (.inl (.of (d.sm _ _ hA))) ?_;rw[U9];have k6:=k _ d.sm;by_cases y:b1<((ao g ns ms).length:Int)
    ·rw[w3 z y]at k6;show fG K (.ref F) (.int (if decide (b1<((ao g ns ms).length:Int))=true then (1:Int) else 0)) J Q;rw[X9 (Yc y)];exact⟨_,_,.inl d.lst,aA (j:=1) Z,k6⟩
    ·rw[w4 z y]at k6;show fG K (.ref F) (.int (if decide (b1<((ao g ns ms).length:Int))=true then (1:Int) else 0)) J Q;rw[X8 (λh=>y (Yb h))];exact⟨_,_,.inl d.lst,aA (j:=0) Z,k6⟩
  ·obtain⟨w1,w2⟩:=Im (f:=f) (ns:=ns) (ms:=ms) (g:=g) c0;refine aS (.inl B) ?_;refine⟨sz Z,λF J d=>?_⟩;have s:=d.sm.seq B;have k6:=k _ d.sm;refine aU _ (.int c1) (.inl s) (aA (j:=1) Z) ?_;refine aS (.inl (.of (d.sm _ _ hB))) ?_;rw[U9];refine ak (λy=>?_) (λy=>?_)
   ·have y:c1<((ao g ms ns).length:Int):=Yb y;obtain⟨n,G⟩:∃n,(ao g ms ns)[c1.toNat]? = some n:=⟨_,VG (by lia)⟩;refine aU _ (.int c1) (.inl s) (aA (j:=1) Z) ?_;refine aU _ (.int n) (.inl (.of (d.sm _ _ hB))) (Ek c0 G) ?_;refine gR (.inl (.of (d.sm _ _ hA))) Z (ji _) ?_;show fG K (.ref F) (.int (if (!bG (.int n) ((ao g ns ms).map V.int))=true then (1:Int) else 0)) J Q;rw[ix];by_cases x:n∈ao g ns ms
    ·rw[w2 (by rintro⟨m,hm,hx⟩;rw[G]at hm;cases hm;exact hx x)]at k6;rw[X8 (by simp[x])];exact⟨_,_,.inl d.lst,aA (j:=0) Z,k6⟩
    ·rw[w1 ⟨n,G,x⟩]at k6;rw[X9 (by simp[x])];exact⟨_,_,.inl d.lst,aA (j:=1) Z,k6⟩
   ·have y:¬c1<((ao g ms ns).length:Int):=λz=>y (Yc z);rw[w2 (by rintro⟨m,hm,_⟩;rw[WM (by lia)]at hm;cases hm)]at k6;exact⟨_,_,.inl d.lst,aA (j:=0) Z,k6⟩
def zS{M:Md}{D:Kt}(m:Mt M D):zT M=(ap D:Int):=by
 cases M with
 | ld=>obtain rfl:D=.ld:=m;rfl
 | pr b=>obtain rfl:D=.pr b:=m;rfl
 | sh ns ms=>obtain⟨f,rfl⟩:=m;rfl
 | tb es=>obtain⟨f,rfl⟩:=m;rfl
 | br=>obtain rfl:D=.br:=m;rfl
structure Rs where
 g:Int
 r:e7
 c:Nat
 f:Option (Nat × Nat × Str)
abbrev fK(t:Adr)(dx o b mt:Addr)(pl g c:Int)(e:Bool):HO:=.ins t.bH dx [("tongue",.ref o),("place",.int pl),("at_page",.int g),("begun",.ref b),("many",.int c),("met",.ref mt),("ended",.bl e)]
def ig(H:Hp)(mt:Addr)(pl:Int):Option (Nat × Nat × Str)->Prop
 | none=>H mt=some (.lst [])
 | some z=>∃a,H mt=some (.lst [.ref a])/\H a=some (.tup [.int (pl+(z.1:Int)),.int (z.2.1:Int),.str z.2.2])
def ig.mono{H b:Hp}{mt:Addr}{pl:Int}{f:Option (Nat × Nat × Str)}(h:ig H mt pl f)(s:aj H b):ig b mt pl f:=by
 cases f with
 | none=>exact s _ _ h
 | some z=>obtain⟨a,d,c⟩:=h;exact⟨a,s _ _ d,s _ _ c⟩
def ig.lst{H:Hp}{mt:Addr}{pl:Int}{f:Option (Nat × Nat × Str)}(h:ig H mt pl f):∃xs,H mt=some (.lst xs):=by
 cases f with
 | none=>exact⟨_,h⟩
 | some z=>obtain⟨a,b,_⟩:=h;exact⟨_,b⟩
def ig.keep{H i:Hp}{mt x b:Addr}{pl:Int}{f:Option (Nat × Nat × Str)}{u:HO}{ys:List V}(h:ig H mt pl f)(k:∀a o,a≠x->a≠b->H a=some o->i a=some o)(hx:H x=some u)(e:∀zs,u ≠ .lst zs)(nv:∀zs,u ≠ .tup zs)(hb:H b=some (.lst ys))(g:mt≠b):ig i mt pl f:=by
 cases f with
 | none =>
  have h:H mt=some (.lst []):=h;exact k _ _ (λz=>by rw[z,hx]at h;exact e _ (Vy h)) g h
 | some z =>
  obtain⟨a,d,c⟩:=h;exact⟨a,k _ _ (λz=>by rw[z,hx]at d;exact e _ (Vy d)) g d,k _ _ (λz=>by rw[z,hx]at c;exact nv _ (Vy c)) (λz=>by rw[z,hb]at c;cases c) c⟩
structure Hr (t:Adr) (Hb H:Hp) (x dx o b mt:Addr) (D:Kt) (pl:Int) (s:Rs) (e:Bool):Prop where
 tn:TN t Hb o D
 sb:aj Hb H
 fx:Hb x=none
 fb:Hb b=none
 fm:Hb mt=none
 nbm:b≠mt
 hx:H x=some (fK t dx o b mt pl s.g (s.c:Int) e)
 hb:H b=some (.lst (s.r.map V.int))
 ft:ig H mt pl s.f
 pg:bZ D s.g
 lc:s.r.length<=s.c
def Hr.grow{c H a:Hp}{x dx o b mt:Addr}{D:Kt}{pl:Int}{s:Rs}{e:Bool}(h:Hr t c H x dx o b mt D pl s e)(g:aj H a):Hr t c a x dx o b mt D pl s e:=⟨h.tn,h.sb.trans g,h.fx,h.fb,h.fm,h.nbm,g _ _ h.hx,g _ _ h.hb,h.ft.mono g,h.pg,h.lc⟩
def Hr.side{a H:Hp}{x dx o b mt:Addr}{D:Kt}{pl:Int}{s:Rs}{e:Bool}(h:Hr t a H x dx o b mt D pl s e):Hr t (wo H [x,b,mt]) H x dx o b mt D pl s e:=⟨h.tn.mono (j3 h.sb h.fx h.fb h.fm),FS,tu (by simp),tu (by simp),tu (by simp),h.nbm,h.hx,h.hb,h.ft,h.pg,h.lc⟩
def Hr.back{a c d:Hp}{x dx o b mt:Addr}{D:Kt}{pl:Int}{s:Rs}{e:Bool}(h:Hr t c d x dx o b mt D pl s e)(g:aj a c)(tn:TN t a o D):Hr t a d x dx o b mt D pl s e:=⟨tn,g.trans h.sb,g.free h.fx,g.free h.fb,g.free h.fm,h.nbm,h.hx,h.hb,h.ft,h.pg,h.lc⟩
def tM(t:Adr):Sp:=λvs H Q _=>∃(x dx o:Addr) (pl:Int),vs=[.ref x,.ref o,.int pl]/\H x=some (.ins t.bH dx [])/\∀b mt H',H b=none->H mt=none->b≠mt->Kp x H H'->H' x=some (fK t dx o b mt pl 0 0 false)->H' b=some (.lst [])->H' mt=some (.lst [])->Q .non H'
def B2 (T:Txt w K mg t):bN P w K mg base cn 1 t.ph t.mR ["self", "tongue", "place"] (tM t):=by
 refine T.Ue.okQ Ji (λvs H Q E h=>by obtain⟨x,dx,o,pl,rfl,_⟩:=h;rfl) λ_ _ _ _ H vs Q E p h=>?_;obtain⟨x,dx,o,pl,rfl,hx,k⟩:=h;refine⟨_,(ah (dS (K:=K) Z (aa 0) (aa 1))
  (ah (dS (K:=K) rfl (aa 0) (aa 2))
  (ah (dS (K:=K) rfl (aa 0) ag)
  (ah (dS (K:=K) rfl (aa 0) (aM ae))
  (ah (dS (K:=K) rfl (aa 0) ag)
  (ah (dS (K:=K) rfl (aa 0) (aM ae))
  (ai (dS (K:=K) rfl (aa 0) dQ)))))))),?_⟩
 refine dl x _ dx _ rfl hx T.ba T.eV (Vd Xx (by decide)) ?_;refine dl x _ dx _ rfl aX T.ba T.B9 (Vd (Vv 1) (by decide)) ?_;refine dl x _ dx _ rfl aX T.ba T.jc (Vd (Vv 2) (by decide)) ?_;refine⟨sz Z,λb j e=>?_⟩;have f:H b=none:=Kp.free (x:=x) (Kp.trans Kp.upd (Kp.trans Kp.upd Kp.upd)) aX e.nw;have k1:Kp x H j:=Kp.trans (Kp.trans Kp.upd (Kp.trans Kp.upd Kp.upd)) (Kp.of e.sm);have a:b≠x:=λz=>by rw[z,hx]at f;cases f
 have m:=e.sm x _ aX;refine dl x _ dx _ rfl m T.ba T.fE (Vd (Vv 3) (by decide)) ?_;refine dl x _ dx _ rfl aX T.ba T.qy (Vd (Vv 4) (by decide)) ?_;refine⟨sz Z,λmt i c=>?_⟩;have g:H mt=none:=Kp.free (x:=x) (k1.trans (Kp.trans Kp.upd Kp.upd)) aX c.nw;have k3:Kp x H i:=Kp.trans (k1.trans (Kp.trans Kp.upd Kp.upd)) (Kp.of c.sm);have n:i b=some (.lst []):=c.sm _ _ (by rw[au a,au a];exact e.at_);have nbm:b≠mt:=aO (by rw[au a,au a];exact e.at_) c.nw;have d:mt≠x:=λz=>by rw[z,hx]at g;cases g
 have l:=c.sm x _ aX;refine dl x _ dx _ rfl l T.ba T.ug (Vd (Vv 5) (by decide)) ?_;refine dl x _ dx _ rfl aX T.ba T.jb (Vd (Vv 6) (by decide)) ?_;exact k b mt _ f g nbm (k3.trans (Kp.upd.trans Kp.upd)) (by rw[aX];rfl) (by rw[au a,au a];exact n) (by rw[au d,au d];exact c.at_)
def NW (T:Txt w K mg t):mZ P w K mg base "Reader" t.bH 1 t.ph t.mR ["self", "tongue", "place"] [.int 0] (tM t):=⟨T.Dq,T.Cd,⟨_,T.R3,.cons ⟨_,rfl⟩ .nil⟩,B2 T⟩
def NX (T:Txt w K mg t):mZ P w K mg base "Reader" t.bH 1 t.ph t.mR ["self", "tongue", "place"] [] (tM t):=⟨T.Dq,T.Cd,⟨[],T.Ti,.nil⟩,B2 T⟩
def Hz(t:Adr):Sp:=λvs H Q _=>∃(a:Hp) (x dx o b mt:Addr) (D:Kt) (pl:Int) (s:Rs) (l:Nat) (k:Str),vs=[.ref x,.int (l:Int),.str k]/\Hr t a H x dx o b mt D pl s false/\s.f=none/\∀H',Kp mt H H'->Hr t a H' x dx o b mt D pl { s with f:=some (s.c-s.r.length,l,k) } false->Q .non H'
def OP (T:Txt w K mg t):cW P w K mg base t.bH "note" 1 t.y8 t.wA ["self", "length", "kind"] (Hz t):=by
 refine⟨T.ba,T.Mv,T.Td,T.Ua.okQ Jg (λvs H Q E h=>by obtain⟨y,x,dx,o,b,mt,D,pl,s,l,k,rfl,_⟩:=h;rfl) λ_ _ _ _ H vs Q E B h=>?_⟩;obtain⟨y,x,dx,o,b,mt,D,pl,s,l,q,rfl,d,hf,k⟩:=h;have ft:=d.ft;rw[hf]at ft;have ft:H mt=some (.lst []):=ft;have hx:=d.hx;refine⟨_,(ai (cY (dP (K:=K) Z VD VO VP fX (bq (K:=K) Z (aa 0)) (ad (bR (ad (aE dB (aE (U0 K) (bq (K:=K) Z (aa 0)) (bq (K:=K) Z (aa 0))) (bf (U2 K) T.n_len Ve (ad (bq (K:=K) Z (aa 0)) ae))) (ad (aa 1) (ad (aa 2) ae)))) ae)))),?_⟩;refine cq x _ dx _ _ Z hx T.ba T.ug Z ?_;refine⟨.inl ⟨rfl,_,.of ft⟩,?_⟩;refine cq x _ dx _ _ Z hx T.ba T.B9 Z ?_;refine cq x _ dx _ _ Z hx T.ba T.qy Z ?_;refine cq x _ dx _ _ Z hx T.ba T.fE Z ?_;refine aS (.inl (.of d.hb)) ?_;refine⟨sz Z,λp m f=>?_⟩;have lc:=d.lc;have v:pl+(s.c:Int)-((s.r.map V.int).length:Int)=pl+((s.c-s.r.length:Nat):Int):=by rw[U9];lia
 have g:bz H p (.tup [.int (pl+(s.c:Int)-((s.r.map V.int).length:Int)),.int (l:Int),.str q]) m:=f;rw[v]at g;refine cM (f.sm _ _ ft) (dq (by decide)) ?_;have j:p≠mt:=(aO ft f.nw).symm;have i:x≠mt:=cA hx ft (by intro z;cases z);refine k _ (λa u n e=>by rw[au n];exact f.sm _ _ e) ⟨d.tn,(d.sb.trans f.sm).put d.fm,d.fx,d.fb,d.fm,d.nbm,by rw[au i];exact f.sm _ _ hx,by rw[au d.nbm];exact f.sm _ _ d.hb,⟨p,by rw[aX];rfl,by rw[au j];exact g.at_⟩,d.pg,d.lc⟩
def HE(t:Adr):Sp:=λvs H Q _=>∃(a:Hp) (x dx o b mt:Addr) (D:Kt) (pl:Int) (s:Rs) (l:Nat) (k:Str),vs=[.ref x,.int (l:Int),.str k]/\Hr t a H x dx o b mt D pl s false/\s.f=none/\∀q H',H q=none->Hr t a H' x dx o b mt D pl { s with f:=some (s.c-s.r.length,l,k) } true->H' q=some (.lst [])->Q (.ref q) H'
def uL (T:Txt w K mg t):cW P w K mg base t.bH "meet" 2 t.za t.wC ["self", "length", "kind"] (HE t):=by
 refine⟨T.ba,T.Mx,T.Tf,T.Uc.okQ Jh (λvs H Q E h=>by obtain⟨F,x,dx,o,b,mt,D,pl,s,l,k,rfl,_⟩:=h;rfl) λ_ _ _ _ H vs Q E v h=>?_⟩;obtain⟨F,x,dx,o,b,mt,D,pl,s,l,B,rfl,G,hf,k⟩:=h;have O:=v.units;refine⟨_,(ah (cY (fA (OP T) v (aa 0) (ad (aa 1) (ad (aa 2) ae))))
  (ah (dS (K:=K) rfl (aa 0) dQ)
  (ai (aq (aM ae))))),?_⟩
 refine bL x dx _ Z G.hx Z ⟨F,x,dx,o,b,mt,D,pl,s,l,B,Z,G,hf,λm k1 d=>?_⟩;refine dl x _ dx _ rfl d.hx T.ba T.jb (Vd (Vv 7) (by decide)) ?_;have p:b≠x:=cA d.hb d.hx (by intro z;cases z);refine⟨sz Z,λq J f=>?_⟩;have i:mt≠x:=by obtain⟨xs,e⟩:=d.ft.lst;exact cA e d.hx (by intro z;cases z)
 have I:H q=none:=by
  cases e:H q with
  | none=>rfl
  | some u =>
   by_cases z:q=mt
   ·obtain⟨xs,L⟩:=d.ft.lst;have:upd m x (fK t dx o b mt pl s.g (s.c:Int) true) mt=some (.lst xs):=by rw[au i];exact L
    have n:=f.nw;rw[z]at n;exact Ya (n.symm.trans this) (by intro z;cases z)
   ·have a:=k1 q u z e;by_cases y:q=x
    ·have n:=f.nw;rw[y]at n;exact Ya (n.symm.trans aX) (by intro z;cases z)
    ·have n:=f.nw;have M:upd m x (fK t dx o b mt pl s.g (s.c:Int) true) q=some u:=by rw[au y];exact a
     exact Ya (n.symm.trans M) (by intro z;cases z)
 have j:ig (upd m x (fK t dx o b mt pl s.g (s.c:Int) true)) mt pl (some (s.c-s.r.length,l,B)):=by
  obtain⟨a,N,C⟩:=d.ft;exact⟨a,by rw[au i];exact N,by rw[au (cA C d.hx (by intro z;cases z))];exact C⟩
 exact k q J I ⟨d.tn,(d.sb.put d.fx).trans f.sm,d.fx,d.fb,d.fm,d.nbm,f.sm _ _ aX,f.sm _ _ (by rw[au p];exact d.hb),j.mono f.sm,d.pg,d.lc⟩ f.at_
def ir(D:Kt)(r:e7):Nat × Str:=if r.length-ap D=0 then (r.length, "strange") else (r.length-ap D, "broken")
def HD(t:Adr):Sp:=λvs H Q _=>∃(a:Hp) (x dx o b mt:Addr) (D:Kt) (pl:Int) (s:Rs),vs=[.ref x]/\Hr t a H x dx o b mt D pl s false/\s.f=none/\ap D<=s.r.length/\∀q H',H q=none->Hr t a H' x dx o b mt D pl { s with f:=some (s.c-s.r.length,ir D s.r) } true->H' q=some (.lst [])->Q (.ref q) H'
def OQ (T:Txt w K mg t):cW P w K mg base t.bH "meet_none" 3 t.y9 t.wB ["self"] (HD t):=by
 refine⟨T.ba,T.Mw,T.Te,T.Ub.okQ Bc (λvs H Q E h=>by obtain⟨n,x,dx,o,b,mt,D,pl,s,rfl,_⟩:=h;rfl) λ_ _ _ _ H vs Q E c h=>?_⟩;obtain⟨n,x,dx,o,b,mt,D,pl,s,rfl,d,hf,u,k⟩:=h;have v:=c.units;have hx:=d.hx;have tn:=d.tn.mono d.sb;refine⟨_,(ah (aF (i:=1) Bc.nd Z (.inl Z) (aE dB (bf (U2 K) T.n_len Ve (ad (bq (K:=K) Z (aa 0)) ae)) (dI (cC (C8 T) c (bq (K:=K) Z (aa 0))) (dI (cC (Dh T) c (bq (K:=K) Z (aa 0))) (dI (cC (Dg T) c (bq (K:=K) Z (aa 0))) (dI (cC (Db T) c (bq (K:=K) Z (aa 0))) (cC (C9 T) c (bq (K:=K) Z (aa 0)))))))))
  (ah (aD (aw fF (aa 1) ag (av _)) (ai (aq (fA (uL T) c (aa 0) (ad (aa 1) (ad bc ae))))) aG)
  (ai (aq (fA (uL T) c (aa 0) (ad (bf (U2 K) T.n_len Ve (ad (bq (K:=K) rfl (aa 0)) ae)) (ad bc ae))))))),?_⟩
 refine d6 [some (.ref x),some (.int ((s.r.length:Int)-(ap D:Int)))] (λnx g=>?_) ?_
 ·refine cq x _ dx _ _ Z hx T.ba T.fE Z ?_;refine aS (.inl (.of d.hb)) ?_;rw[U9];cases D with
  | br =>
   obtain⟨a,ho⟩:=id tn;exact .inl ⟨x,_,dx,_,_,Z,hx,T.ba,T.eV,Z,o,a,_,Z,ho,Z,_,Z,g⟩
  | ld =>
   obtain⟨a,ho⟩:=id tn;exact .inr (.inl ⟨x,_,dx,_,_,Z,hx,T.ba,T.eV,Z,o,a,_,Z,ho,Z,_,Z,g⟩)
  | pr h =>
   obtain⟨a,ho⟩:=id tn;exact .inr (.inr (.inl ⟨x,_,dx,_,_,Z,hx,T.ba,T.eV,Z,o,a,_,Z,ho,Z,_,Z,g⟩))
  | sh f ns ms=>exact .inr (.inr (.inr (.inl ⟨x,_,dx,_,_,rfl,hx,T.ba,T.eV,rfl,o,f.dx,_,rfl,Tg.o tn,rfl,_,rfl,g⟩)))
  | tb f es=>exact .inr (.inr (.inr (.inr ⟨x,_,dx,_,_,rfl,hx,T.ba,T.eV,rfl,o,f.dx,_,rfl,tn.1.o,rfl,_,rfl,g⟩)))
 refine ak (λz=>?_) (λz=>?_)
 ·have z:0<(s.r.length:Int)-(ap D:Int):=Yb z;have e:(s.r.length:Int)-(ap D:Int)=((s.r.length-ap D:Nat):Int):=by lia
  rw[e];refine bL x dx _ Z hx Z ⟨n,x,dx,o,b,mt,D,pl,s,s.r.length-ap D, "broken",Z,d,hf,λq p j h' l=>?_⟩;have m:ir D s.r=(s.r.length-ap D,("broken" : Str)):=X8 (by lia);rw[m]at k;exact k q p j h' l
 ·have z:¬0<(s.r.length:Int)-(ap D:Int):=λy=>z (Yc y);refine bL x dx _ Z hx Z ?_;refine cq x _ dx _ _ Z hx T.ba T.fE Z ?_;refine aS (.inl (.of d.hb)) ?_;rw[U9];refine⟨n,x,dx,o,b,mt,D,pl,s,s.r.length, "strange",Z,d,hf,λq p j h' l=>?_⟩;have m:ir D s.r=(s.r.length,("strange" : Str)):=X9 (by lia);rw[m]at k;exact k q p j h' l
noncomputable def iu(D:Kt)(s:Rs):Rs × e7:=match aY D s.g s.r with
 | .sg n g'=>({ s with g:=g',r:=[] },[n])
 | .mo=>(s,[])
 | .no=>({ s with f:=some (s.c-s.r.length,ir D s.r) },[])
def Rp(t:Adr)(a H:Hp)(x dx o mt:Addr)(D:Kt)(pl:Int)(z:Rs × e7)(Q:VK):Prop:=∀q b' H',H q=none->q≠b'->Hr t a H' x dx o b' mt D pl z.1 z.1.f.isSome->H' q=some (.lst (z.2.map V.int))->Q (.ref q) H'
def HL(t:Adr):Sp:=λvs H Q _=>∃(a:Hp) (x dx o b mt:Addr) (D:Kt) (pl:Int) (s:Rs),vs=[.ref x]/\Hr t a H x dx o b mt D pl s false/\s.f=none/\ap D<=s.r.length/\Dm D s.g s.r/\Rp t a H x dx o mt D pl (iu D s) Q
def OR (T:Txt w K mg t):cW P w K mg base t.bH "look_at_begun" 8 t.zb t.wD ["self"] (HL t):=by
 refine⟨T.ba,T.Mz,T.Th,T.Ud.okQ Bd (λvs H Q E h=>by obtain⟨M,x,dx,o,b,mt,D,pl,s,rfl,_⟩:=h;rfl) λ_ _ _ _ H vs Q E I h=>?_⟩;obtain⟨M,x,dx,o,b,mt,D,pl,s,rfl,a,hf,lu,N,k⟩:=h;have hu:=I.units;have hx:=a.hx;have tn:=a.tn.mono a.sb;refine⟨_,(ah (aF (i:=1) Bd.nd Z (.inl Z) (dI (d8 (OF T) I (bq (K:=K) Z (aa 0)) (ad (bq (K:=K) Z (aa 0)) (ad (bq (K:=K) Z (aa 0)) ae))) (dI (d8 (OY T) I (bq (K:=K) Z (aa 0)) (ad (bq (K:=K) Z (aa 0)) (ad (bq (K:=K) Z (aa 0)) ae))) (dI (d8 (OV T) I (bq (K:=K) Z (aa 0)) (ad (bq (K:=K) Z (aa 0)) (ad (bq (K:=K) Z (aa 0)) ae))) (dI (d8 (OL T) I (bq (K:=K) Z (aa 0)) (ad (bq (K:=K) Z (aa 0)) (ad (bq (K:=K) Z (aa 0)) ae))) (d8 (OI T) I (bq (K:=K) Z (aa 0)) (ad (bq (K:=K) Z (aa 0)) (ad (bq (K:=K) Z (aa 0)) ae))))))))
  (ah (aD (aw (bh (K:=K) rfl hu) (ay (U3 K) (aa 1) ag (λ_ _=>rfl)) bc (av _)) (ai (aq (aM ae))) aG)
  (ah (aD (aw (bh (K:=K) rfl hu) (ay (U3 K) (aa 1) ag (λ_ _=>rfl)) bc (av _)) (ai (aq (cC (OQ T) I (aa 0)))) aG)
  (ah (dS (K:=K) rfl (aa 0) (aM ae))
  (ah (dS (K:=K) rfl (aa 0) (ay (U3 K) (aa 1) ag (λ_ _=>rfl)))
  (ai (aq (aM (ad (ay (U3 K) (aa 1) ag (λ_ _=>rfl)) ae))))))))),?_⟩
 refine bO (λσ' L=>∃Y,aj H L/\L Y=some (.tup (Cq s.g (aY D s.g s.r)))/\σ'=[some (.ref x),some (.ref Y)]) (λnx m=>?_) ?_
 ·cases D with
  | br =>
   obtain⟨l,ho⟩:=id tn;exact .inl ⟨x,_,dx,_,_,Z,hx,T.ba,T.eV,Z,o,l,_,Z,ho,Z,x,_,dx,_,_,Z,hx,T.ba,T.fE,Z,x,_,dx,_,_,Z,hx,T.ba,T.jc,Z,o,b,.br,s.g,s.r,Z,tn,a.pg,a.hb,N,λp L B c=>m _ _ ⟨p,B,c,Z⟩⟩
  | ld =>
   obtain⟨l,ho⟩:=id tn;exact .inr (.inl ⟨x,_,dx,_,_,Z,hx,T.ba,T.eV,Z,o,l,_,Z,ho,Z,x,_,dx,_,_,Z,hx,T.ba,T.fE,Z,x,_,dx,_,_,Z,hx,T.ba,T.jc,Z,o,b,.ld,s.g,s.r,Z,tn,a.pg,a.hb,N,λp L B c=>m _ _ ⟨p,B,c,Z⟩⟩)
  | pr h =>
   obtain⟨l,ho⟩:=id tn;exact .inr (.inr (.inl ⟨x,_,dx,_,_,Z,hx,T.ba,T.eV,Z,o,l,_,Z,ho,Z,x,_,dx,_,_,Z,hx,T.ba,T.fE,Z,x,_,dx,_,_,Z,hx,T.ba,T.jc,Z,o,b,.pr h,s.g,s.r,Z,tn,a.pg,a.hb,N,λp L B c=>m _ _ ⟨p,B,c,Z⟩⟩))
  | sh f ns ms=>exact .inr (.inr (.inr (.inl ⟨x,_,dx,_,_,rfl,hx,T.ba,T.eV,rfl,o,f.dx,_,rfl,Tg.o tn,rfl,x,_,dx,_,_,rfl,hx,T.ba,T.fE,rfl,x,_,dx,_,_,rfl,hx,T.ba,T.jc,rfl,o,b,.sh f ns ms,s.g,s.r,rfl,tn,a.pg,a.hb,N,λp L B c=>m _ _ ⟨p,B,c,rfl⟩⟩)))
  | tb f es=>exact .inr (.inr (.inr (.inr ⟨x,_,dx,_,_,rfl,hx,T.ba,T.eV,rfl,o,f.dx,_,rfl,tn.1.o,rfl,x,_,dx,_,_,rfl,hx,T.ba,T.fE,rfl,x,_,dx,_,_,rfl,hx,T.ba,T.jc,rfl,o,b,.tb f es,s.g,s.r,rfl,tn,a.pg,a.hb,N,λp L B c=>m _ _ ⟨p,B,c,rfl⟩⟩)))
 rintro σ' H1 ⟨Y,s1,c,rfl⟩;have u:=a.grow s1;unfold Rp iu at k;cases el:aY D s.g s.r with
 | mo =>
  rw[el]at c k;refine bi (.inr (.of c)) (aA (j:=0) Z) ?_;refine ez ?_;refine ak (λ_=>?_) (λe=>Ya (by decide +kernel) e);refine⟨sz Z,λq U d=>k q b U (s1.free d.nw) (aO u.hb d.nw).symm ?_ d.at_⟩;show Hr t M U x dx o b mt D pl s s.f.isSome;rw[hf];exact u.grow d.sm
 | no =>
  rw[el]at c k;refine bi (.inr (.of c)) (aA (j:=0) Z) ?_;refine ez ?_;refine ak (λe=>Ya e (by decide +kernel)) (λ_=>?_);refine bi (.inr (.of c)) (aA (j:=0) Z) ?_;refine ez ?_;refine ak (λ_=>?_) (λe=>Ya (by decide +kernel) e);refine bL x dx _ Z u.hx Z (i5 λzq zh=>⟨M,x,dx,o,b,mt,D,pl,s,Z,u,hf,lu,λq U W G hq=>zh _ _ ?_⟩);exact k q b U (s1.free W) (aO u.hb W).symm G hq
 | sg n g' =>
  rw[el]at c k;refine bi (.inr (.of c)) (aA (j:=0) Z) ?_;refine ez ?_;refine ak (λe=>Ya e (by decide +kernel)) (λ_=>?_);refine bi (.inr (.of c)) (aA (j:=0) Z) ?_;refine ez ?_;refine ak (λe=>Ya e (by decide +kernel)) (λ_=>?_);refine⟨sz Z,λb' U d=>?_⟩;have G:=u.grow d.sm;have J:=d.sm _ _ c;have C:Y≠x:=cA J G.hx (by intro z;cases z);have v:b'≠x:=(aO u.hx d.nw).symm;have a2:M b'=none:=u.sb.free d.nw;obtain⟨ys,O⟩:=u.ft.lst;have S:b'≠mt:=(aO O d.nw).symm;have V:mt≠x:=cA O u.hx (by intro z;cases z);refine dl x _ dx _ rfl G.hx T.ba T.fE (Vd (Vv 7) (by decide)) ?_;refine bi (.inr (.of (by rw[au C];exact J))) (aA (j:=2) Z) ?_;refine dl x _ dx _ rfl aX T.ba T.jc (Vd (Vv 7) (by decide)) ?_;refine bi (.inr (.of (by rw[au C,au C];exact J))) (aA (j:=1) Z) ?_;refine⟨sz Z,λq H3 F=>?_⟩;have a3:=F.sm b' _ (by rw[au v,au v];exact d.at_);have R:=F.sm mt _ (by rw[au V,au V];exact d.sm _ _ O);have a1:q≠b':=(aO (by rw[au v,au v];exact d.at_) F.nw).symm;have a4:H1 mt=some (.lst []):=by have:=u.ft;rw[hf]at this;exact this
  rw[a4]at O;have ey:ys=[]:=by cases O;rfl
  rw[ey]at R;have a5:aj M H3:=((G.sb.put G.fx).put G.fx).trans F.sm;have W:H q=none:=by
   refine s1.free (d.sm.free ?_);have n:=F.nw;by_cases y:q=x
   ·rw[y]at n;exact Ya (n.symm.trans aX) (by intro z;cases z)
   ·rw[au y,au y]at n;exact n
  refine k q b' H3 W a1 ?_ F.at_;show Hr t M H3 x dx o b' mt D pl { s with g:=g',r:=[] } s.f.isSome;rw[hf];refine⟨a.tn,a5,a.fx,a2,a.fm,S,F.sm x _ (by rw[aX];rfl),a3,?_,(mI a.tn.koS a.pg N el).2.2,Vq _⟩;exact R
noncomputable def bn(D:Kt)(s:Rs)(v:Int):Rs × e7:=if (s.r++[v]).length%ap D=0 then iu D { s with r:=s.r++[v],c:=s.c+1 } else ({ s with r:=s.r++[v],c:=s.c+1 },[])
def Hd(t:Adr):Sp:=λvs H Q _=>∃(a:Hp) (x dx o b mt:Addr) (D:Kt) (pl:Int) (s:Rs) (v:Int),vs=[.ref x,.int v]/\Hr t a H x dx o b mt D pl s false/\s.f=none/\cu D s.g s.r/\0<=v/\v<=255/\Rp t a H x dx o mt D pl (bn D s v) Q
def OO (T:Txt w K mg t):cW P w K mg base t.bH "take" 9 t.y4 t.ww ["self", "byte"] (Hd t):=by
 refine⟨T.ba,T.Mr,T.Ta,T.T7.okQ Jd (λvs H Q E h=>by obtain⟨I,x,dx,o,b,mt,D,pl,s,v,rfl,_⟩:=h;rfl) λ_ _ _ _ H vs Q E C h=>?_⟩;obtain⟨I,x,dx,o,b,mt,D,pl,s,v,rfl,i,hf,bg,v0,v1,k⟩:=h;have hu:=C.units;have hx:=i.hx;have hb:=i.hb;have l6:=(bg.byts i.pg).2;have O:b≠x:=cA hb hx (by intro z;cases z);refine⟨_,(ah (cY (dP (K:=K) Z VD VO VP fX (bq (K:=K) Z (aa 0)) (ad (aa 1) ae)))
  (ah (J2 (K:=K) rfl (aa 0) ag)
  (ah (aD (aw (fY (K:=K) rfl hu) (aE oo (bf (U2 K) T.n_len Ve (ad (bq (K:=K) rfl (aa 0)) ae)) (dI (cC (C8 T) C (bq (K:=K) rfl (aa 0))) (dI (cC (Dh T) C (bq (K:=K) rfl (aa 0))) (dI (cC (Dg T) C (bq (K:=K) rfl (aa 0))) (dI (cC (Db T) C (bq (K:=K) rfl (aa 0))) (cC (C9 T) C (bq (K:=K) rfl (aa 0)))))))) ag (av _)) (ai (aq (aM ae))) aG)
  (ai (aq (cC (OR T) C (aa 0))))))),?_⟩
 refine cq x _ dx _ _ Z hx T.ba T.fE Z ?_;refine⟨.inl ⟨rfl,_,.of hb⟩,?_⟩;refine cM hb (dq (by rw[U9];lia)) ?_;obtain⟨F,M⟩:∃F,F=upd H b (.lst (s.r.map V.int++[.int v])):=⟨_,rfl⟩;rw[<- M];have S:F b=some (.lst ((s.r++[v]).map V.int)):=by rw[M,aX,Vj];rfl
 have L:F x=some (fK t dx o b mt pl s.g (s.c:Int) false):=by rw[M,au O.symm];exact hx
 refine⟨x,_,dx,_,_,rfl,L,T.ba,T.qy,rfl,_,_,rfl,rfl,dx,_,L,Vd (Vv 7) (by decide),?_⟩;obtain⟨j,G⟩:∃j,j=upd F x (fK t dx o b mt pl s.g ((s.c+1:Nat):Int) false):=⟨_,rfl⟩;have Y:upd F x (.ins t.bH dx (cI "many" (.int ((s.c:Int)+1)) [("tongue",.ref o),("place",.int pl),("at_page",.int s.g),("begun",.ref b),("many",.int (s.c:Int)),("met",.ref mt),("ended",.bl false)]))=j:=by rw[G];rfl
 rw[Y];have d:j x=some (fK t dx o b mt pl s.g ((s.c+1:Nat):Int) false):=by rw[G];exact aX
 have n:j b=some (.lst ((s.r++[v]).map V.int)):=by rw[G,au O];exact S
 have J:aj I j:=by rw[G,M];exact (i.sb.put i.fb).put i.fx
 have k2:∀a u,a≠x->a≠b->H a=some u->j a=some u:=λa u na nb e=>by rw[G,au na,M,au nb];exact e
 have a0:ig j mt pl s.f:=i.ft.keep k2 hx (by intro z y;cases y) (by intro z y;cases y) hb i.nbm.symm;have N:∀q,j q=none->H q=none:=λq p=>by
  cases e:H q with
  | none=>rfl
  | some u =>
   have:=k2 q u (λz=>by rw[z,d]at p;cases p) (λz=>by rw[z,n]at p;cases p) e;rw[p]at this;cases this
 have ln:(s.r++[v]).length=s.r.length+1:=by rw[Vc];rfl
 have h2:Hr t I j x dx o b mt D pl { s with r:=s.r++[v],c:=s.c+1 } false:=⟨i.tn,J,i.fx,i.fb,i.fm,i.nbm,d,n,a0,i.pg,by rw[ln];have:=i.lc;show _<=s.c+1;lia⟩;have tn:=i.tn.mono J;unfold bn at k;dsimp only;refine bO (λσ' H'=>H'=j/\(s.r++[v]).length%ap D=0/\σ'=[some (.ref x),some (.int v)]) (λnx m=>?_) ?_
 ·have W:¬(s.r++[v]).length%ap D=0->∀q B,bz j q (.lst []) B->Q (.ref q) B:=λU q B R=>by
   rw[X8 U]at k;refine k q b B (N q R.nw) (aO n R.nw).symm ?_ R.at_;show Hr t I B x dx o b mt D pl { s with r:=s.r++[v],c:=s.c+1 } s.f.isSome;rw[show s.f.isSome=false by rw[hf];rfl];exact h2.grow R.sm
  refine cq x _ dx _ _ Z d T.ba T.fE Z ?_;refine aS (.inl (.of n)) ?_;rw[U9];cases D with
  | br =>
   obtain⟨l,ho⟩:=id tn;refine .inl ⟨x,_,dx,_,_,Z,d,T.ba,T.eV,Z,o,l,_,Z,ho,Z,_,Z,Xe,?_⟩;exact ak (λz=>Ya z (by simp)) (λ_=>m _ _ ⟨rfl,WP _,rfl⟩)
  | ld =>
   obtain⟨l,ho⟩:=id tn;refine .inr (.inl ⟨x,_,dx,_,_,Z,d,T.ba,T.eV,Z,o,l,_,Z,ho,Z,_,Z,Xe,?_⟩);exact ak (λz=>Ya z (by simp)) (λ_=>m _ _ ⟨rfl,WP _,rfl⟩)
  | pr h =>
   obtain⟨l,ho⟩:=id tn;refine .inr (.inr (.inl ⟨x,_,dx,_,_,rfl,d,T.ba,T.eV,rfl,o,l,_,rfl,ho,rfl,_,rfl,(show (0:Int)<2 by decide),?_⟩));refine ak (λz=>?_) (λz=>?_)
   ·have z:(!decide ((((s.r++[v]).length:Nat):Int)%2=0))=true:=z;refine⟨sz Z,W (λy=>?_)⟩;have y:(s.r++[v]).length%2=0:=y;rw[Yc (by lia)]at z;cases z
   ·refine m _ _ ⟨rfl,?_,rfl⟩;have z:¬(!decide ((((s.r++[v]).length:Nat):Int)%2=0))=true:=z;show (s.r++[v]).length%2=0;rcases Nat.mod_two_eq_zero_or_one (s.r++[v]).length with y|y
    ·exact y
    ·exact Ya (by rw[Yd (by lia)];rfl) z
  | sh f ns ms =>
   refine .inr (.inr (.inr (.inl ⟨x,_,dx,_,_,Z,d,T.ba,T.eV,Z,o,f.dx,_,Z,Tg.o tn,Z,_,Z,Xe,?_⟩)));exact ak (λz=>Ya z (by simp)) (λ_=>m _ _ ⟨rfl,WP _,rfl⟩)
  | tb f es =>
   refine .inr (.inr (.inr (.inr ⟨x,_,dx,_,_,Z,d,T.ba,T.eV,Z,o,f.dx,_,Z,tn.1.o,Z,_,Z,Xe,?_⟩)));exact ak (λz=>Ya z (by simp)) (λ_=>m _ _ ⟨rfl,WP _,rfl⟩)
 rintro σ' H' ⟨rfl,ev,rfl⟩;have a6:=jy D;have lu:ap D<=(s.r++[v]).length:=by
  rcases Wt (s.r++[v]).length (ap D) with z|z
  ·rw[WO z]at ev;lia
  ·exact z
 rw[X9 ev]at k;exact⟨x,dx,_,Z,d,Z,I,x,dx,o,b,mt,D,pl,_,Z,h2,hf,lu,oU bg v0 v1,λq b' B p=>k q b' B (N q p)⟩
noncomputable def aN(D:Kt):Rs->e7->Rs × e7
 | s,[]=>(s,[])
 | s,v::ws=>if s.f.isSome=true then (s,[]) else ((aN D (bn D s v).1 ws).1,(bn D s v).2++(aN D (bn D s v).1 ws).2)
def gF(D:Kt){s:Rs}(h:s.f.isSome=true)(a:e7):aN D s a=(s,[]):=by
 cases a with
 | nil=>rfl
 | cons v a=>exact X9 h
def hV(D:Kt){s:Rs}(h:s.f=none)(v:Int)(a:e7):aN D s (v::a)=((aN D (bn D s v).1 a).1,(bn D s v).2++(aN D (bn D s v).1 a).2):=X8 (by rw[h];decide)
theorem qi(D:Kt):∀(xs ys:e7) (s:Rs),aN D s (xs++ys)=((aN D (aN D s xs).1 ys).1,(aN D s xs).2++(aN D (aN D s xs).1 ys).2)
 | [],ys,s=>by simp[aN]
 | v::xs,ys,s=>by
  by_cases h:s.f.isSome=true
  ·rw[gF D h,gF D h,gF D h];rfl
  ·have a:s.f=none:=by cases e:s.f with|none=>rfl|some _=>rw[e]at h;exact Ya Z h
   rw[WV,hV D a,hV D a,qi D xs];simp[VF]
def tZ(D:Kt)(s:Rs)(v:Int):(bn D s v).1.c=s.c+1:=by
 unfold bn iu
 split
 ·cases aY D { s with r:=s.r++[v],c:=s.c+1 }.g { s with r:=s.r++[v],c:=s.c+1 }.r<;>rfl
 ·rfl
def Az{D:Kt}{s:Rs}{v:Int}(hs:s.f=none)(h:(bn D s v).1.f=none):bD D s.g s.r (s.c+1) v=((bn D s v).1.g,(bn D s v).1.r,(bn D s v).2.map Ev.sg):=by
 unfold bn at h ⊢;unfold bD;by_cases c:(s.r++[v]).length%ap D=0
 ·rw[X9 c]at h ⊢;rw[X9 c];unfold iu at h ⊢;unfold h8 nW;dsimp only at h ⊢;cases e:aY D s.g (s.r++[v]) with
  | no=>rw[e]at h;cases h
  | mo=>dsimp only;split<;>rfl
  | sg n g'=>dsimp only;split<;>rfl
 ·rw[X8 c,X8 c];rfl
def BG(D:Kt)(s:Rs)(v:Int):(bn D s v).2.length<=1:=by
 unfold bn iu
 split
 ·cases aY D { s with r:=s.r++[v],c:=s.c+1 }.g { s with r:=s.r++[v],c:=s.c+1 }.r<;>simp
 ·simp
def BF{D:Kt}{s:Rs}{v:Int}(ok:cV D)(hs:s.f=none)(pg:bZ D s.g)(bg:cu D s.g s.r)(d:0<=v)(e:v<=255):(bn D s v).1.f=none->bZ D (bn D s v).1.g/\cu D (bn D s v).1.g (bn D s v).1.r:=λh=>by
 obtain⟨a,b,_⟩:=Dj (s.c+1) ok pg bg d e;rw[Az hs h]at a b;exact⟨a,b⟩
theorem t5{D:Kt}(ok:cV D):∀(c:e7) (s:Rs),s.f=none->bZ D s.g->cu D s.g s.r->bp c->(aN D s c).1.f=none->bZ D (aN D s c).1.g/\cu D (aN D s c).1.g (aN D s c).1.r
 | [],s,_,pg,bg,_,_=>⟨pg,bg⟩
 | v::c,s,hs,pg,bg,hw,h=>by
  rw[hV D hs]at h ⊢;have d:=hw v (Vz ..);cases e:(bn D s v).1.f with
  | some z=>rw[gF D (by rw[e];rfl)]at h;rw[e]at h;cases h
  | none =>
   obtain⟨a,b⟩:=BF ok hs pg bg d.1 d.2 e;exact t5 ok c _ e a b (λx hx=>hw x (Vx _ hx)) h
theorem qg(D:Kt):∀(a:e7) (s:Rs),(aN D s a).2.length<=a.length
 | [],s=>Va _
 | v::a,s=>by
  by_cases h:s.f.isSome=true
  ·rw[gF D h];exact Vq _
  ·have b:s.f=none:=by cases e:s.f with|none=>rfl|some _=>rw[e]at h;exact Ya Z h
   rw[hV D b,Vc,Vt];have:=qg D a (bn D s v).1;have:=BG D s v;lia
def AQ(K:PySem.W.Frag)(t:Adr):Sp:=λvs H Q _=>∃(d:Hp) (x dx o b mt a:Addr) (D:Kt) (pl:Int) (s:Rs) (e:Bool) (c:e7),vs=[.ref x,.ref a]/\Hr t d H x dx o b mt D pl s e/\aH K d a (c.map V.int)/\bp c/\c.length<=1000 /\
 (e=true->∀q H',H q=none->Hr t d H' x dx o b mt D pl s true->H' q=some (.lst [])->Q (.ref q) H')/\(e=false->s.f=none/\cu D s.g s.r/\Rp t d H x dx o mt D pl (aN D s c) Q)
def uM (T:Txt w K mg t):cW P w K mg base t.bH "feed" 10 t.zd t.wF ["self", "row"] (AQ K t):=by
 refine⟨T.ba,T.MB,T.Tk,T.Ug.okQ tS (λvs H Q E h=>by obtain⟨M,x,dx,o,b,mt,a,D,pl,s,e,c,rfl,_⟩:=h;rfl) λ_ _ _ _ H vs Q E hr h=>?_⟩;obtain⟨M,x,dx,o,b,mt,a,D,pl,s,e,c,rfl,G,ha,Y,lw,ke,kf⟩:=h;have hu:=hr.units;refine⟨_,(ah (aF (i:=2) tS.nd Z (.inl Z) (aM ae))
  (ah (aD (ip (K:=K) rfl (bq (K:=K) rfl (aa 0))) (ai (aq (aa 2))) aG)
  (ah (dy PassesOwn.never rfl (d7 (K:=K) rfl (aa 1)) (bj (i:=3) tS.nd rfl (.inl rfl)) (ah (cY (dP (K:=K) rfl VD PySem.F.slot_list_extend PySem.F.type_list_extend (MS (K:=K) rfl) (aa 2) (ad (fA (OO T) hr (aa 0) (ad (aa 3) ae)) ae)))
  (ai (aD (ip (K:=K) rfl (bq (K:=K) rfl (aa 0))) (ai JU) aG))))
  (ai (aq (aa 2)))))),?_⟩
 refine⟨sz Z,λq H1 m=>?_⟩;have h1:=G.grow m.sm;have fq:M q=none:=G.sb.free m.nw;have J:q≠x:=(aO G.hx m.nw).symm;obtain⟨ms,em⟩:=G.ft.lst;have B:q≠mt:=(aO em m.nw).symm;refine cq x _ dx _ _ Z h1.hx T.ba T.jb Z ?_;cases e with
 | true=>exact ke rfl q H1 m.nw h1 m.at_
 | false =>
  obtain⟨hf,bg,k⟩:=kf rfl;have ok:=G.tn.koS;have L:∀b' C,q≠b'->Hr t M C x dx o b' mt D pl (aN D s c).1 (aN D s c).1.f.isSome->C q=some (.lst ((aN D s c).2.map V.int))->Q (.ref q) C:=λb' C=>k q b' C m.nw;refine⟨a,Z,⟨_,h1.sb.seq ha⟩,iS (K:=K) (a:=a) (xs:=c.map V.int) (λi σ C=>∃(b':Addr) (v3:Option V),(aN D s (c.take i)).1.f=none/\Hr t M C x dx o b' mt D pl (aN D s (c.take i)).1 false/\q≠b'/\C q=some (.lst ((aN D s (c.take i)).2.map V.int))/\σ=[some (.ref x),some (.ref a),some (.ref q),v3])
   ⟨b,_,hf,h1,(aO G.hb m.nw).symm,m.at_,rfl⟩ (λi σ C _ z=>by obtain⟨b',v3,_,h',_⟩:=z;exact h'.sb.seq ha) ?_ ?_⟩
  ·rintro i v σ O hv ⟨b',v3,N,r,n,g,rfl⟩;obtain⟨y,hy,rfl⟩:=eX hv;have hi:i<c.length:=(Vh.mp hy).1;have I:=Y y (Vo hy);obtain⟨aA,a6⟩:=t5 ok (c.take i) s hf G.pg bg (λz hz=>Y z (Wb hz)) N;have j:aN D s (c.take (i+1))=((bn D (aN D s (c.take i)).1 y).1,(aN D s (c.take i)).2++(bn D (aN D s (c.take i)).1 y).2):=by
    rw[fh hy,qi,hV D N];simp[aN]
   refine⟨.inl ⟨rfl,_,.of g⟩,?_⟩;refine bL x dx _ Z r.hx Z ⟨wo O [x,b',mt],x,dx,o,b',mt,D,pl,_,y,Z,r.side,N,a6,I.1,I.2,λq2 b2 H4 ay af h4 a5=>?_⟩;have U:=h4.sb _ _ (j4 J n B g);have ll:=qg D (c.take i) s;rw[Vk]at ll;have l1:=BG D (aN D s (c.take i)).1 y;refine gf U a5 (cQ (by rw[U9,U9];lia)) ?_;have l:b2≠q:=λz=>by
    have:=j4 (H:=O) J n B g;have S:=h4.fb;rw[z]at S;rw[S]at this;cases this
   have sw:aj M (wo O [x,b',mt]):=j3 r.sb r.fx r.fb r.fm;have d:=h4.back sw G.tn;have h5:Hr t M (upd H4 q (.lst ((aN D s (c.take i)).2.map V.int++(bn D (aN D s (c.take i)).1 y).2.map V.int))) x dx o b2 mt D pl (bn D (aN D s (c.take i)).1 y).1 (bn D (aN D s (c.take i)).1 y).1.f.isSome:=by
    refine⟨d.tn,d.sb.put fq,d.fx,d.fb,d.fm,d.nbm,by rw[au J.symm];exact d.hx,by rw[au l];exact d.hb,?_,d.pg,d.lc⟩;have ft:=d.ft;cases ef:(bn D (aN D s (c.take i)).1 y).1.f with
    | none=>rw[ef]at ft;show upd _ _ _ _=_;rw[au B.symm];exact ft
    | some z =>
     rw[ef]at ft;obtain⟨p,e1,e2⟩:=ft;exact⟨p,by rw[au B.symm];exact e1,by rw[au (cA e2 U (by intro z;cases z))];exact e2⟩
   have R:upd H4 q (.lst ((aN D s (c.take i)).2.map V.int++(bn D (aN D s (c.take i)).1 y).2.map V.int)) q=some (.lst ((aN D s (c.take (i+1))).2.map V.int)):=by rw[aX,j,Vj]
   refine cq x _ dx _ _ Z h5.hx T.ba T.jb Z ?_;refine ak (λz=>?_) (λz=>?_)
   ·have ew:aN D s c=aN D s (c.take (i+1)):=by
     have:aN D s c=aN D s (c.take (i+1)++c.drop (i+1)):=by rw[V8]
     rw[this,qi];rw[gF D (by rw[j];exact z)];simp
    rw[ew]at L;refine L b2 _ l.symm ?_ R;rw[j];exact h5
   ·have z':(bn D (aN D s (c.take i)).1 y).1.f=none:=by
     cases ef:(bn D (aN D s (c.take i)).1 y).1.f with
     | none=>rfl
     | some u=>rw[ef]at z;exact Ya Z z
    have W:=h5;rw[z']at W;refine⟨b2,_,by rw[j];exact z',?_,l.symm,R,Z⟩;rw[j];exact W
  ·rintro σ O ⟨b',v3,N,r,n,g,rfl⟩;rw[U9,Vw]at N r g;refine L b' O n ?_ g;rw[N];exact r
def jj(s:Rs):Rs:=if s.r=[] then s else { s with f:=some (s.c-s.r.length,s.r.length, "short") }
def Hr.over{j H:Hp}{x dx o b mt:Addr}{D:Kt}{pl:Int}{s:Rs}{e:Bool}(h:Hr t j H x dx o b mt D pl s e):Hr t j (upd H x (fK t dx o b mt pl s.g (s.c:Int) true)) x dx o b mt D pl s true:=by
 have d:b≠x:=cA h.hb h.hx (by intro z;cases z);refine⟨h.tn,h.sb.put h.fx,h.fx,h.fb,h.fm,h.nbm,aX,by rw[au d];exact h.hb,?_,h.pg,h.lc⟩;have ft:=h.ft;obtain⟨ms,k⟩:=ft.lst;have a:mt≠x:=cA k h.hx (by intro z;cases z);cases ef:s.f with
 | none=>rw[ef]at ft;show upd _ _ _ _=_;rw[au a];exact ft
 | some z =>
  rw[ef]at ft;obtain⟨p,l,i⟩:=ft;exact⟨p,by rw[au a];exact l,by rw[au (cA i h.hx (by intro z;cases z))];exact i⟩
def HU(t:Adr):Sp:=λvs H Q _=>∃(a:Hp) (x dx o b mt:Addr) (D:Kt) (pl:Int) (s:Rs) (e:Bool),vs=[.ref x]/\Hr t a H x dx o b mt D pl s e/\(e=false->s.f=none)/\∀q H',H q=none->Hr t a H' x dx o b mt D pl (if e=true then s else jj s) true->H' q=some (.lst [])->Q (.ref q) H'
def uN (T:Txt w K mg t):cW P w K mg base t.bH "end" 3 t.zf t.wH ["self"] (HU t):=by
 refine⟨T.ba,T.MD,T.Tm,T.Ui.okQ Be (λvs H Q E h=>by obtain⟨u,x,dx,o,b,mt,D,pl,s,e,rfl,_⟩:=h;rfl) λ_ _ _ _ H vs Q E m h=>?_⟩;obtain⟨u,x,dx,o,b,mt,D,pl,s,e,rfl,d,hf,k⟩:=h;have B:=m.units;have hx:=d.hx;refine⟨_,(ah (aD (ip (K:=K) Z (bq (K:=K) Z (aa 0))) (ai (aq (aM ae))) aG)
  (ah (aF (i:=1) Be.nd rfl (.inl rfl) (i9 (ip (K:=K) rfl (bq (K:=K) rfl (aa 0))) (fA (uL T) m (aa 0) (ad (bf (U2 K) T.n_len Ve (ad (bq (K:=K) rfl (aa 0)) ae)) (ad bc ae))) (aM ae)))
  (ah (dS (K:=K) rfl (aa 0) dQ)
  (ai (aq (aa 1)))))),?_⟩
 refine cq x _ dx _ _ Z hx T.ba T.jb Z ?_;cases e with
 | true=>exact⟨sz rfl,λp g a=>k p g a.nw (d.grow a.sm) a.at_⟩
 | false =>
  have hf:=hf rfl;rw[X8 Vn]at k;refine⟨x,_,dx,_,_,Z,hx,T.ba,T.fE,Z,_,.inl (.of d.hb),?_⟩;unfold jj at k;by_cases c:s.r=[]
  ·rw[X9 c]at k;have j:s.r.map V.int=[]:=by rw[c];rfl
   rw[j];refine⟨sz Z,λp g a=>?_⟩;have f:=d.grow a.sm;refine dl x _ dx _ rfl f.hx T.ba T.jb (Vd (Vv 7) (by decide)) ?_;exact k p _ a.nw f.over (by rw[au (aO hx a.nw).symm];exact a.at_)
  ·rw[X8 c]at k;obtain⟨n,v,j⟩:∃n v,s.r.map V.int=n::v:=by
    cases e:s.r with
    | nil=>exact Ya e c
    | cons y ys=>exact⟨_,_,rfl⟩
   rw[j];refine bL x dx _ Z hx Z ?_;refine cq x _ dx _ _ Z hx T.ba T.fE Z ?_;refine aS (.inl (.of d.hb)) ?_;rw[U9];refine⟨u,x,dx,o,b,mt,D,pl,s,s.r.length, "short",Z,d,hf,λq g l f z=>?_⟩;refine dl x _ dx _ rfl f.hx T.ba T.jb (Vd (Vv 7) (by decide)) ?_;exact k q _ l f.over (by rw[au (aO hx l).symm];exact z)
def HN(t:Adr):Sp:=λvs H Q _=>∃(x dx o b mt:Addr) (pl g c:Int) (e:Bool) (xs:List V),vs=[.ref x]/\H x=some (fK t dx o b mt pl g c e)/\H mt=some (.lst xs)/\∀p H',bz H p (.lst xs) H'->Q (.ref p) H'
def n5 (T:Txt w K mg t):cW P w K mg base t.bH "faults" 1 t.ze t.wG ["self"] (HN t):=by
 refine⟨T.ba,T.MC,T.Tl,T.Uh.okQ Jk (λvs H Q E h=>by obtain⟨x,dx,o,b,mt,pl,g,c,e,xs,rfl,_⟩:=h;rfl) λ_ _ _ _ H vs Q E d h=>?_⟩;obtain⟨x,dx,o,b,mt,pl,g,c,e,xs,rfl,hx,a,k⟩:=h;refine⟨_,(ai (aq (cw (U5 K) T.n_list VL (ad (bq (K:=K) Z (aa 0)) ae)))),?_⟩;refine cq x _ dx _ _ Z hx T.ba T.ug Z ?_;exact⟨_,.inl (.of a),k⟩
def Hw(t:Adr):Sp:=λvs H Q _=>∃(x dx o b mt:Addr) (pl g c:Int) (e:Bool),vs=[.ref x]/\H x=some (fK t dx o b mt pl g c e)/\Q (.int g) H
def De (T:Txt w K mg t):cW P w K mg base t.bH "page" 1 t.y6 t.wx ["self"] (Hw t):=by
 refine⟨T.ba,T.Ms,T.Tb,T.T8.okQ Je (λvs H Q E h=>by obtain⟨x,dx,o,b,mt,pl,g,c,e,rfl,_⟩:=h;rfl) λ_ _ _ _ H vs Q E a h=>?_⟩;obtain⟨x,dx,o,b,mt,pl,g,c,e,rfl,hx,k⟩:=h;exact⟨_,(ai (aq (bq (K:=K) Z (aa 0)))),x,_,dx,_,_,Z,hx,T.ba,T.jc,Z,k⟩
def HM(t:Adr):Sp:=λvs H Q _=>∃(x dx o b mt:Addr) (pl g c:Int) (e:Bool) (xs:List V),vs=[.ref x]/\H x=some (fK t dx o b mt pl g c e)/\H b=some (.lst xs)/\Q (.int (xs.length:Int)) H
def OS (T:Txt w K mg t):cW P w K mg base t.bH "held" 1 t.zc t.wE ["self"] (HM t):=by
 refine⟨T.ba,T.MA,T.Tj,T.Uf.okQ Jj (λvs H Q E h=>by obtain⟨x,dx,o,b,mt,pl,g,c,e,xs,rfl,_⟩:=h;rfl) λ_ _ _ _ H vs Q E a h=>?_⟩;obtain⟨x,dx,o,b,mt,pl,g,c,e,xs,rfl,hx,hb,k⟩:=h;exact⟨_,(ai (aq (bf (U2 K) T.n_len Ve (ad (bq (K:=K) Z (aa 0)) ae)))),x,_,dx,_,_,Z,hx,T.ba,T.fE,Z,_,.inl (.of hb),k⟩
def Hf(t:Adr):Sp:=λvs H Q _=>∃(x dx o b mt:Addr) (pl g c:Int) (e:Bool),vs=[.ref x]/\H x=some (fK t dx o b mt pl g c e)/\Q (.int c) H
def ON (T:Txt w K mg t):cW P w K mg base t.bH "taken" 1 t.yZ t.wv ["self"] (Hf t):=by
 refine⟨T.ba,T.Mq,T.S9,T.T6.okQ Jc (λvs H Q E h=>by obtain⟨x,dx,o,b,mt,pl,g,c,e,rfl,_⟩:=h;rfl) λ_ _ _ _ H vs Q E a h=>?_⟩;obtain⟨x,dx,o,b,mt,pl,g,c,e,rfl,hx,k⟩:=h;exact⟨_,(ai (aq (bq (K:=K) Z (aa 0)))),x,_,dx,_,_,Z,hx,T.ba,T.qy,Z,k⟩
def Hy(t:Adr):Sp:=λvs H Q _=>∃(x dx o b mt:Addr) (pl g c:Int) (e:Bool),vs=[.ref x]/\H x=some (fK t dx o b mt pl g c e)/\Q (.bl e) H
def uK (T:Txt w K mg t):cW P w K mg base t.bH "over" 1 t.y7 t.wy ["self"] (Hy t):=by
 refine⟨T.ba,T.Mu,T.Tc,T.T9.okQ Jf (λvs H Q E h=>by obtain⟨x,dx,o,b,mt,pl,g,c,e,rfl,_⟩:=h;rfl) λ_ _ _ _ H vs Q E a h=>?_⟩;obtain⟨x,dx,o,b,mt,pl,g,c,e,rfl,hx,k⟩:=h;exact⟨_,(ai (aq (bq (K:=K) Z (aa 0)))),x,_,dx,_,_,Z,hx,T.ba,T.jb,Z,k⟩
def aQ:Rs:=⟨0,[],0,none⟩
def CS{a c:Hp}{x dx o b mt:Addr}{D:Kt}{pl:Int}(tn:TN t a o D)(s1:aj a c)(fx:a x=none)(fb:a b=none)(fm:a mt=none)(nbm:b≠mt)(hx:c x=some (fK t dx o b mt pl 0 0 false))(hb:c b=some (.lst []))(d:c mt=some (.lst [])):Hr t a c x dx o b mt D pl aQ false:=⟨tn,s1,fx,fb,fm,nbm,hx,hb,d,mC D,Va _⟩
def HV(C:Addr)(names:List Str):Sp:=λvs H Q _=>∃e us,vs=.ref e::us/\us.length=names.length/\H e=some (XN e C none)/\∀d0 H',H' e=some (XN e C (some d0))->H' d0=some (.xd (names.zip us))->(∀b o,b≠e->H b=some o->H' b=some o)->Q .non H'
def N5 (T:Txt w K mg t):EE P w K mg base "Faulty" t.dD 1 t.sO t.wL ["self", "place", "length", "kind"] (HV t.dD ["place", "length", "kind"]):=by
 refine⟨T.mN,⟨T.jT,T.oR,T.oQ,T.oN⟩,T.Tw,T.Us.okQ Jq (λvs H Q E h=>by obtain⟨e,us,rfl,g,_⟩:=h;rw[Vt,g];rfl) λ_ _ _ _ H vs Q E j h=>?_⟩;obtain⟨e,us,rfl,g,hx,k⟩:=h;obtain⟨f,d,c,rfl⟩:∃f d c,us=[f,d,c]:=match us,g with|[f,d,c],_=>⟨f,d,c,rfl⟩
 have S:zn K t.dD:=⟨T.jT,T.jx,T.oM⟩;refine⟨_,(ah (cY (J6 (K:=K) Z ⟨T.eb_0,T.eb_1,T.eb_2⟩ T.mM (ad (aa 0) (ad bc ae))))
  (ah (tV (K:=K) rfl (aa 0) (aa 1))
  (ah (tV (K:=K) rfl (aa 0) (aa 2))
  (ai (tV (K:=K) rfl (aa 0) (aa 3)))))),?_⟩
 refine⟨Vu Z,_,_,hx,T.jT,?_⟩;refine⟨e,_,_,rfl,hx,S,T.en_Faulty_place,λ_ d0 hd a=>?_,(λd0 z=>by cases z)⟩;refine⟨e,_,_,rfl,aX,S,T.en_Faulty_length,(λz=>by cases z),λd1 z=>?_⟩;cases z;refine cM (by rw[au a];exact aX) (Vd (Vv _) (Vu Z)) ?_;refine⟨e,_,_,rfl,(by rw[au (Ne.symm a)];exact aX),S,T.en_Faulty_kind,(λz=>by cases z),λd1 z=>?_⟩;cases z;refine cM aX (Vd (Vv _) (Vu Z)) ?_;refine k d0 _ ?_ ?_ (λb o i q=>?_)
 ·simp only [au (Ne.symm a),aX]
 ·first|exact aX|(simp only [au a,aX];rfl)
 ·have nd:b≠d0:=aO q hd;simp only [au i,au nd];exact q
noncomputable def bF(D:Kt)(row:e7):Rs:=if (aN D aQ row).1.f.isSome=true then (aN D aQ row).1 else jj (aN D aQ row).1
def Hq(K:PySem.W.Frag)(t:Adr)(C:Addr):Sp:=λvs H Q E=>∃(o a:Addr) (D:Kt) (row:e7),vs=[.ref o,.ref a]/\TN t H o D/\aH K H a (row.map V.int)/\bp row/\row.length<=1000 /\
 ((bF D row).f=none->∀q H',aj H H'->H q=none->H' q=some (.lst ((aN D aQ row).2.map V.int))->Q (.ref q) H') /\
 (∀p l k,(bF D row).f=some (p,l,k)->∀e d0 H',aj H H'->H' e=some (XO e C (some d0))->H' d0=some (.xd [("place",.int (p:Int)),("length",.int (l:Int)),("kind",.str k)])->E (.ref C) (some e) H')
def NT (T:Txt w K mg t):ED P w K mg base "read" 12 t.yA t.vT ["tongue", "row"] [] (Hq K t t.dD):=by
 refine⟨T.PM,T.Fc.kp,⟨_,T.SA,.nil⟩,T.Fc.okX pZ (λvs H Q E h=>by obtain⟨o,a,D,row,rfl,_⟩:=h;rfl) λ_ _ _ _ H vs Q E m h=>?_⟩;obtain⟨o,a,D,row,rfl,tn,ha,hb,lr,kq,ke⟩:=h;have hu:=m.units;refine⟨_,(ah (aF (i:=2) pZ.nd Z (.inl Z) (nK (NW T) m (ad (aa 0) ae)))
  (ah (aF (i:=3) pZ.nd rfl (.inl rfl) (fA (uM T) m (aa 2) (ad (aa 1) ae)))
  (ah (cY (cC (uN T) m (aa 2)))
  (ah (aD (ip (K:=K) rfl (cC (n5 T) m (aa 2))) (ah (aF (i:=4) pZ.nd rfl (.inl rfl) (ay (U3 K) (cC (n5 T) m (aa 2)) ag (λ_ _=>rfl)))
  (ai (JS (Es:=λ_=>E) (N5 T) m rfl Nj (ad (ay (U3 K) (aa 4) ag (λ_ _=>rfl)) (ad (ay (U3 K) (aa 4) ag (λ_ _=>rfl)) (ad (ay (U3 K) (aa 4) ag (λ_ _=>rfl)) ae)))))) aG)
  (ai (aq (aa 3))))))),?_⟩
 refine λx dx hx U ao=>?_;have sm:=i7 (C:=t.bH) hx U;refine⟨x,dx,o,0,rfl,aX,λb mt H1 p nm nbm k1 k I s=>⟨rfl,?_⟩⟩;have s1:aj H H1:=λa u e=>k1 a u (aO e hx) (sm a u e);have h1:=CS (pl:=0) tn s1 hx (sm.free p) (sm.free nm) nbm k I s;refine bL x dx _ rfl k rfl ⟨H,x,dx,o,b,mt,a,D,0,aQ,false,row,rfl,h1,ha,hb,lr,(λz=>nomatch z),λ_=>⟨rfl,cu.nil _ _,λq b' B F L n hq=>?_⟩⟩;have J:q≠x:=(aO k F).symm;have S:q≠mt:=(aO s F).symm;have O:=j4 (H:=B) J L S hq;have sw:aj H (wo B [x,b',mt]):=j3 n.sb n.fx n.fb n.fm;dsimp only [bU];refine bO (λY H'=>Hr t (wo B [x,b',mt]) H' x dx o b' mt D 0 (bF D row) true/\Y=[some (.ref o),some (.ref a),some (.ref x),some (.ref q),none]) (λnx hn=>?_) ?_
 ·refine⟨x,dx,_,Z,n.hx,Z,wo B [x,b',mt],x,dx,o,b',mt,D,0,_,_,Z,n.side,λz=>?_,λq3 G al c _=>hn _ _ ⟨c,Z⟩⟩;cases ef:(aN D aQ row).1.f with
  | none=>rfl
  | some u=>rw[ef]at z;cases z
 rintro Y G ⟨c,rfl⟩;have M:=c.sb _ _ O;have v:aj H G:=sw.trans c.sb;have fq:H q=none:=s1.free F;cases ef:(bF D row).f with
 | none =>
  have ft:=c.ft;rw[ef]at ft;have ft:G mt=some (.lst []):=ft;refine bL x dx _ Z c.hx Z (i5 λzq r=>⟨x,dx,o,b',mt,0,_,_,true,_,Z,c.hx,ft,λp4 H4 g=>r _ _ ?_⟩);refine aS (.inl g.lst) ?_;exact kq ef q H4 (v.trans g.sm) fq (g.sm _ _ M)
 | some z =>
  obtain⟨pp,l,kd⟩:=z;have ft:=c.ft;rw[ef]at ft;obtain⟨fa,ft,R⟩:=ft;refine bL x dx _ Z c.hx Z (i5 λzq r=>⟨x,dx,o,b',mt,0,_,_,true,_,Z,c.hx,ft,λp4 H4 g=>r _ _ ?_⟩);refine aS (.inl g.lst) ?_;refine bL x dx _ Z (g.sm _ _ c.hx) Z (i5 λzq r=>⟨x,dx,o,b',mt,0,_,_,true,_,Z,g.sm _ _ c.hx,g.sm _ _ ft,λp5 H5 N=>r _ _ ?_⟩);refine aU _ (.ref fa) (.inl N.lst) (aA (j:=0) Z) ?_;have d:=N.sm _ _ (g.sm _ _ R);refine aU _ (.int ((0:Int)+(pp:Int))) (.inr (.of d)) (aA (j:=0) Z) ?_;refine aU _ (.int (l:Int)) (.inr (.of d)) (aA (j:=1) Z) ?_;refine aU _ (.str kd) (.inr (.of d)) (aA (j:=2) Z) ?_;have V:=v.trans (g.sm.trans N.sm);refine⟨Vu rfl,λe he=>⟨e,_,rfl,rfl,aX,λd0 H' W y z1=>⟨rfl,e,some d0,rfl,W,?_⟩⟩⟩;have ne:d0≠e:=λz=>by rw[z,W]at y;cases y
  refine ke pp l kd ef e d0 _ (λb o q=>?_) aX ?_
  ·have q2:=V _ _ q;have p:=aO q2 he;rw[au p];exact z1 b o p (by rw[au p];exact q2)
  ·rw[au ne];rw[show ((0:Int)+(pp:Int))=(pp:Int) by lia]at y;exact y
end
end My
namespace My
open PySem L2
abbrev Wd:=Str × e7 × Int
abbrev Sn:=Nat × e7 × Int × Int
def cg(D:Kt):Int->List Ev->List Wd
 | _,[]=>[]
 | g,.sg n::es=>("sign",(bI D g n).1,g)::cg D (bI D g n).2 es
 | g,.ft _ _ k bs::es=>(k,bs,g)::cg D g es
def gj(D:Kt):Int->List Ev->Int
 | g,[]=>g
 | g,.sg n::es=>gj D (bI D g n).2 es
 | g,.ft _ _ _ _::es=>gj D g es
theorem qm(D:Kt):∀(xs ys:List Ev) (g:Int),cg D g (xs++ys)=cg D g xs++cg D (gj D g xs) ys
 | [],ys,g=>rfl
 | .sg n::xs,ys,g=>congrArg (_ :: ·) (qm D xs ys _)
 | .ft _ _ _ _::xs,ys,g=>congrArg (_ :: ·) (qm D xs ys _)
theorem nO(D:Kt):∀(xs ys:List Ev) (g:Int),gj D g (xs++ys)=gj D (gj D g xs) ys
 | [],ys,g=>rfl
 | .sg n::xs,ys,g=>nO D xs ys _
 | .ft _ _ _ _::xs,ys,g=>nO D xs ys _
noncomputable def bt(D:Kt):Rs->e7->List Sn
 | _,[]=>[]
 | s,v::ws=>if s.f.isSome=true then [] else (bn D s v).2.map (λn=>(s.c+1,s.r++[v],s.g,n))++bt D (bn D s v).1 ws
def ja(D:Kt){s:Rs}(h:s.f.isSome=true)(a:e7):bt D s a=[]:=by
 cases a with
 | nil=>rfl
 | cons v a=>exact X9 h
def nM(D:Kt){s:Rs}(h:s.f=none)(v:Int)(a:e7):bt D s (v::a)=(bn D s v).2.map (λn=>(s.c+1,s.r++[v],s.g,n))++bt D (bn D s v).1 a:=X8 (by rw[h];decide)
def none_of{s:Rs}(h:¬s.f.isSome=true):s.f=none:=by
 cases e:s.f with
 | none=>rfl
 | some _=>rw[e]at h;exact Ya Z h
theorem nL(D:Kt):∀(a:e7) (s:Rs),(bt D s a).map (λx=>x.2.2.2)=(aN D s a).2
 | [],s=>rfl
 | v::a,s=>by
  by_cases h:s.f.isSome=true
  ·rw[ja D h,gF D h];rfl
  ·rw[nM D (none_of h),hV D (none_of h),Vj,nL D a,Wo];simp[Function.comp_def]
theorem t0(D:Kt):∀(xs ys:e7) (s:Rs),bt D s (xs++ys)=bt D s xs++bt D (aN D s xs).1 ys
 | [],ys,s=>rfl
 | v::xs,ys,s=>by
  by_cases h:s.f.isSome=true
  ·rw[ja D h,ja D h,gF D h,ja D h];rfl
  ·rw[WV,nM D (none_of h),nM D (none_of h),hV D (none_of h),t0 D xs,VF]
theorem qh(D:Kt):∀(a:e7) (s:Rs),s.f=none->(aN D s a).1.f=none->(aN D s a).1.c=s.c+a.length
 | [],s,_,_=>rfl
 | v::a,s,h,h2=>by
  rw[hV D h]at h2 ⊢;cases e:(bn D s v).1.f with
  | some z=>rw[gF D (by rw[e];rfl)]at h2;rw[e]at h2;cases h2
  | none =>
   have:=qh D a _ e h2;rw[tZ]at this;rw[Vt];show (aN D (bn D s v).1 a).1.c=_;lia
theorem qf(D:Kt):∀(a:e7) (s:Rs),∀x∈bt D s a,s.c<x.1/\x.1<=s.c+a.length
 | [],s,x,h=>nomatch h
 | v::a,s,x,hx=>by
  by_cases h:s.f.isSome=true
  ·rw[ja D h]at hx;cases hx
  ·rw[nM D (none_of h)]at hx;rw[Vt];rcases Vm.mp hx with hx|hx
   ·obtain⟨n,_,rfl⟩:=VC.mp hx;show s.c<s.c+1/\s.c+1<=_;lia
   ·have:=qf D a _ x hx;rw[tZ]at this;lia
noncomputable def jh(D:Kt)(s:Rs)(ws:e7):Rs:=if (aN D s ws).1.f.isSome=true then (aN D s ws).1 else jj (aN D s ws).1
def Kd(k:Str):Prop:=k = "short"\/k = "broken"\/k = "strange"
inductive gP (D:Kt):Nat->Int->List Wd->List Sn->Rs->Prop where
 | nil {p:Nat} {g:Int} {z:Rs} (h1:z.f=none) (h2:z.r=[]) (h3:z.c=p) (h4:z.g=g):gP D p g [] [] z
 | bad {p:Nat} {g:Int} {k:Str} {xs:e7} {R:List Wd} {z:Rs} (hk:Kd k) (h1:z.f=some (p,xs.length,k)) (h2:z.r.length=xs.length+(if k = "broken" then ap D else 0)) (h3:z.c=p+z.r.length) (h4:z.g=g):gP D p g ((k,xs,g)::R) [] z
 | sg {p:Nat} {bs:e7} {g n:Int} {R:List Wd} {S:List Sn} {z:Rs} (hn:dM D n) (pg:bZ D g) (e:(bI D g n).1=bs) (by':bp bs) (h:gP D (p+bs.length) (bI D g n).2 R S z):gP D p g (("sign",bs,g)::R) ((p+bs.length,bs,g,n)::S) z
theorem qI{D:Kt}(ok:cV D):∀(bs:e7) (s:Rs),s.f=none->bZ D s.g->cu D s.g s.r->s.r.length<=s.c->bp bs->gP D (s.c-s.r.length) s.g (cg D s.g (dC D s.g s.r s.c bs)) (bt D s bs) (jh D s bs)
 | [],s,hf,pg,bg,lc,_=>by
  have I:dC D s.g s.r s.c []=jk s.c s.r:=by show []++jk (s.c+0) s.r=_;rw[Xm,Nat.add_zero]
  have C:jh D s []=jj s:=X8 (by show ¬s.f.isSome=true;rw[hf];decide);rw[I,C];unfold jk jj;by_cases z:s.r=[]
  ·rw[X9 z,X9 z];exact .nil hf z (by rw[z];rfl) rfl
  ·rw[X8 z,X8 z];exact .bad (z:={ s with f:=some (s.c-s.r.length,s.r.length, "short") }) (.inl rfl) rfl (by rw[X8 (by decide)];rfl) (by show s.c=_+s.r.length;lia) rfl
 | v::bs,s,hf,pg,bg,lc,hb=>by
  have h:=hb v (Vz ..);have l:bp bs:=λx hx=>hb x (Vx _ hx);have i:(s.r++[v]).length=s.r.length+1:=by rw[Vc];rfl
  rw[QJ,nM D hf];cases ef:(bn D s v).1.f with
  | none =>
   have es:=Az hf ef;obtain⟨o,j⟩:=BF ok hf pg bg h.1 h.2 ef;have q:=tZ D s v;have d:jh D s (v::bs)=jh D (bn D s v).1 bs:=by unfold jh;rw[hV D hf]
   rw[es,d];have key:((bn D s v).2=[]/\(bn D s v).1.g=s.g/\(bn D s v).1.r=s.r++[v])\/∃n,(bn D s v).2=[n]/\(bn D s v).1.r=[]/\dM D n/\bI D s.g n=(s.r++[v],(bn D s v).1.g):=by
    unfold bn at ef ⊢;by_cases c:(s.r++[v]).length%ap D=0
    ·rw[X9 c]at ef ⊢;unfold iu at ef ⊢;dsimp only at ef ⊢;cases e:aY D s.g (s.r++[v]) with
     | no=>rw[e]at ef;cases ef
     | mo=>exact .inl ⟨rfl,rfl,rfl⟩
     | sg n g' =>
      obtain⟨a,b,_⟩:=mI ok pg (oU bg h.1 h.2) e;exact .inr ⟨n,Z,Z,a,b⟩
    ·rw[X8 c];exact .inl ⟨rfl,rfl,rfl⟩
   rcases key with ⟨a1,a2,a3⟩|⟨n,a1,a2,a3,a4⟩
   ·have ih:=qI ok bs _ ef o j (by rw[a3,q,i];lia) l;rw[a1];rw[q]at ih;rw[show s.c+1-(bn D s v).1.r.length=s.c-s.r.length by rw[a3,i];lia,a2]at ih;rw[a2];exact ih
   ·have ih:=qI ok bs _ ef o j (by rw[a2];exact Vq _) l;rw[a1];rw[q,a2]at ih;have B:s.c-s.r.length+(s.r++[v]).length=s.c+1:=by rw[i];lia
    have k:=gP.sg (D:=D) (p:=s.c-s.r.length) (bs:=s.r++[v]) (g:=s.g) (n:=n) (R:=cg D (bn D s v).1.g (dC D (bn D s v).1.g [] (s.c+1) bs)) (S:=bt D (bn D s v).1 bs) (z:=jh D (bn D s v).1 bs) a3 pg (by rw[a4]) (ib (bg.byts pg).1 h.1 h.2) (by rw[B,a4];exact ih);rw[B]at k;show gP D _ _ (cg D s.g (.sg n::dC D (bn D s v).1.g (bn D s v).1.r (s.c+1) bs)) _ _;simp only [cg];rw[a4,a2];exact k
  | some z =>
   have d:jh D s (v::bs)=(bn D s v).1:=by
    unfold jh;rw[hV D hf,gF D (by rw[ef];rfl),X9 (by rw[ef];rfl)]
   rw[d,ja D (by rw[ef];rfl)];have y:(s.r++[v]).length%ap D=0/\aY D s.g (s.r++[v])=.no:=by
    unfold bn at ef;by_cases c:(s.r++[v]).length%ap D=0
    ·rw[X9 c]at ef;unfold iu at ef;dsimp only at ef;refine⟨c,?_⟩;cases e:aY D s.g (s.r++[v]) with
     | no=>rfl
     | mo=>rw[e]at ef;rw[hf]at ef;cases ef
     | sg n g'=>rw[e]at ef;rw[hf]at ef;cases ef
    ·rw[X8 c]at ef;rw[hf]at ef;cases ef
   obtain⟨c,no⟩:=y;have F:bn D s v=({ s with r:=s.r++[v],c:=s.c+1,f:=some (s.c+1-(s.r++[v]).length,ir D (s.r++[v])) },[]):=by
    unfold bn;rw[X9 c];unfold iu;dsimp only;rw[no]
   rw[F];have G:=jy D;have J:ap D<=(s.r++[v]).length:=by
    rcases Wt (s.r++[v]).length (ap D) with z|z
    ·rw[WO z]at c;lia
    ·exact z
   have m:s.c+1-(s.r++[v]).length=s.c-s.r.length:=by rw[i];lia
   unfold bD;rw[X9 c];by_cases one:(s.r++[v]).length=ap D
   ·rw[X9 one];unfold h8;rw[no];have u:ir D (s.r++[v])=((s.r++[v]).length,("strange" : Str)):=X9 (by lia);rw[u,m];exact .bad (z:={ s with r:=s.r++[v],c:=s.c+1,f:=some (s.c-s.r.length,(s.r++[v]).length, "strange") }) (.inr (.inr rfl)) rfl (by rw[X8 (by decide)];rfl) (by show s.c+1=_+(s.r++[v]).length;rw[i];lia) rfl
   ·rw[X8 one];unfold nW;rw[no];have u:ir D (s.r++[v])=((s.r++[v]).length-ap D,("broken" : Str)):=X8 (by lia);rw[u,m];have lt:((s.r++[v]).take ((s.r++[v]).length-ap D)).length=(s.r++[v]).length-ap D:=by rw[Vk];lia
    exact .bad (z:={ s with r:=s.r++[v],c:=s.c+1,f:=some (s.c-s.r.length,(s.r++[v]).length-ap D, "broken") }) (.inr (.inl rfl)) (by rw[lt]) (by rw[lt,X9 rfl];show (s.r++[v]).length=_;lia) (by show s.c+1=_+(s.r++[v]).length;rw[i];lia) rfl
def cE(L:List Wd):Nat:=(L.map λx=>x.2.1).flatten.length
def nV(x:Wd)(L:List Wd):cE (x::L)=x.2.1.length+cE L:=by unfold cE;rw[VM,WB,Vc]
def Nf {D:Kt} {p:Nat} {g:Int} {W:List Wd} {S:List Sn} {z:Rs} (h:gP D p g W S z):∀i x,W[i]? = some x->i<=S.length->(∃y,S[i]? = some y/\x.1=("sign" : Str)/\y.2.1=x.2.1/\y.2.2.1=x.2.2/\y.1=p+cE (W.take (i+1)))\/(i=S.length/\Kd x.1/\z.f=some (p+cE (W.take i),x.2.1.length,x.1)/\z.g=x.2.2/\z.r.length=x.2.1.length+(if x.1=("broken" : Str) then ap D else 0)/\z.c=p+cE (W.take i)+z.r.length):=by
 induction h with
 | nil=>exact λi x h=>by cases h
 | @bad p g k xs R z hk h1 h2 h3 h4 =>
  intro i x hx a;obtain rfl:i=0:=by simpa using a
  cases hx;exact .inr ⟨rfl,hk,h1,h4,h2,h3⟩
 | @sg p bs g n R S z hn pg e by' k ih =>
  intro i x hx a;cases i with
  | zero =>
   cases hx;refine .inl ⟨_,Z,Z,Z,Z,?_⟩;show p+bs.length=p+cE [_];rw[nV];rfl
  | succ i =>
   have a:i<=S.length:=by simpa using a
   rcases ih i x hx a with ⟨y,h1,h2,h3,h4,h5⟩|⟨h1,h2,h3,h4,h5,h6⟩
   ·refine .inl ⟨y,h1,h2,h3,h4,?_⟩;rw[h5,Xz,nV];show p+bs.length+_=p+(bs.length+_);lia
   ·refine .inr ⟨by rw[h1];rfl,h2,?_,h4,h5,?_⟩
    ·rw[h3,Xz,nV];show some (p+bs.length+_,_,_)=some (p+(bs.length+_),_,_);rw[Xw]
    ·rw[h6,Xz,nV];show p+bs.length+_+_=p+(bs.length+_)+_;lia
def Ct{D:Kt}{p:Nat}{g:Int}{W:List Wd}{S:List Sn}{z:Rs}(h:gP D p g W S z):∀y∈S,dM D y.2.2.2/\bZ D y.2.2.1/\(bI D y.2.2.1 y.2.2.2).1=y.2.1/\bp y.2.1:=by
 induction h with
 | nil=>exact λy h=>by cases h
 | bad=>exact λy h=>by cases h
 | sg hn pg e by' k ih =>
  intro y a;rcases Vr.mp a with rfl|a
  ·exact⟨hn,pg,e,by'⟩
  ·exact ih y a
def Cu{D:Kt}{p:Nat}{g:Int}{W:List Wd}{S:List Sn}{z:Rs}(h:gP D p g W S z):S.length<=W.length/\(S.length=W.length->z.f=none/\z.r=[]/\z.c=p+cE W/\(S=[]->z.g=g)/\∀y,S.getLast? = some y->z.g=(bI D y.2.2.1 y.2.2.2).2):=by
 induction h with
 | nil h1 h2 h3 h4=>exact⟨Va _,λ_=>⟨h1,h2,h3,λ_=>h4,λy h=>by cases h⟩⟩
 | bad=>exact⟨Vq _,λh=>by simp at h⟩
 | @sg p bs g n R S z hn pg e by' k ih =>
  refine⟨Nat.succ_le_succ ih.1,λh=>?_⟩;obtain⟨a,b,c,d,f⟩:=ih.2 (VX h);refine⟨a,b,?_,λh=>(by cases h),λy i=>?_⟩
  ·rw[c,nV];show p+bs.length+_=p+(bs.length+_);lia
  ·cases S with
   | nil=>cases i;exact d Z
   | cons s S=>exact f y (by rw[<- i];simp[List.getLast?_cons])
end My
namespace My
open PySem L2
section
variable {P:Program}{w:World}{K:PySem.W.Frag}{mg:Str->Option Value}{base:Heap}{t:Adr}
abbrev PL:=List (Addr × Addr × Str × e7 × V)
def ie(H:Hp)(a:Addr)(L:PL):Prop:=H a=some (.lst (L.map λx=>V.ref x.1))/\∀x∈L,H x.1=some (.tup [.str x.2.2.1,.ref x.2.1,x.2.2.2.2])/\H x.2.1=some (.lst (x.2.2.2.1.map V.int))/\x.2.1≠a
def ie.more{H d:Hp}{e p q:Addr}{w:Str}{bs:e7}{v:V}{L:PL}(h:ie H e L)(s:aj H d)(j:d p=some (.tup [.str w,.ref q,v]))(k:d q=some (.lst (bs.map V.int)))(f:q≠e):ie (upd d e (.lst ((L.map λx=>V.ref x.1)++[.ref p]))) e (L++[(p,q,w,bs,v)]):=by
 have i:=s _ _ h.1;refine⟨by rw[aX,Vj];rfl,λx hx=>?_⟩;rcases Vm.mp hx with z|z
 ·obtain⟨a,b,c⟩:=h.2 x z;have g:=s _ _ a;exact⟨by rw[au (cA g i (by intro z;cases z))];exact g,by rw[au c];exact s _ _ b,c⟩
 ·rw[Vp.mp z];exact⟨by rw[au (cA j i (by intro z;cases z))];exact j,by rw[au f];exact k,f⟩
def ML{H:Hp}{p:Addr}{M:Md}(h:Mod H p M):∃D,Mt M D/\cV D:=by
 obtain⟨a,b,_,c⟩:=h;cases M with
 | ld=>exact⟨.ld,rfl,trivial⟩
 | pr b=>exact⟨.pr b,rfl,trivial⟩
 | sh ns ms=>exact⟨.sh ⟨p,p,p,p,p,p,p,p,p,p⟩ ns ms,⟨_,rfl⟩,c.2.2.1,c.2.2.2⟩
 | tb es=>exact⟨.tb ⟨p,p,p,p⟩ es,⟨_,rfl⟩,c.2.2⟩
 | br=>exact⟨.br,rfl,trivial⟩
def Ep{f:Fp}{ns ms:e7}{g n g':Int}{r:e7}(two:cP g)(i:dM (.sh f ns ms) n)(e:bI (.sh f ns ms) g n=(r,g')):(r.length=1/\g'=g)\/∃c,r=[254+(1-g),c]/\g'=1-g:=by
 obtain⟨j,k,d,_,a⟩:=tK two i;rw[tI d]at e;cases e;rcases a with ⟨b,rfl,_,_,h⟩|⟨c,rfl,_,_,h⟩
 ·exact .inl ⟨rfl,h⟩
 ·exact .inr ⟨c,Z,h.2⟩
def Ig(K:PySem.W.Frag):Sp:=λvs H Q _=>∃(p c:Addr) (M:Md) (D:Kt) (g:Int) (r:e7),vs=[.ref p,.ref c,.int g]/\Mod H p M/\Mt M D/\bZ D g/\aH K H c (r.map V.int)/\∀v:Int,(∀n g',dM D n->bI D g n=(r,g')->v=g')->Q (.int v) H
def C2 (T:Txt w K mg t):bC P w K mg base "_law_after" 1 t.yw t.vP ["_law_model_here", "_law_part", "_law_page"] (Ig K):=by
 refine⟨T.PC,T.E9.kp,T.Sx,T.E9.okQ IF (λvs H Q E h=>by obtain⟨p,c,M,D,g,r,rfl,_⟩:=h;rfl) λ_ _ _ _ H vs Q E q h=>?_⟩;obtain⟨p,c,M,D,g,r,rfl,⟨a,b,u,ct⟩,mt,pg,o,k⟩:=h;have m:=q.units;refine⟨_,(ah (aD (bY (fu (aw (bh (K:=K) Z m) (ay (U3 K) (aa 0) ag (λ_ _=>rfl)) bc (av _)) (fQ (aw (bh (K:=K) Z m) (bf (U2 K) T.n_len Ve (ad (aa 1) ae)) ag (av _))))) (ai (aq (aE dB (ay (U3 K) (aa 1) ag (λ_ _=>rfl)) ag))) aG)
  (ai (aq (aa 2)))),?_⟩
 refine aU _ (.str (cy M)) (.inr (.of u)) (aA (j:=0) Z) ?_;refine xS (aP (ua M)) (aP dU) ?_;have same:(∀ns ms,M ≠ .sh ns ms)->∀n g',dM D n->bI D g n=(r,g')->g=g':=λi n g' d e=>by
  cases M with
  | ld=>obtain rfl:D=.ld:=mt;cases e;rfl
  | pr b=>obtain rfl:D=.pr b:=mt;cases e;rfl
  | sh ns ms=>exact Ya rfl (i ns ms)
  | tb es =>
   obtain⟨f,rfl⟩:=mt;obtain⟨v,s,B,l⟩:=mQ d;have es':bI (.tb f es) g n=(v.2,g):=by
    show (Option.map _ _).getD _=_;rw[l];rfl
   rw[es']at e;cases e;rfl
  | br=>obtain rfl:D=.br:=mt;exact d.elim
 refine ak (λy=>?_) (λy=>?_)
 ·have y:PyData.eqv (.str (cy M)) (.str "shift")=true:=y;obtain⟨ns,ms,eM⟩:∃ns ms,M=.sh ns ms:=by
   cases M with
   | sh ns ms=>exact⟨ns,ms,rfl⟩
   | _=>rw[B5 (λ_ _ h=>by cases h)]at y;cases y
  subst eM;obtain⟨f,rfl⟩:=mt;refine aS (.inl o) ?_;rw[U9];by_cases l2:r.length=2
  ·refine ak (λ_=>?_) (λz=>Ya (by simp[l2]) z)
   match r,l2 with
   | [x,c1],_ =>
    refine aU _ (.int x) (.inl o) (aA (j:=0) Z) ?_;refine k _ λn g' d e=>?_;rcases Ep pg d e with ⟨l1,_⟩|⟨c2,e2,rfl⟩
    ·exact Ya l1 (by simp)
    ·cases e2;lia
  ·refine ak (λz=>Ya z (by simp;lia)) (λ_=>?_);refine k _ λn g' d e=>?_;rcases Ep pg d e with ⟨_,rfl⟩|⟨c2,rfl,_⟩
   ·rfl
   ·exact Ya Z l2
 ·have i:∀ns ms,M ≠ .sh ns ms:=λns ms eM=>by
   subst eM;exact y (NE ns ms)
  exact k _ (same i)
structure Iv (D:Kt) (z:Int × e7 × List Ev):Prop where
 pg:bZ D z.1
 bg:cu D z.1 z.2.1
 mo:dF D z.1 z.2.1
 pw:gj D 0 z.2.2=z.1
noncomputable def fg(D:Kt)(g:Int)(x:e7):Str:=if x.length%ap D=0 then cG (aY D g x) else "more"
open Classical in
noncomputable def cb(D:Kt)(g:Int)(x:e7):e7 × Str × List Wd:=if fg D g x = "none"/\ap D<x.length then (x.drop (x.length-ap D),cG (aY D g (x.drop (x.length-ap D))),[("broken",x.take (x.length-ap D),g)]) else (x,fg D g x,[])
def zC (l:Lk):cG l = "more"\/cG l = "sign"\/cG l = "none":=by cases l<;>simp[cG]
def zD (D:Kt) (g:Int) (x:e7):fg D g x = "more"\/fg D g x = "sign"\/fg D g x = "none":=by
 unfold fg
 split
 ·exact zC _
 ·exact .inl Z
def AC (D:Kt) (g:Int) (x:e7):(cb D g x).2.1 = "more"\/(cb D g x).2.1 = "sign"\/(cb D g x).2.1 = "none":=by
 unfold cb
 split
 ·exact zC _
 ·exact zD D g x
def ui:¬("sign" : Str) = "more":=by decide
def nR:¬("sign" : Str) = "none":=by decide
def qz:¬("more" : Str) = "sign":=by decide
def jd:¬("more" : Str) = "none":=by decide
def Cb:¬("none" : Str) = "more":=by decide
def Ca:¬("none" : Str) = "sign":=by decide
def AA{D:Kt}(ok:cV D){g:Int}{r:e7}{v:Int}(c:Nat)(pg:bZ D g)(bg:cu D g r)(k:dF D g r)(p:0<=v)(o:v<=255) :
 ((cb D g (r++[v])).2.1 = "more"->(bD D g r c v).1=g/\(bD D g r c v).2.1=(cb D g (r++[v])).1/\cg D g (bD D g r c v).2.2=(cb D g (r++[v])).2.2/\gj D g (bD D g r c v).2.2=g/\dF D g (bD D g r c v).2.1) /\
 ((cb D g (r++[v])).2.1 = "sign"->∃n g',dM D n/\bI D g n=((cb D g (r++[v])).1,g')/\(bD D g r c v).1=g'/\(bD D g r c v).2.1=[]/\cg D g (bD D g r c v).2.2=(cb D g (r++[v])).2.2++([("sign",(cb D g (r++[v])).1,g)]:List Wd)/\gj D g (bD D g r c v).2.2=g') /\
 ((cb D g (r++[v])).2.1 = "none"->(bD D g r c v).1=g/\(bD D g r c v).2.1=[]/\cg D g (bD D g r c v).2.2=(cb D g (r++[v])).2.2++([("strange",(cb D g (r++[v])).1,g)]:List Wd)/\gj D g (bD D g r c v).2.2=g):=by
 have s:=jy D;have x:(r++[v]).length=r.length+1:=by rw[Vc];rfl
 have l:=oU bg p o;have dmL:=DO bg p o;unfold bD;by_cases dv:(r++[v]).length%ap D=0
 ·rw[X9 dv];have f:fg D g (r++[v])=cG (aY D g (r++[v])):=X9 dv;have u:ap D<=(r++[v]).length:=by
   rcases Wt (r++[v]).length (ap D) with z|z
   ·rw[WO z]at dv;lia
   ·exact z
  by_cases one:(r++[v]).length=ap D
  ·have d:cb D g (r++[v])=(r++[v],cG (aY D g (r++[v])),([]:List Wd)):=by unfold cb;rw[X8 (by lia),f]
   rw[X9 one,d];unfold h8;cases e:aY D g (r++[v]) with
   | mo=>exact⟨λ_=>⟨rfl,rfl,rfl,rfl,Cr k dv e⟩,λh=>Ya h qz,λh=>Ya h jd⟩
   | no=>exact⟨λh=>Ya h Cb,λh=>Ya h Ca,λ_=>⟨rfl,rfl,rfl,rfl⟩⟩
   | sg n g' =>
    obtain⟨a,b,_⟩:=mI ok pg l e;refine⟨λh=>Ya h ui,λ_=>⟨n,g',a,b,Z,Z,?_,?_⟩,λh=>Ya h nR⟩
    ·show ([("sign",(bI D g n).1,g)]:List Wd)=_;rw[b];rfl
    ·show (bI D g n).2=_;rw[b]
  ·rw[X8 one];unfold nW;cases e:aY D g (r++[v]) with
   | mo =>
    have d:cb D g (r++[v])=(r++[v],("more" : Str),([]:List Wd)):=by unfold cb;rw[f,e,X8 (λh=>Ya h.1 jd)];rfl
    rw[d];exact⟨λ_=>⟨rfl,rfl,rfl,rfl,Cr k dv e⟩,λh=>Ya h qz,λh=>Ya h jd⟩
   | sg n g' =>
    have d:cb D g (r++[v])=(r++[v],("sign" : Str),([]:List Wd)):=by unfold cb;rw[f,e,X8 (λh=>Ya h.1 nR)];rfl
    rw[d];obtain⟨a,b,_⟩:=mI ok pg l e;refine⟨λh=>Ya h ui,λ_=>⟨n,g',a,b,Z,Z,?_,?_⟩,λh=>Ya h nR⟩
    ·show ([("sign",(bI D g n).1,g)]:List Wd)=_;rw[b];rfl
    ·show (bI D g n).2=_;rw[b]
   | no =>
    have d:cb D g (r++[v])=((r++[v]).drop ((r++[v]).length-ap D),cG (aY D g ((r++[v]).drop ((r++[v]).length-ap D))),([("broken",(r++[v]).take ((r++[v]).length-ap D),g)]:List Wd)):=by unfold cb;rw[f,e,X9 ⟨rfl,by lia⟩]
    rw[d];dsimp only;generalize hL:(r++[v]).drop ((r++[v]).length-ap D)=L at dmL;have lL:L.length=ap D:=by rw[<- hL,VT];lia
    unfold h8;cases eo:aY D g L with
    | mo =>
     refine⟨λ_=>⟨rfl,rfl,rfl,rfl,λm j i=>?_⟩,λh=>Ya h qz,λh=>Ya h jd⟩;have i:m*ap D<=L.length:=i;have:ap D<=m*ap D:=Nat.le_mul_of_pos_left _ j;show aY D g (L.take (m*ap D))=_;rw[VW (by lia)];exact eo
    | no=>exact⟨λh=>Ya h Cb,λh=>Ya h Ca,λ_=>⟨rfl,rfl,rfl,rfl⟩⟩
    | sg n g' =>
     obtain⟨a,b,_⟩:=mI ok pg dmL eo;refine⟨λh=>Ya h ui,λ_=>⟨n,g',a,b,Z,Z,?_,?_⟩,λh=>Ya h nR⟩
     ·show ([_,("sign",(bI D g n).1,g)]:List Wd)=_;rw[b];rfl
     ·show (bI D g n).2=_;rw[b]
 ·rw[X8 dv];have f:fg D g (r++[v]) = "more":=X8 dv;have d:cb D g (r++[v])=(r++[v],("more" : Str),([]:List Wd)):=by unfold cb;rw[f,X8 (λh=>Ya h.1 jd)]
  rw[d];refine⟨λ_=>⟨rfl,rfl,rfl,rfl,λm j i=>?_⟩,λh=>Ya h qz,λh=>Ya h jd⟩;have i:m*ap D<=(r++[v]).length:=i;have q:m*ap D<=r.length:=by
   rcases Wt r.length (m*ap D) with z|z
   ·exact Ya (by rw[show (r++[v]).length=m*ap D by lia,Nat.mul_mod_left]) dv
   ·exact z
  show aY D g ((r++[v]).take (m*ap D))=_;rw[WQ q];exact k m j q
def NC{D:Kt}(ok:cV D){z:Int × e7 × List Ev}(c:Nat){v:Int}(h:Iv D z)(k:0<=v)(j:v<=255):Iv D ((bD D z.1 z.2.1 c v).1,(bD D z.1 z.2.1 c v).2.1,z.2.2++(bD D z.1 z.2.1 c v).2.2):=by
 obtain⟨a,b,_⟩:=Dj c ok h.pg h.bg k j;obtain⟨l1,m,l⟩:=AA ok c h.pg h.bg h.mo k j;rcases AC D z.1 (z.2.1++[v]) with e|e|e
 ·obtain⟨d,g,i,f,o⟩:=l1 e;exact⟨a,b,by show dF D (bD D z.1 z.2.1 c v).1 _;rw[d];exact o,by show gj D 0 (_++_)=(bD D z.1 z.2.1 c v).1;rw[nO,h.pw,f,d]⟩
 ·obtain⟨n,g',_,_,d,g,i,f⟩:=m e;exact⟨a,b,by show dF D _ (bD D z.1 z.2.1 c v).2.1;rw[g];exact dF.nil _ _,by show gj D 0 (_++_)=(bD D z.1 z.2.1 c v).1;rw[nO,h.pw,f,d]⟩
 ·obtain⟨d,g,i,f⟩:=l e;exact⟨a,b,by show dF D _ (bD D z.1 z.2.1 c v).2.1;rw[g];exact dF.nil _ _,by show gj D 0 (_++_)=(bD D z.1 z.2.1 c v).1;rw[nO,h.pw,f,d]⟩
theorem uu{D:Kt}(ok:cV D)(row:e7)(hb:bp row):∀i,i<=row.length->Iv D (run D 0 [] 0 (row.take i))
 | 0,_=>⟨mC D,cu.nil _ _,dF.nil _ _,rfl⟩
 | i+1,hi=>by
  have b:row[i]? = some row[i]:=VG (by lia);have a:=hb _ (Vo b);have:=NC ok (0+(row.take i).length+1) (uu ok row hb i (by lia)) a.1 a.2;rw[fh b,tT];exact this
def Ht(K:PySem.W.Frag):Sp:=λvs H Q _=>∃(p c:Addr) (M:Md) (D:Kt) (row:e7),vs=[.ref p,.ref c]/\Mod H p M/\Mt M D/\cV D/\aH K H c (row.map V.int)/\bp row/\row.length<=400/\∀pa (L:PL) H',aj H H'->ie H' pa L->H pa=none->(∀x∈L,H x.2.1=none)->L.map (λx=>x.2.2)=(cg D 0 (dC D 0 [] 0 row)).map (λx=>(x.1,x.2.1,V.int x.2.2))->Q (.ref pa) H'
def Q7(xs:e7)(u:Nat)(h:1<=u)(l:u<=xs.length):dR (xs.map V.int) none (some (-(u:Int)))=(xs.take (xs.length-u)).map V.int:=by
 rw[gL];refine congrArg _ ?_;unfold eZ HT.sIx;simp only [Xp,Nat.sub_zero];rw[X9 (by lia)]
 congr 1
 lia
def Q8(xs:e7)(u:Nat)(h:1<=u)(l:u<=xs.length):dR (xs.map V.int) (some (-(u:Int))) none=(xs.drop (xs.length-u)).map V.int:=by
 rw[gL];refine congrArg _ ?_;unfold eZ HT.sIx;dsimp only;rw[X9 (by lia)];have e:(((xs.length:Int) + -(u:Int)).toNat)=xs.length-u:=by lia
 rw[VW (by rw[VT];lia)]
 congr 1
 lia
def Oh (T:Txt w K mg t):bC P w K mg base "_law_parts" 3 t.yf t.vz ["_law_model_here", "_law_row_here"] (Ht K):=by
 refine⟨T.Pj,T.EQ.kp,T.Se,T.EQ.okQ gh (λvs H Q E h=>by obtain⟨p,c,M,D,row,rfl,_⟩:=h;rfl) λ_ _ _ _ H vs Q E hr h=>?_⟩;obtain⟨p,c,M,D,row,rfl,md,mt,ok,hc,aL,lr,k⟩:=h;have hu:=hr.units;have eu:=zS mt;have b7:=jy D;refine⟨_,(ah (aF (i:=2) gh.nd Z (.inl Z) (aW (CY T) hr (ad (aa 0) ae)))
  (ah (aF (i:=3) gh.nd rfl (.inl rfl) (aM ae))
  (ah (aF (i:=4) gh.nd rfl (.inl rfl) (aM ae))
  (ah (aF (i:=5) gh.nd rfl (.inl rfl) ag)
  (ah (dy PassesOwn.never rfl (d7 (K:=K) rfl (aa 1)) (bj (i:=6) gh.nd rfl (.inl rfl)) (ah (aF (i:=4) gh.nd rfl (.inl rfl) (aE (U0 K) (aa 4) (aM (ad (aa 6) ae))))
  (ah (aF (i:=7) gh.nd rfl (.inl rfl) bc)
  (ah (aD (aw (bh (K:=K) rfl hu) (aE oo (bf (U2 K) T.n_len Ve (ad (aa 4) ae)) (aa 2)) ag (av _)) (ai (aF (i:=7) gh.nd rfl (.inl rfl) (aW (C1 T) hr (ad (aa 0) (ad (aa 4) (ad (aa 5) ae)))))) aG)
  (ah (aD (bY (fu (aw (bh (K:=K) rfl hu) (aa 7) bc (av _)) (fQ (aw fF (bf (U2 K) T.n_len Ve (ad (aa 4) ae)) (aa 2) (av _))))) (ah (cY (dP (K:=K) rfl VD VO VP fX (aa 3) (ad (bR (ad bc (ad (fw (U4 K) (aa 4) hG (dO (Bz zV (aa 2)))) (ad (aa 5) ae)))) ae)))
  (ah (aF (i:=4) gh.nd rfl (.inl rfl) (fw (U4 K) (aa 4) (dO (Bz zV (aa 2))) hG))
  (ai (aF (i:=7) gh.nd rfl (.inl rfl) (aW (C1 T) hr (ad (aa 0) (ad (aa 4) (ad (aa 5) ae)))))))) aG)
  (ai (aD (aw (fY (K:=K) rfl hu) (aa 7) bc (av _)) (ah (cY (dP (K:=K) rfl VD VO VP fX (aa 3) (ad (bR (ad (ay (U3 K) (aM (ad bc (ad bc ae))) (cw gN T.n_int VN (ad (da (bh (K:=K) rfl hu) (aa 7) bc (av _)) ae)) (λ_ _=>rfl)) (ad (aa 4) (ad (aa 5) ae)))) ae)))
  (ah (aF (i:=5) gh.nd rfl (.inl rfl) (ay (U3 K) (aM (ad (aa 5) (ad (aW (C2 T) hr (ad (aa 0) (ad (aa 4) (ad (aa 5) ae)))) ae))) (cw gN T.n_int VN (ad (da (bh (K:=K) rfl hu) (aa 7) bc (av _)) ae)) (λ_ _=>rfl)))
  (ai (aF (i:=4) gh.nd rfl (.inl rfl) (aM ae))))) aG)))))))
  (ah (aD (aw (fY (K:=K) rfl hu) (aa 4) (aM ae) (av _)) (ai (cY (dP (K:=K) rfl VD VO VP fX (aa 3) (ad (bR (ad bc (ad (aa 4) (ad (aa 5) ae)))) ae)))) aG)
  (ai (aq (aa 3))))))))),?_⟩
 refine aU p M Z md (λN s1=>?_);rw[eu];refine⟨sz Z,λf H2 g2=>?_⟩;refine⟨sz Z,λkp H3 g3=>?_⟩;dsimp only [bU];refine d6 [some (.ref p),some (.ref c),some (.int (ap D:Int)),some (.ref f),some (.ref kp),some (.int 0),none,none] (λnx h=>h) ?_;have be:=s1.seq hc;have bk:=g2.sm.trans g3.sm
 let Lw:List Wd->List (Str × e7 × V):=λL=>L.map λx=>(x.1,x.2.1,V.int x.2.2)
 refine bO (λI m=>aj N m/\∃(O:Addr) (L:PL) (v6 v7:Option V),N f=none/\ie m f L/\L.map (λx=>x.2.2)=Lw (cg D 0 (run D 0 [] 0 row).2.2)/\m O=some (.lst ((run D 0 [] 0 row).2.1.map V.int))/\O≠f/\((∀x∈L,N x.2.1=none)/\N O=none)/\L.length<=900/\I=[some (.ref p),some (.ref c),some (.int (ap D:Int)),some (.ref f),some (.ref O),some (.int (run D 0 [] 0 row).1),v6,v7]) (λnx C=>?_) ?_
 ·refine⟨c,Z,⟨_,bk.seq be⟩,iS (K:=K) (a:=c) (xs:=row.map V.int) (λi σ m=>aj N m/\∃(O:Addr) (L:PL) (v6 v7:Option V),ie m f L/\L.map (λx=>x.2.2)=Lw (cg D 0 (run D 0 [] 0 (row.take i)).2.2)/\m O=some (.lst ((run D 0 [] 0 (row.take i)).2.1.map V.int))/\O≠f/\((∀x∈L,N x.2.1=none)/\N O=none)/\L.length<=2*i/\σ=[some (.ref p),some (.ref c),some (.int (ap D:Int)),some (.ref f),some (.ref O),some (.int (run D 0 [] 0 (row.take i)).1),v6,v7])
   ⟨bk,kp,[],_,_,⟨g3.sm _ _ g2.at_,(λ_ h=>nomatch h)⟩,rfl,g3.at_,(aO g2.at_ g3.nw).symm,⟨(λ_ h=>nomatch h),g2.sm.free g3.nw⟩,Va _,rfl⟩ (λi σ m _ z=>z.1.seq be) ?_ ?_⟩
  ·rintro i v σ H4 hv ⟨s4,O,L,v6,v7,pt,eL,hk,nk,fr,lL,rfl⟩;obtain⟨y,hy,rfl⟩:=eX hv;have hi:i<row.length:=(Vh.mp hy).1;have U:=aL y (Vo hy);have iv:=uu ok row aL i (by lia);obtain⟨l1,l2,l3⟩:=AA ok (i+1) iv.pg iv.bg iv.mo U.1 U.2;have bx:0+(row.take i).length+1=i+1:=by rw[Vk];lia
   have a5:run D 0 [] 0 (row.take (i+1))=((bD D (run D 0 [] 0 (row.take i)).1 (run D 0 [] 0 (row.take i)).2.1 (i+1) y).1,(bD D (run D 0 [] 0 (row.take i)).1 (run D 0 [] 0 (row.take i)).2.1 (i+1) y).2.1,(run D 0 [] 0 (row.take i)).2.2++(bD D (run D 0 [] 0 (row.take i)).1 (run D 0 [] 0 (row.take i)).2.1 (i+1) y).2.2):=by
    rw[fh hy,tT,bx]
   have a9:cg D 0 (run D 0 [] 0 (row.take (i+1))).2.2=cg D 0 (run D 0 [] 0 (row.take i)).2.2++cg D (run D 0 [] 0 (row.take i)).1 (bD D (run D 0 [] 0 (row.take i)).1 (run D 0 [] 0 (row.take i)).2.1 (i+1) y).2.2:=by rw[a5,qm,iv.pw]
   obtain⟨pg,bg,mo,pw⟩:=iv;generalize run D 0 [] 0 (row.take i)=z at l1 l2 l3 a5 a9 pg bg mo eL hk ⊢;generalize bD D z.1 z.2.1 (i+1) y=z' at l1 l2 l3 a5 a9;rw[a5];rw[a5]at a9;dsimp only at a9 ⊢;rw[a9];obtain⟨bL,l6⟩:=bg.byts pg;have aN:=ib bL U.1 U.2;have ln:(z.2.1++[y]).length=z.2.1.length+1:=by rw[Vc];rfl
   dsimp only [bU];refine bO (λI m=>aj H4 m/\∃W,H4 W=none/\m W=some (.lst ((z.2.1++[y]).map V.int))/\I=[some (.ref p),some (.ref c),some (.int (ap D:Int)),some (.ref f),some (.ref W),some (.int z.1),some (.int y),v7]) (λnx C=>?_) ?_
   ·refine⟨sz Z,λpl H5 g5=>?_⟩;refine gf (.of (g5.sm _ _ hk)) g5.lst (cQ (by rw[U9];show _+1<=_;lia)) (λW H6 g6=>?_);exact C _ _ ⟨g5.sm.trans g6.sm,W,g5.sm.free g6.nw,by rw[Vj];exact g6.at_,Z⟩
   rintro I H5 ⟨s5,W,fk,aC,rfl⟩;refine d6 [some (.ref p),some (.ref c),some (.int (ap D:Int)),some (.ref f),some (.ref W),some (.int z.1),some (.int y),some (.str "more")] (λnx h=>h) ?_;have bm:=s4.trans s5;have bI:=md.mono (s1.trans bm);have lu:(z.2.1++[y]).length%ap D=0->ap D<=(z.2.1++[y]).length:=λS=>by
    rcases Wt (z.2.1++[y]).length (ap D) with q|q
    ·rw[WO q]at S;lia
    ·exact q
   have b1:(z.2.1++[y]).length%ap D=0->mW D z.1 (z.2.1++[y]):=λS=>by
    have lu:=lu S;have e:z.2.1++[y]=(z.2.1++[y]).take ((z.2.1++[y]).length-ap D)++(z.2.1++[y]).drop ((z.2.1++[y]).length-ap D):=(V8 _ _).symm;rw[e];refine B3 ok pg ?_ (λx hx=>aN x (Wb hx)) ?_ (by rw[VT];lia) (λx hx=>aN x (Wn hx))
    ·rw[WQ (by lia)];exact mo.take _
    ·rw[Vk,VV (Nat.sub_le _ _)];exact Nat.sub_mod_eq_zero_of_mod_eq (by rw[S,Nat.mod_self])
   refine bO (λI m=>aj H5 m/\I=[some (.ref p),some (.ref c),some (.int (ap D:Int)),some (.ref f),some (.ref W),some (.int z.1),some (.int y),some (.str (fg D z.1 (z.2.1++[y])))]) (λnx C=>?_) ?_
   ·refine aS (.inl (.of aC)) ?_;rw[U9];refine⟨by lia,?_⟩;by_cases S:(z.2.1++[y]).length%ap D=0
    ·refine ak (λ_=>?_) (λq=>Ya (show decide ((((z.2.1++[y]).length:Nat):Int)%(ap D:Int)=0)=true from Yc (by rw[<- Int.natCast_emod,S];rfl)) q);refine⟨p,W,M,D,z.1,_,rfl,bI,mt,ok,pg,.of aC,b1 S,by lia,λH6 s6=>?_⟩;have e:fg D z.1 (z.2.1++[y])=cG (aY D z.1 (z.2.1++[y])):=X9 S;rw[e]at C;exact C _ _ ⟨s6,Z⟩
    ·refine ak (λq=>Ya (show decide ((((z.2.1++[y]).length:Nat):Int)%(ap D:Int)=0)=true from q) (λq=>S (by have:=Yb q;lia))) (λ_=>?_);have e:fg D z.1 (z.2.1++[y]) = "more":=X8 S;rw[e]at C;exact C _ _ ⟨aj.refl _,Z⟩
   rintro I H6 ⟨s6,rfl⟩;have am:=s6 _ _ aC;have aH:=bm.trans s6;have a7:ie H6 f L:=⟨(s5.trans s6) _ _ pt.1,λx hx=>⟨(s5.trans s6) _ _ (pt.2 x hx).1,(s5.trans s6) _ _ (pt.2 x hx).2.1,(pt.2 x hx).2.2⟩⟩;have Y:N f=none:=g2.nw;refine bO (λI m=>aj N m/\∃(R:Addr) (L1:PL),ie m f (L++L1)/\((∀x∈L++L1,N x.2.1=none)/\N R=none)/\L1.map (λx=>x.2.2)=Lw (cb D z.1 (z.2.1++[y])).2.2/\L1.length<=1/\m R=some (.lst ((cb D z.1 (z.2.1++[y])).1.map V.int))/\R≠f/\I=[some (.ref p),some (.ref c),some (.int (ap D:Int)),some (.ref f),some (.ref R),some (.int z.1),some (.int y),some (.str (cb D z.1 (z.2.1++[y])).2.1)]) (λnx C=>?_) ?_
   ·have bb:W≠f:=(aO pt.1 fk).symm;have stay:¬(fg D z.1 (z.2.1++[y]) = "none"/\ap D<(z.2.1++[y]).length)->nx [some (.ref p),some (.ref c),some (.int (ap D:Int)),some (.ref f),some (.ref W),some (.int z.1),some (.int y),some (.str (fg D z.1 (z.2.1++[y])))] H6:=λno=>by
     have e:cb D z.1 (z.2.1++[y])=(z.2.1++[y],fg D z.1 (z.2.1++[y]),([]:List Wd)):=by unfold cb;rw[X8 no]
     rw[e]at C;exact C _ _ ⟨aH,W,[],by rw[VI];exact a7,⟨by rw[VI];exact fr.1,s4.free fk⟩,Z,Vq _,am,bb,Z⟩
    rcases zD D z.1 (z.2.1++[y]) with ew|ew|ew
    ·have stay:=stay (λh=>Ya (ew.symm.trans h.1) jd);rw[ew]at stay ⊢;refine ez ?_;refine ak (λe=>Ya e (by decide +kernel)) (λ_=>stay)
    ·have stay:=stay (λh=>Ya (ew.symm.trans h.1) nR);rw[ew]at stay ⊢;refine ez ?_;refine ak (λe=>Ya e (by decide +kernel)) (λ_=>stay)
    ·have a6:=stay;rw[ew]at a6 ⊢;refine ez ?_;refine ak (λ_=>?_) (λe=>Ya (by decide +kernel) e);refine aS (.inl (.of am)) ?_;rw[U9];refine ak (λlt=>?_) (λlt=>a6 (λh=>lt (Yc (by have:=h.2;lia))));have lt:(ap D:Int)<(((z.2.1++[y]).length:Nat):Int):=Yb lt;have S:(z.2.1++[y]).length%ap D=0:=by
      by_cases S:(z.2.1++[y]).length%ap D=0
      ·exact S
      ·exact Ya ((show fg D z.1 (z.2.1++[y]) = "more" from X8 S).symm.trans ew) jd
     have lu:=lu S;have e:cb D z.1 (z.2.1++[y])=((z.2.1++[y]).drop ((z.2.1++[y]).length-ap D),cG (aY D z.1 ((z.2.1++[y]).drop ((z.2.1++[y]).length-ap D))),([("broken",(z.2.1++[y]).take ((z.2.1++[y]).length-ap D),z.1)]:List Wd)):=by unfold cb;rw[X9 ⟨ew,by lia⟩]
     rw[e]at C;refine bO (λI m=>aj N m/\(∃G q,N q=none/\ie m f (L++[(G,q,("broken" : Str),(z.2.1++[y]).take ((z.2.1++[y]).length-ap D),V.int z.1)]))/\m W=some (.lst ((z.2.1++[y]).map V.int))/\I=[some (.ref p),some (.ref c),some (.int (ap D:Int)),some (.ref f),some (.ref W),some (.int z.1),some (.int y),some (.str "none")]) (λc0 bA=>?_) ?_
     ·refine⟨.inl ⟨rfl,_,.of a7.1⟩,?_⟩;refine⟨_,Z,_,.of am,λq H7 g7=>?_⟩;rw[Q7 _ _ b7.1 lu]at g7;refine⟨sz Z,λG H8 J=>?_⟩;have af:=g7.sm.trans J.sm;refine cM (af _ _ a7.1) (dq (by rw[U9];lia)) ?_;refine bA _ _ ⟨(aH.trans af).put Y,⟨G,q,aH.free g7.nw,a7.more af J.at_ (J.sm _ _ g7.at_) (mF g7.nw a7.1)⟩,?_,Z⟩;rw[au bb];exact af _ _ am
     rintro I H7 ⟨s7,⟨G,q,fq,g⟩,bE,rfl⟩;refine⟨_,Z,_,.of bE,λR H8 J=>?_⟩;rw[Q8 _ _ b7.1 lu]at J;have b4:=s7.trans J.sm;refine⟨p,R,M,D,z.1,_,rfl,md.mono (s1.trans b4),mt,ok,pg,J.lst,?_,by rw[VT];lia,λH9 s9=>?_⟩
     ·exact B3 (p:=[]) ok pg (dF.nil _ _) (λ_ h=>nomatch h) (Nat.zero_mod _) (by rw[VT];lia) (λx hx=>aN x (Wn hx))
     have aK:=J.sm.trans s9;refine C _ _ ⟨b4.trans s9,R,[(G,q,("broken" : Str),(z.2.1++[y]).take ((z.2.1++[y]).length-ap D),V.int z.1)],⟨aK _ _ g.1,λx hx=>⟨aK _ _ (g.2 x hx).1,aK _ _ (g.2 x hx).2.1,(g.2 x hx).2.2⟩⟩,⟨λx hx=>(Vm.mp hx).elim (fr.1 x) (λu=>by rw[Vp.mp u];exact fq),s7.free J.nw⟩,Z,Va 1,s9 _ _ J.at_,mF J.nw g.1,Z⟩
   rintro I H7 ⟨s7,R,L1,g,a0,eL1,lL1,a1,a4,rfl⟩;have eLL:(L++L1).map (λx=>x.2.2)=Lw (cg D 0 z.2.2)++Lw (cb D z.1 (z.2.1++[y])).2.2:=by rw[Vj,eL,eL1]
   have LwA:∀a b,Lw (a++b)=Lw a++Lw b:=λa b=>Vj ..;have lLL:(L++L1).length<=2*i+1:=by rw[Vc];lia
   generalize L++L1=LL at g eLL lLL a0;have b3:=AC D z.1 (z.2.1++[y]);generalize cb D z.1 (z.2.1++[y])=B at l1 l2 l3 a1 eLL b3 ⊢;have bV:=md.mono (s1.trans s7);rcases b3 with eb|eb|eb
   ·obtain⟨e1,e2,e3,e4,e5⟩:=l1 eb;rw[eb];refine ez ?_;refine ak (λe=>Ya e (by decide +kernel)) (λ_=>?_);refine⟨s7,R,LL,_,_,g,by rw[LwA,e3,eLL],by rw[e2];exact a1,a4,a0,by lia,by rw[e1]⟩
   ·obtain⟨n,g',C,bK,e1,e2,e3,e4⟩:=l2 eb;rw[eb];refine ez ?_;refine ak (λ_=>?_) (λe=>Ya (by decide +kernel) e);refine⟨.inl ⟨rfl,_,.of g.1⟩,?_⟩;refine⟨sz Z,λp8 H8 J=>?_⟩;refine ez ?_;have e9:(if false=true then !PyData.eqv (.str "sign") (.str "sign") else PyData.eqv (.str "sign") (.str "sign"))=true:=by decide +kernel
    rw[e9];refine bi (.inl J.lst) (aA (j:=1) Z) ?_;refine⟨sz Z,λG H9 g9=>?_⟩;have o:=J.sm.trans g9.sm;refine cM (o _ _ g.1) (dq (by rw[U9];lia)) ?_;have l:=g.more o g9.at_ (o _ _ a1) a4;have s:aj N (upd H9 f (.lst ((LL.map λx=>V.ref x.1)++[.ref G]))):=(s7.trans o).put Y;have a8:upd H9 f (.lst ((LL.map λx=>V.ref x.1)++[.ref G])) R=some (.lst (B.1.map V.int)):=by rw[au a4];exact o _ _ a1
    generalize upd H9 f (.lst ((LL.map λx=>V.ref x.1)++[.ref G]))=H10 at l s a8 ⊢;refine⟨p,R,M,D,z.1,B.1,Z,md.mono (s1.trans s),mt,pg,.of a8,λv hv=>?_⟩;obtain rfl:=hv n g' C bK;refine⟨sz Z,λbw bF r=>?_⟩;refine ez ?_;rw[e9];refine bi (.inl r.lst) (aA (j:=1) Z) ?_;refine⟨sz Z,λaI bG F=>?_⟩;have d:=r.sm.trans F.sm;refine⟨s.trans d,aI,LL++[(G,R,("sign" : Str),B.1,V.int z.1)],_,_,⟨d _ _ l.1,λx hx=>⟨d _ _ (l.2 x hx).1,d _ _ (l.2 x hx).2.1,(l.2 x hx).2.2⟩⟩,?_,by rw[e2];exact F.at_,mF F.nw (r.sm _ _ l.1),⟨λx hx=>(Vm.mp hx).elim (a0.1 x) (λu=>by rw[Vp.mp u];exact a0.2),s.free (r.sm.free F.nw)⟩,by rw[Vc];show _+1<=_;lia,by rw[e1];rfl⟩;rw[LwA,e3,LwA,<- VF,<- eLL,Vj]
    rfl
   ·obtain⟨e1,e2,e3,e4⟩:=l3 eb;rw[eb];refine ez ?_;refine ak (λ_=>?_) (λe=>Ya (by decide +kernel) e);refine⟨.inl ⟨rfl,_,.of g.1⟩,?_⟩;refine⟨sz Z,λp8 H8 J=>?_⟩;refine ez ?_;have e9:(if false=true then !PyData.eqv (.str "none") (.str "sign") else PyData.eqv (.str "none") (.str "sign"))=false:=by decide +kernel
    rw[e9];refine bi (.inl J.lst) (aA (j:=0) Z) ?_;refine⟨sz Z,λG H9 g9=>?_⟩;have o:=J.sm.trans g9.sm;refine cM (o _ _ g.1) (dq (by rw[U9];lia)) ?_;have l:=g.more o g9.at_ (o _ _ a1) a4;have s:aj N (upd H9 f (.lst ((LL.map λx=>V.ref x.1)++[.ref G]))):=(s7.trans o).put Y;have a8:upd H9 f (.lst ((LL.map λx=>V.ref x.1)++[.ref G])) R=some (.lst (B.1.map V.int)):=by rw[au a4];exact o _ _ a1
    generalize upd H9 f (.lst ((LL.map λx=>V.ref x.1)++[.ref G]))=H10 at l s a8 ⊢;refine⟨p,R,M,D,z.1,B.1,Z,md.mono (s1.trans s),mt,pg,.of a8,λv _=>?_⟩;refine⟨sz Z,λbw bF r=>?_⟩;refine ez ?_;rw[e9];refine bi (.inl r.lst) (aA (j:=0) Z) ?_;refine⟨sz Z,λaI bG F=>?_⟩;have d:=r.sm.trans F.sm;refine⟨s.trans d,aI,LL++[(G,R,("strange" : Str),B.1,V.int z.1)],_,_,⟨d _ _ l.1,λx hx=>⟨d _ _ (l.2 x hx).1,d _ _ (l.2 x hx).2.1,(l.2 x hx).2.2⟩⟩,?_,by rw[e2];exact F.at_,mF F.nw (r.sm _ _ l.1),⟨λx hx=>(Vm.mp hx).elim (a0.1 x) (λu=>by rw[Vp.mp u];exact a0.2),s.free (r.sm.free F.nw)⟩,by rw[Vc];show _+1<=_;lia,by rw[e1];rfl⟩;rw[LwA,e3,LwA,<- VF,<- eLL,Vj]
    rfl
  ·rintro σ H4 ⟨s4,O,L,v6,v7,pt,eL,hk,nk,fr,lL,rfl⟩;rw[U9,Vw]at eL hk;refine C _ _ ⟨s4,O,L,v6,v7,g2.nw,pt,eL,hk,nk,fr,by rw[U9]at lL;lia,?_⟩;rw[U9,Vw]
 rintro I H4 ⟨s4,O,L,v6,v7,Y,pt,eL,hk,nk,fr,lL,rfl⟩;have iv:=uu ok row aL row.length (Va _);rw[Vw]at iv;have eE:dC D 0 [] 0 row=(run D 0 [] 0 row).2.2++jk row.length (run D 0 [] 0 row).2.1:=by unfold dC;rw[V0]
 rw[eE,qm,iv.pw,Vj]at k;generalize run D 0 [] 0 row=z at eL hk k ⊢;refine bO (λI m=>∃L',aj H m/\ie m f L'/\(∀x∈L',N x.2.1=none)/\L'.map (λx=>x.2.2)=Lw (cg D 0 z.2.2)++Lw (cg D z.1 (jk row.length z.2.1))/\I=[some (.ref p),some (.ref c),some (.int (ap D:Int)),some (.ref f),some (.ref O),some (.int z.1),v6,v7]) (λnx C=>?_) ?_
 ·refine⟨sz Z,λp5 H5 g5=>?_⟩;refine mS (ns:=z.2.1) (ms:=[]) (.of (g5.sm _ _ hk)) g5.lst ?_;have a2:ie H5 f L:=⟨g5.sm _ _ pt.1,λx hx=>⟨g5.sm _ _ (pt.2 x hx).1,g5.sm _ _ (pt.2 x hx).2.1,(pt.2 x hx).2.2⟩⟩;have bq:=s1.trans (s4.trans g5.sm);by_cases e:z.2.1=[]
  ·refine ak (λq=>Ya q (by simp[e])) (λ_=>?_);refine C _ _ ⟨L,bq,a2,fr.1,?_,Z⟩;have:jk row.length z.2.1=[]:=X9 e;rw[this,eL];exact (VI _).symm
  ·refine ak (λ_=>?_) (λq=>Ya (by simp[e]) q);have:jk row.length z.2.1=[.ft (row.length-z.2.1.length) z.2.1.length "short" z.2.1]:=X8 e;rw[this]at C;refine⟨.inl ⟨rfl,_,.of a2.1⟩,?_⟩;refine⟨sz Z,λG H6 g6=>?_⟩;refine cM (g6.sm _ _ a2.1) (dq (by rw[U9];lia)) ?_;have bd:H f=none:=s1.free Y;refine C _ _ ⟨L++[(G,O,("short" : Str),z.2.1,V.int z.1)],(bq.trans g6.sm).put bd,a2.more g6.sm g6.at_ (g6.sm _ _ (g5.sm _ _ hk)) nk,λx hx=>(Vm.mp hx).elim (fr.1 x) (λu=>by rw[Vp.mp u];exact fr.2),?_,Z⟩;rw[Vj,eL]
   rfl
 rintro I H5 ⟨L',s5,a2,bz,bM,rfl⟩;exact k f L' H5 s5 a2 (s1.free Y) (λx hx=>s1.free (bz x hx)) bM
abbrev EL:=List (Addr × Addr × Nat × e7 × Int)
def m5(H:Hp)(a:Addr)(E:EL):Prop:=H a=some (.lst (E.map λx=>V.ref x.1))/\∀x∈E,H x.1=some (.tup [.int (x.2.2.1:Int),.ref x.2.1,.int x.2.2.2.2])/\H x.2.1=some (.lst (x.2.2.2.1.map V.int))/\x.2.1≠a
def m5.mono{H a:Hp}{b:Addr}{E:EL}(h:m5 H b E)(s:aj H a):m5 a b E:=⟨s _ _ h.1,λx hx=>⟨s _ _ (h.2 x hx).1,s _ _ (h.2 x hx).2.1,(h.2 x hx).2.2⟩⟩
def Fx(D:Kt)(row:e7)(H:Hp)(q a:Addr)(E:EL):Prop:=m5 H a E/\E.map (λx=>x.2.2)=(bt D aQ row).map (λy=>(y.1,y.2.1,y.2.2.1)) /\
 ∃fv,H q=some (.tup [.ref a,fv,.int ((bF D row).c:Int),.int ((bF D row).r.length:Int),.int (bF D row).g])/\(match (bF D row).f with|none=>fv=.non|some z=>∃pf,fv=.ref pf/\H pf=some (.tup [.int (z.1:Int),.int (z.2.1:Int),.str z.2.2])/\Kd z.2.2)
def HW(K:PySem.W.Frag):Sp:=λvs H Q _=>∃(p c:Addr) (M:Md) (D:Kt) (row:e7),vs=[.ref p,.ref c]/\Mod H p M/\Mt M D/\cV D/\aH K H c (row.map V.int)/\bp row/\row.length<=400/\∀q pe E H',aj H H'->Fx D row H' q pe E->Q (.ref q) H'
def Jy{D:Kt}{row:e7}(h:(bF D row).f=none):(bF D row).c=row.length:=by
 unfold bF at h ⊢;by_cases c:(aN D aQ row).1.f.isSome=true
 ·rw[X9 c]at h;rw[h]at c;cases c
 ·rw[X8 c];have:=qh D row aQ rfl (none_of c);unfold jj
  split
  ·rw[this];exact V0 _
  ·show (aN D aQ row).1.c=_;rw[this];exact V0 _
def Op (T:Txt w K mg t):bC P w K mg base "_law_due" 4 t.yp t.vK ["_law_model_here", "_law_row_here"] (HW K):=by
 refine⟨T.Pw,T.E4.kp,T.Sr,T.E4.okQ fP (λvs H Q E h=>by obtain⟨p,c,M,D,row,rfl,_⟩:=h;rfl) λ_ _ _ _ H vs Q E hr h=>?_⟩;obtain⟨p,c,M,D,row,rfl,md,mt,ok,hc,an,lr,k⟩:=h;have hu:=hr.units;have eu:=zS mt;have bn:=jy D;refine⟨_,(ah (aF (i:=2) fP.nd Z (.inl Z) ag)
  (ah (aF (i:=3) fP.nd rfl (.inl rfl) (aM ae))
  (ah (dy PassesOwn.never rfl (d7 (K:=K) rfl (aW (Oh T) hr (ad (aa 0) (ad (aa 1) ae)))) (eU (K:=K) rfl rfl (bP (bj (i:=4) fP.nd rfl (.inl rfl)) (bP (bj (i:=5) fP.nd rfl (.inl rfl)) (bP (bj (i:=6) fP.nd rfl (.inl rfl)) eT)))) (ah (aD (aw (fY (K:=K) rfl hu) (aa 4) bc (av _)) (ah (aF (i:=7) fP.nd rfl (.inl rfl) (aE eG (aW (CY T) hr (ad (aa 0) ae)) (cw gN T.n_int VN (ad (da (bh (K:=K) rfl hu) (aa 4) bc (av _)) ae))))
  (ah (aF (i:=8) fP.nd rfl (.inl rfl) (aE (U0 K) (bf (U2 K) T.n_len Ve (ad (aa 5) ae)) (aa 7)))
  (ai (aq (bR (ad (aa 3) (ad (bR (ad (aa 2) (ad (bf (U2 K) T.n_len Ve (ad (aa 5) ae)) (ad (aa 4) ae)))) (ad (aE (U0 K) (aa 2) (aa 8)) (ad (aa 8) (ad (aa 6) ae)))))))))) aG)
  (ah (aF (i:=2) fP.nd rfl (.inl rfl) (aE (U0 K) (aa 2) (bf (U2 K) T.n_len Ve (ad (aa 5) ae))))
  (ai (cY (dP (K:=K) rfl VD VO VP fX (aa 3) (ad (bR (ad (aa 2) (ad (aa 5) (ad (aa 6) ae)))) ae)))))))
  (ah (aF (i:=6) fP.nd rfl (.inl rfl) ag)
  (ah (dy PassesOwn.never rfl (d7 (K:=K) rfl (aa 3)) (eU (K:=K) rfl rfl (bP (bj (i:=9) fP.nd rfl (.inl rfl)) (bP (bj (i:=5) fP.nd rfl (.inl rfl)) (bP (bj (i:=10) fP.nd rfl (.inl rfl)) eT)))) (ai (aF (i:=6) fP.nd rfl (.inl rfl) (aW (C2 T) hr (ad (aa 0) (ad (aa 5) (ad (aa 10) ae)))))))
  (ai (aq (bR (ad (aa 3) (ad bW (ad (bf (U2 K) T.n_len Ve (ad (aa 1) ae)) (ad ag (ad (aa 6) ae))))))))))))),?_⟩
 refine d6 [some (.ref p),some (.ref c),some (.int 0),none,none,none,none,none,none,none,none] (λnx h=>h) ?_;refine⟨sz Z,λd H1 g1=>?_⟩;dsimp only [bU];have aP:=g1.sm.seq hc;have G:gP D 0 0 (cg D 0 (dC D 0 [] 0 row)) (bt D aQ row) (bF D row):=qI ok row aQ rfl (mC D) (cu.nil _ _) (Va _) an;have lnS:(bt D aQ row).length<=row.length:=by
  have:=congrArg List.length (nL D row aQ);rw[U9]at this;rw[this];exact qg D row aQ
 refine bO (λj b=>∃(E:EL) (N Y v6:Option V),aj H b/\m5 b d E/\E.map (λx=>x.2.2)=(bt D aQ row).map (λy=>(y.1,y.2.1,y.2.2.1))/\(bt D aQ row).length=(cg D 0 (dC D 0 [] 0 row)).length/\j=[some (.ref p),some (.ref c),some (.int (cE (cg D 0 (dC D 0 [] 0 row)):Int)),some (.ref d),N,Y,v6,none,none,none,none]) (λnx hn=>?_) ?_
 ·refine⟨p,c,M,D,row,Z,md.mono g1.sm,mt,ok,aP,an,lr,λpa L H2 s2 pt aK fL eL=>?_⟩;have hL:∀(i:Nat) (x:Addr × Addr × Str × e7 × V),L[i]? = some x->∃y:Wd,(cg D 0 (dC D 0 [] 0 row))[i]? = some y/\x.2.2=(y.1,y.2.1,V.int y.2.2):=λi x hx=>by
   have this:(L.map λx=>x.2.2)[i]? = _:=congrArg (λl=>l[i]?) eL;rw[Vf,Vf,hx]at this;cases e:(cg D 0 (dC D 0 [] 0 row))[i]? with
   | none=>rw[e]at this;cases this
   | some y=>rw[e]at this;exact⟨y,Z,Vy this⟩
  have lL:L.length=(cg D 0 (dC D 0 [] 0 row)).length:=by
   have:=congrArg List.length eL
   rwa [U9,U9]at this
  generalize cg D 0 (dC D 0 [] 0 row)=Wl at G hL lL hn;have aT:=g1.sm.trans s2;refine⟨pa,Z,⟨_,.of pt.1⟩,iS (K:=K) (a:=pa) (xs:=L.map λx=>V.ref x.1) (λi σ b=>∃(E:EL) (N Y v6:Option V),(∀a u,a≠d->H2 a=some u->b a=some u)/\aj H b/\i<=(bt D aQ row).length/\m5 b d E/\E.map (λx=>x.2.2)=((bt D aQ row).take i).map (λy=>(y.1,y.2.1,y.2.2.1))/\σ=[some (.ref p),some (.ref c),some (.int (cE (Wl.take i):Int)),some (.ref d),N,Y,v6,none,none,none,none])
   ⟨[],_,_,_,λ_ _ _ h=>h,aT,Vq _,⟨s2 _ _ g1.at_,(λ_ h=>nomatch h)⟩,rfl,rfl⟩ (λi σ b _ z=>by obtain⟨E,N,Y,v6,kp,_⟩:=z;exact .of (kp _ _ (aO g1.at_ aK).symm pt.1)) ?_ ?_⟩
  ·rintro i v σ W o ⟨E,N,Y,v6,kp,O,li,m,eE,rfl⟩;rw[Vf]at o;cases hx:L[i]? with
   | none=>rw[hx]at o;cases o
   | some x =>
   rw[hx]at o;cases o;obtain⟨y,hy,ey⟩:=hL i x hx;obtain⟨tp,pp,wd,bs,vv⟩:=x;obtain⟨rfl,rfl,rfl⟩:wd=y.1/\bs=y.2.1/\vv=V.int y.2.2:=by cases ey;exact⟨rfl,rfl,rfl⟩
   obtain⟨t1,U,_⟩:=pt.2 _ (Vo hx);have aA:H2 d=some (.lst []):=s2 _ _ g1.at_;have t1:W tp=some (.tup [.str y.1,.ref pp,.int y.2.2]):=kp _ _ (cA t1 aA (by intro z;cases z)) t1;have a8:pp≠d:=mF (fL _ (Vo hx)) g1.at_;have U:W pp=some (.lst (y.2.1.map V.int)):=kp _ _ a8 U;refine⟨tp,_,Z,.of t1,Z,_,_,Z,_,_,Z,_,_,Z,Z,?_⟩;rcases Nf G i y hy li with ⟨z,z1,z2,z3,z4,z5⟩|⟨z1,z2,z3,z4,z5,z6⟩
   ·rw[z2];refine ez ?_;refine ak (λe=>Ya e (by decide +kernel)) (λ_=>?_);unfold jz;dsimp only;have tk:=fh hy;have ea:(cE (Wl.take i):Int)+(y.2.1.length:Int)=(cE (Wl.take (i+1)):Int):=by
     rw[tk];unfold cE;rw[Vj,XA,Vc];simp
    refine d6 [some (.ref p),some (.ref c),some (.int (cE (Wl.take (i+1)):Int)),some (.ref d),some (.str "sign"),some (.ref pp),some (.int y.2.2),none,none,none,none] (λnx h=>?_) ?_
    ·refine aS (.inl (.of U)) ?_;rw[U9];rw[<- ea]at h;exact h
    refine⟨.inl ⟨rfl,_,.of m.1⟩,?_⟩;refine⟨sz Z,λq C s=>?_⟩;have hi:i<(bt D aQ row).length:=(Vh.mp z1).1;have lE:E.length<=400:=by
     have:=congrArg List.length eE;rw[U9,U9,Vk]at this;lia
    refine cM (s.sm _ _ m.1) (dq (by rw[U9];lia)) ?_;have aN:H d=none:=g1.nw;refine⟨E++[(q,pp,cE (Wl.take (i+1)),y.2.1,y.2.2)],_,_,_,λa u na h=>by rw[au na];exact s.sm _ _ (kp a u na h),(O.trans s.sm).put aN,hi,⟨by rw[aX,Vj];rfl,λx hx=>?_⟩,?_,rfl⟩
    ·rcases Vm.mp hx with u|u
     ·obtain⟨a1,a2,a3⟩:=m.2 x u;have ao:=s.sm _ _ a1;exact⟨by rw[au (cA ao (s.sm _ _ m.1) (by intro z;cases z))];exact ao,by rw[au a3];exact s.sm _ _ a2,a3⟩
     ·rw[Vp.mp u];exact⟨by rw[au (mF s.nw m.1)];exact s.at_,by rw[au a8];exact s.sm _ _ U,a8⟩
    ·rw[Vj,eE,fh z1,Vj];rw[V0]at z5;show _++[(cE (Wl.take (i+1)),y.2.1,y.2.2)]=_++[(z.1,z.2.1,z.2.2.1)];rw[z5,z3,z4]
   ·rw[V0]at z3 z6;have eE2:E.map (λx=>x.2.2)=(bt D aQ row).map (λy=>(y.1,y.2.1,y.2.2.1)):=by rw[eE,z1,Vw]
    have F:∀(hl:Nat) q S b,y.2.1.length+hl=(bF D row).r.length->aj W b->b S=some (.tup [.int (cE (Wl.take i):Int),.int (y.2.1.length:Int),.str y.1])->b q=some (.tup [.ref d,.ref S,.int ((cE (Wl.take i):Int)+((y.2.1.length:Int)+(hl:Int))),.int ((y.2.1.length:Int)+(hl:Int)),.int y.2.2])->Q (.ref q) b:=λhl q S b e1 s' hp hq=>by
     refine k q d E b (O.trans s') ⟨m.mono s',eE2,.ref S,?_,?_⟩
     ·rw[hq,z4,z6,<- e1];simp
     ·rw[z3];exact⟨S,Z,hp,z2⟩
    rcases z2 with e|e|e
    ·rw[e]at F z5 ⊢;refine ez ?_;refine ak (λ_=>?_) (λe=>Ya (by decide +kernel) e);refine bO (λj b=>aj W b/\j=[some (.ref p),some (.ref c),some (.int (cE (Wl.take i):Int)),some (.ref d),some (.str "short"),some (.ref pp),some (.int y.2.2),some (.int ((0:Nat):Int)),none,none,none]) (λR J=>?_) ?_
     ·refine aU p M Z (md.mono O) (λC f=>?_);rw[eu];refine ez ?_;have e9:(if false=true then !PyData.eqv (.str "short") (.str "broken") else PyData.eqv (.str "short") (.str "broken"))=false:=by decide +kernel
      rw[e9];refine⟨.inl ⟨by lia,by lia⟩,?_⟩;have h9:=J _ C ⟨f,rfl⟩;rw[show (((0:Nat):Int))=(ap D:Int)*0 by simp]at h9;exact h9
     rintro j C ⟨f,rfl⟩;have t4:=f _ _ U;refine d6 [some (.ref p),some (.ref c),some (.int (cE (Wl.take i):Int)),some (.ref d),some (.str "short"),some (.ref pp),some (.int y.2.2),some (.int ((0:Nat):Int)),some (.int ((y.2.1.length:Int)+((0:Nat):Int))),none,none] (λR h'=>?_) ?_
     ·refine aS (.inl (.of t4)) ?_;rw[U9];exact h'
     refine aS (.inl (.of t4)) ?_;rw[U9];refine⟨sz Z,λS H5 g5=>?_⟩;refine⟨sz Z,λq H6 I=>?_⟩;exact F (0) q S H6 (by rw[z5];first|rfl|(rw[X9 rfl])|(rw[X8 (by decide)])) (f.trans (g5.sm.trans I.sm)) (I.sm _ _ g5.at_) I.at_
    ·rw[e]at F z5 ⊢;refine ez ?_;refine ak (λ_=>?_) (λe=>Ya (by decide +kernel) e);refine bO (λj b=>aj W b/\j=[some (.ref p),some (.ref c),some (.int (cE (Wl.take i):Int)),some (.ref d),some (.str "broken"),some (.ref pp),some (.int y.2.2),some (.int ((ap D:Nat):Int)),none,none,none]) (λR J=>?_) ?_
     ·refine aU p M Z (md.mono O) (λC f=>?_);rw[eu];refine ez ?_;have e9:(if false=true then !PyData.eqv (.str "broken") (.str "broken") else PyData.eqv (.str "broken") (.str "broken"))=true:=by decide +kernel
      rw[e9];refine⟨.inl ⟨by lia,by lia⟩,?_⟩;have h9:=J _ C ⟨f,rfl⟩;rw[show (((ap D:Nat):Int))=(ap D:Int)*1 by simp]at h9;exact h9
     rintro j C ⟨f,rfl⟩;have t4:=f _ _ U;refine d6 [some (.ref p),some (.ref c),some (.int (cE (Wl.take i):Int)),some (.ref d),some (.str "broken"),some (.ref pp),some (.int y.2.2),some (.int ((ap D:Nat):Int)),some (.int ((y.2.1.length:Int)+((ap D:Nat):Int))),none,none] (λR h'=>?_) ?_
     ·refine aS (.inl (.of t4)) ?_;rw[U9];exact h'
     refine aS (.inl (.of t4)) ?_;rw[U9];refine⟨sz Z,λS H5 g5=>?_⟩;refine⟨sz Z,λq H6 I=>?_⟩;exact F (ap D) q S H6 (by rw[z5];first|rfl|(rw[X9 rfl])|(rw[X8 (by decide)])) (f.trans (g5.sm.trans I.sm)) (I.sm _ _ g5.at_) I.at_
    ·rw[e]at F z5 ⊢;refine ez ?_;refine ak (λ_=>?_) (λe=>Ya (by decide +kernel) e);refine bO (λj b=>aj W b/\j=[some (.ref p),some (.ref c),some (.int (cE (Wl.take i):Int)),some (.ref d),some (.str "strange"),some (.ref pp),some (.int y.2.2),some (.int ((0:Nat):Int)),none,none,none]) (λR J=>?_) ?_
     ·refine aU p M Z (md.mono O) (λC f=>?_);rw[eu];refine ez ?_;have e9:(if false=true then !PyData.eqv (.str "strange") (.str "broken") else PyData.eqv (.str "strange") (.str "broken"))=false:=by decide +kernel
      rw[e9];refine⟨.inl ⟨by lia,by lia⟩,?_⟩;have h9:=J _ C ⟨f,rfl⟩;rw[show (((0:Nat):Int))=(ap D:Int)*0 by simp]at h9;exact h9
     rintro j C ⟨f,rfl⟩;have t4:=f _ _ U;refine d6 [some (.ref p),some (.ref c),some (.int (cE (Wl.take i):Int)),some (.ref d),some (.str "strange"),some (.ref pp),some (.int y.2.2),some (.int ((0:Nat):Int)),some (.int ((y.2.1.length:Int)+((0:Nat):Int))),none,none] (λR h'=>?_) ?_
     ·refine aS (.inl (.of t4)) ?_;rw[U9];exact h'
     refine aS (.inl (.of t4)) ?_;rw[U9];refine⟨sz Z,λS H5 g5=>?_⟩;refine⟨sz Z,λq H6 I=>?_⟩;exact F (0) q S H6 (by rw[z5];first|rfl|(rw[X9 rfl])|(rw[X8 (by decide)])) (f.trans (g5.sm.trans I.sm)) (I.sm _ _ g5.at_) I.at_
  ·rintro σ W ⟨E,N,Y,v6,kp,O,li,m,eE,rfl⟩;rw[U9]at li eE;have l1:=Cu G;have eS:(bt D aQ row).length=Wl.length:=by lia
   refine hn _ _ ⟨E,N,Y,v6,O,m,?_,eS,?_⟩
   ·rw[eE,VW (by lia)]
   ·rw[U9,lL,Vw]
 rintro j W ⟨E,N,Y,v6,O,m,eE,eS,rfl⟩;obtain⟨f1,f2,f3,f4,f5⟩:=(Cu G).2 eS;have sn:=Ct G;refine d6 [some (.ref p),some (.ref c),some (.int (cE (cg D 0 (dC D 0 [] 0 row)):Int)),some (.ref d),N,Y,some (.int 0),none,none,none,none] (λnx h=>h) ?_;have lE:E.length=(bt D aQ row).length:=by
  have:=congrArg List.length eE
  rwa [U9,U9]at this
 refine bO (λj b=>∃B v9 n,b=W/\j=[some (.ref p),some (.ref c),some (.int (cE (cg D 0 (dC D 0 [] 0 row)):Int)),some (.ref d),N,B,some (.int (bF D row).g),none,none,v9,n]) (λnx hn=>?_) ?_
 ·refine⟨d,Z,⟨_,.of m.1⟩,iS (K:=K) (a:=d) (xs:=E.map λx=>V.ref x.1) (λi σ b=>∃(B v9 n:Option V) (g:Int),b=W/\(i=0->g=0)/\(∀y,0<i->(bt D aQ row)[i-1]? = some y->g=(bI D y.2.2.1 y.2.2.2).2)/\σ=[some (.ref p),some (.ref c),some (.int (cE (cg D 0 (dC D 0 [] 0 row)):Int)),some (.ref d),N,B,some (.int g),none,none,v9,n])
   ⟨_,_,_,0,rfl,λ_=>rfl,λy h=>Ya h (by decide),rfl⟩ (λi σ b _ z=>by obtain⟨_,_,_,_,rfl,_⟩:=z;exact .of m.1) ?_ ?_⟩
  ·rintro i v σ C o ⟨B,v9,n,g,rfl,_,_,rfl⟩;rw[Vf]at o;cases hx:E[i]? with
   | none=>rw[hx]at o;cases o
   | some x =>
   rw[hx]at o;cases o;obtain⟨t1,U,_⟩:=m.2 x (Vo hx);have hi:i<E.length:=(Vh.mp hx).1;obtain⟨y,hy⟩:∃y,(bt D aQ row)[i]? = some y:=⟨_,VG (by lia)⟩;have ar:x.2.2=(y.1,y.2.1,y.2.2.1):=by
    have this:(E.map λx=>x.2.2)[i]? = _:=congrArg (λl=>l[i]?) eE;rw[Vf,Vf,hx,hy]at this;exact Vy this
   obtain⟨b1,b2,b3,_⟩:=sn y (Vo hy);have aR:x.2.2.2.1=y.2.1:=by rw[ar]
   have aI:x.2.2.2.2=y.2.2.1:=by rw[ar]
   rw[aR]at U;rw[aI]at t1;refine⟨x.1,_,Z,.of t1,Z,_,_,Z,_,_,Z,_,_,Z,Z,?_⟩;refine⟨p,x.2.1,M,D,y.2.2.1,y.2.1,Z,md.mono O,mt,b2,.of U,λv o=>?_⟩;have ev:=o y.2.2.2 (bI D y.2.2.1 y.2.2.2).2 b1 (by rw[<- b3]);refine⟨_,_,_,v,rfl,λh=>(by lia),λy' _ am=>?_,rfl⟩;rw[Nat.add_sub_cancel,hy]at am;cases am;exact ev
  ·rintro σ C ⟨B,v9,n,g,rfl,g0,ax,rfl⟩;rw[U9,lE]at g0 ax;have eg:g=(bF D row).g:=by
    by_cases e:bt D aQ row=[]
    ·rw[f4 e];exact g0 (by rw[e];rfl)
    ·have pos:0<(bt D aQ row).length:=Xy.mpr e;have h1:(bt D aQ row).getLast? = some ((bt D aQ row).getLast e):=List.getLast?_eq_getLast e;rw[f5 _ h1];exact ax _ pos (by rw[<- h1,List.getLast?_eq_getElem?])
   rw[eg]at *;exact hn _ _ ⟨_,_,_,Z,Z⟩
 rintro j _ ⟨B,v9,n,rfl,rfl⟩;refine aS (.inl (O.seq hc)) ?_;rw[U9];refine⟨sz Z,λq C s=>?_⟩;have ec:(bF D row).c=row.length:=Jy f1;refine k q d E C (O.trans s.sm) ⟨m.mono s.sm,eE,.non,?_,?_⟩
 ·rw[ec,f2];exact s.at_
 ·rw[f1]
def Fz(D:Kt)(ns:e7)(E:EL):Prop:=ns.length=E.length/\∀(i:Nat) (n:Int) (x:Addr × Addr × Nat × e7 × Int),ns[i]? = some n->E[i]? = some x->dM D n/\bZ D x.2.2.2.2/\(bI D x.2.2.2.2 n).1=x.2.2.2.1
def Ib(K:PySem.W.Frag):Sp:=λvs H Q _=>∃(f p e:Addr) (M:Md) (D:Kt) (ns:e7) (E:EL),vs=[.ref f,.ref p,.ref e]/\Mod H p M/\Mt M D/\H f=some (.lst (ns.map V.int))/\H e=some (.lst (E.map λx=>V.ref x.1))/\(∀x∈E,H x.1=some (.tup [.int (x.2.2.1:Int),.ref x.2.1,.int x.2.2.2.2])/\H x.2.1=some (.lst (x.2.2.2.1.map V.int)))/\Fz D ns E/\∀H',aj H H'->Q (.bl true) H'
def C0 (T:Txt w K mg t):bC P w K mg base "_law_came" 3 t.yr t.vM ["_law_found", "_law_model_here", "_law_ends"] (Ib K):=by
 refine⟨T.Py,T.E6.kp,T.Su,T.E6.okQ pX (λvs H Q E h=>by obtain⟨f,p,e,M,D,ns,E,rfl,_⟩:=h;rfl) λ_ _ _ _ H vs Q E B h=>?_⟩;obtain⟨f,p,e,M,D,ns,E,rfl,R,mt,hf,u,hE,L,k⟩:=h;have J:=B.units;refine⟨_,(ah (aD (bY (dw (fR (fz (bf (U1 K) T.n_isinstance VY (ad (aa 0) (ad (iL Z T.n_list VL) ae))))) (dJ (aw (fY (K:=K) Z J) (bf (U2 K) T.n_len Ve (ad (aa 0) ae)) (bf (U2 K) T.n_len Ve (ad (aa 2) ae)) (av _))))) (ai (aq dQ)) aG)
  (ah (dy PassesOwn.never rfl (Bw (K:=K) rfl rfl T.n_zip (ad (aa 0) (ad (aa 2) ae))) (eU (K:=K) rfl rfl (bP (bj (i:=3) pX.nd rfl (.inl rfl)) (bP (bj (i:=4) pX.nd rfl (.inl rfl)) eT))) (ah (aD (fR (fz (aW (uF T) B (ad (aa 3) ae)))) (ai (aq dQ)) aG)
  (ah (aF (i:=5) pX.nd rfl (.inl rfl) (aW (CZ T) B (ad (aa 1) (ad (aa 3) (ad (ay (U3 K) (aa 4) ag (λ_ _=>rfl)) ae)))))
  (ai (aD (bY (dw (aw gJ (aa 5) bW (av _)) (dJ (aw (fY (K:=K) rfl J) (ay (U3 K) (aa 5) ag (λ_ _=>rfl)) (ay (U3 K) (aa 4) ag (λ_ _=>rfl)) (av _))))) (ai (aq dQ)) aG)))))
  (ai (aq dQ)))),?_⟩
 refine bO (λg d=>H=d/\g=[some (.ref f),some (.ref p),some (.ref e),none,none,none]) (λnx l=>?_) ?_
 ·refine bi (.lst hf) (by with_unfolding_all rfl) ?_;refine ak (λz=>Ya z (by decide)) (λ_=>?_);refine⟨_,.inl (.of hf),_,.inl (.of u),?_⟩;rw[U9,U9,L.1];refine ak (λz=>Ya z (by simp)) (λ_=>?_);exact l _ _ ⟨rfl,rfl⟩
 rintro g _ ⟨rfl,rfl⟩;refine⟨f,e,_,_,Z,.of hf,.of u,Qp (K:=K) (a:=f) (b:=e) (xs:=ns.map V.int) (zs:=E.map λx=>V.ref x.1) (λi σ d=>aj H d/\∃o C m,σ=[some (.ref f),some (.ref p),some (.ref e),o,C,m]) ⟨aj.refl _,_,_,_,Z⟩ (λi σ d _ _ z=>⟨.of (z.1 _ _ hf),.of (z.1 _ _ u)⟩) ?_ ?_⟩
 ·rintro i v z tp σ N O S hz ⟨s,o,C,m,rfl⟩ I;obtain⟨n,l,rfl⟩:=eX S;rw[Vf]at hz;cases hx:E[i]? with
  | none=>rw[hx]at hz;cases hz
  | some x =>
  rw[hx]at hz;cases hz;obtain⟨c1,W,c3⟩:=L.2 i n x l hx;obtain⟨G,t2⟩:=hE x (Vo hx);have y:=s.trans I.sm;have r:=y _ _ G;refine⟨tp,_,Z,I.tup,Z,_,_,Z,_,_,Z,Z,?_⟩;refine bO (λg d=>O=d/\g=[some (.ref f),some (.ref p),some (.ref e),some (.int n),some (.ref x.1),m]) (λnx l=>?_) ?_
  ·refine gS n Z ?_;refine ak (λz=>Ya z (by decide)) (λ_=>?_);exact l _ _ ⟨rfl,rfl⟩
  rintro g _ ⟨rfl,rfl⟩;refine aU _ (.int x.2.2.2.2) (.inr (.of r)) (aA (j:=2) Z) ?_;refine cq p M D n x.2.2.2.2 Z (R.mono y) mt c1 W (λpr q H4 Y nq U F=>?_);have c:=y.trans Y;refine aU _ (.ref q) (.inr (.of F)) (aA (j:=0) Z) ?_;refine aU _ (.ref x.2.1) (.inr (.of (c _ _ G))) (aA (j:=1) Z) ?_;refine mS (ns:=(bI D x.2.2.2.2 n).1) (ms:=x.2.2.2.1) (.of U) (.of (c _ _ t2)) ?_;refine ak (λz=>Ya z (by simp[c3])) (λ_=>?_);exact⟨c,_,_,_,Z⟩
 ·rintro σ N ⟨s,o,C,m,rfl⟩;exact k N s
def Ho(K:PySem.W.Frag)(t:Adr):Sp:=λvs H Q _=>∃(o a:Addr) (D:Kt) (row:e7),vs=[.ref o,.ref a]/\TN t H o D/\aH K H a (row.map V.int)/\bp row/\row.length<=1000/\∀q H',aj H H'->((bF D row).f=none->∃qt,H' q=some (.lst [.ref qt])/\H' qt=some (.lst ((aN D aQ row).2.map V.int)))->(∀p l k,(bF D row).f=some (p,l,k)->H' q=some (.lst [.int (p:Int),.int (l:Int),.str k]))->Q (.ref q) H'
theorem wP{H:Hp}:∀bs:List Bool,cX K H (bs.map PyData.bool) (bs.map V.bl)
 | []=>.nil
 | b::bs=>.cons (bA.bl b) (wP bs)
def Oe (T:Txt w K mg t):bC P w K mg base "_law_refused" 13 t.yc t.vw ["_law_tongue_here", "_law_row_here"] (Ho K t):=by
 refine⟨T.Pf,T.EM.kp,T.Sa,T.EM.okQ jB (λvs H Q E h=>by obtain⟨o,a,D,row,rfl,_⟩:=h;rfl) λ_ _ _ _ H vs Q E hr h=>?_⟩;obtain⟨o,a,D,row,rfl,tn,ha,hb,lr,k⟩:=h;have hu:=hr.units;refine⟨_,(ah (aF (i:=2) jB.nd Z (.inl Z) (aM ae))
  (ah (aF (i:=3) jB.nd rfl (.inl rfl) (aM (hU rfl)))
  (ah (JP (K:=K) (j:=4) rfl ⟨rfl,rfl⟩ jB.nd rfl rfl T.mN (λpn W Eb L=>(ai (aF (i:=2) jB.nd rfl (.inl rfl) (aM (ad (J5 (NT T) hr L (ad (aa 0) (ad (aa 1) ae))) ae))))) (λe=>(ah (aF (i:=2) jB.nd rfl (.inl rfl) (aM (ad (tW (K:=K) rfl (aa 4)) (ad (tW (K:=K) rfl (aa 4)) (ad (tW (K:=K) rfl (aa 4)) ae)))))
  (ah (aF (i:=3) jB.nd rfl (.inl rfl) (aM (ad (bf (D6 (K:=K) rfl) T.n_isinstance VY (ad (aa 4) (ad (fS (v:=.ref t.jU) rfl T.mM rfl) ae))) (ad (bf (D6 (K:=K) rfl) T.n_isinstance VY (ad (aa 4) (ad (iL rfl T.n_ValueError (show bootBuiltins "ValueError" = some (.type "ValueError") by decide +kernel)) ae))) ae))))
  (ai (cY (dP (K:=K) rfl VD VO VP fX (aa 3) (ad (bf (RC (K:=K) rfl) T.n_isinstance VY (ad (aa 4) (ad (bR (ad (fS (v:=.ref t.rC) rfl T.om rfl) (ad (fS (v:=.ref t.rB) rfl T.ol rfl) (ad (fS (v:=.ref t.rA) rfl T.oj rfl) (ad (fS (v:=.ref t.rq) rfl T.oi rfl) (ad (fS (v:=.ref t.rp) rfl T.oh rfl) (ad (fS (v:=.ref t.ro) rfl T.og rfl) ae))))))) ae))) ae))))))))
  (ah (aD (aw (fY (K:=K) rfl hu) (aa 3) (aM (hU rfl)) (av _)) (ai (aq (aM ae))) aG)
  (ai (aq (aa 2))))))),?_⟩
 refine⟨sz Z,λp1 H1 g1=>?_⟩;refine⟨sz Z,λS H2 g2=>?_⟩;dsimp only [bU];have n:=g1.sm.trans g2.sm;refine bO (λd b=>∃q g:Addr,aj H b/\b g=some (.lst ([true,true,false].map V.bl))/\((bF D row).f=none->∃M,b q=some (.lst [.ref M])/\b M=some (.lst ((aN D aQ row).2.map V.int)))/\(∀p l k,(bF D row).f=some (p,l,k)->b q=some (.lst [.int (p:Int),.int (l:Int),.str k]))/\d=[some (.ref o),some (.ref a),some (.ref q),some (.ref g),none]) (λnx R=>?_) ?_
 ·refine⟨λd c oe b=>d=[some (.ref o),some (.ref a),some (.ref p1),some (.ref S),none]/\c=.ref t.dD/\aj H2 b/\∃(e d0:Addr) (p l:Nat) (k:Str),oe=some e/\b e=some (XO e t.dD (some d0))/\b d0=some (.xd [("place",.int (p:Int)),("length",.int (l:Int)),("kind",.str k)])/\(bF D row).f=some (p,l,k),?_,?_⟩
  ·refine⟨o,a,D,row,rfl,tn.mono n,n.seq ha,hb,lr,λB q I G nq O=>?_,λp l F B e d0 b s' x1 y1=>⟨rfl,rfl,s',e,d0,p,l,F,rfl,x1,y1,B⟩⟩;refine⟨sz Z,λp4 y m=>?_⟩;exact R _ _ ⟨p4,S,n.trans (G.trans m.sm),m.sm _ _ (G _ _ g2.at_),λ_=>⟨q,m.at_,m.sm _ _ O⟩,λp l F e=>(by rw[B]at e;cases e),rfl⟩
  ·rintro d C e od qq I ⟨rfl,hC,G,e',d0,pp,l,F,he,hx,hd,B⟩ _;cases hC;cases he;refine⟨T.xm_Faulty_Faulty,?_⟩;refine bO (λd b=>∃q,aj I b/\I q=none/\b q=some (.lst [.int (pp:Int),.int (l:Int),.str F])/\d=[some (.ref o),some (.ref a),some (.ref q),some (.ref S),some (.ref e)]) (λY z=>?_) ?_
   ·refine⟨e,_,d0,_,_,Z,.inr ⟨_,hx⟩,hd,T.jx,T.en_Faulty_place,Z,?_⟩;refine⟨e,_,d0,_,_,Z,.inr ⟨_,hx⟩,hd,T.jx,T.en_Faulty_length,Z,?_⟩;refine⟨e,_,d0,_,_,Z,.inr ⟨_,hx⟩,hd,T.jx,T.en_Faulty_kind,Z,?_⟩;exact⟨sz Z,λq y m=>z _ _ ⟨q,m.sm,m.nw,m.at_,Z⟩⟩
   rintro d y ⟨q,s,fq,O,rfl⟩;have x:=s _ _ hx;have u:=s _ _ hd;refine bO (λd b=>∃g,aj y b/\y g=none/\b g=some (.lst [.bl true,.bl true])/\d=[some (.ref o),some (.ref a),some (.ref q),some (.ref g),some (.ref e)]) (λY z=>?_) ?_
   ·refine bi (.exd (.inr ⟨_,x⟩) u T.jx) T.xk_Faulty_TongueError ?_;refine bi (.exd (.inr ⟨_,x⟩) u T.jx) T.xk_Faulty_ValueError ?_;exact⟨sz Z,λg H5 g5=>z _ _ ⟨g,g5.sm,g5.nw,g5.at_,Z⟩⟩
   rintro d H5 ⟨g,s5,fk,N,rfl⟩;refine⟨.inl ⟨rfl,_,.of N⟩,?_⟩;refine⟨sz Z,λp6 H6 g6=>?_⟩;have r:=s5.trans g6.sm;refine⟨e,t.dD,d0,_,p6,[t.rC,t.rB,t.rA,t.rq,t.rp,t.ro],false,Z,.inr ⟨_,r _ _ x⟩,r _ _ u,T.jx,g6.at_,T.m8,?_⟩;refine cM (g6.sm _ _ N) (dq (Vu Z)) ?_;have U:q≠g:=aO O fk;refine R _ _ ⟨q,g,?_,by rw[aX];rfl,λJ=>(by rw[B]at J;cases J),λp' l' k' J=>?_,rfl⟩
   ·exact n.trans (G.trans (s.trans (r.put fk)))
   ·rw[B]at J;cases J;rw[au U];exact r _ _ O
 rintro d I ⟨q,g,G,N,hA,hB,rfl⟩;refine bO (λd b=>aj I b/\d=[some (.ref o),some (.ref a),some (.ref q),some (.ref g),none]) (λnx R=>?_) ?_
 ·refine⟨sz Z,λp4 y m=>?_⟩;refine⟨_,_,bA.lst (.of (m.sm _ _ N)) (wP [true,true,false]),bA.lst m.lst (wP [true,true,false]),by decide +kernel,by decide +kernel,?_⟩;refine ak (λe=>Ya e (by decide +kernel)) (λ_=>?_);exact R _ _ ⟨m.sm,Z⟩
 rintro d y ⟨s,rfl⟩;exact k q y (G.trans s) (λe=>by obtain⟨M,h1,h2⟩:=hA e;exact⟨M,s _ _ h1,s _ _ h2⟩) λp l F e=>s _ _ (hB p l F e)
def ut{k:Str}(h:Kd k):PyData.strOk k=true:=by rcases h with rfl|rfl|rfl<;>decide +kernel
def D2{D:Kt}{row:e7}(ok:cV D)(k:bp row){E:EL}(eE:E.map (λx=>x.2.2)=(bt D aQ row).map (λy=>(y.1,y.2.1,y.2.2.1))){E2:EL}{S2:List Sn}(hE:∃a b,E=a++E2++b/\∃c d,bt D aQ row=c++S2++d/\c.length=a.length/\S2.length=E2.length):Fz D (S2.map λy=>y.2.2.2) E2:=by
 have j:gP D 0 0 (cg D 0 (dC D 0 [] 0 row)) (bt D aQ row) (bF D row):=qI ok row aQ rfl (mC D) (cu.nil _ _) (Va _) k;obtain⟨a,b,rfl,c,d,eS,lc,o⟩:=hE;refine⟨by rw[U9];exact o,λi n x f hx=>?_⟩;rw[Vf]at f;cases hy:S2[i]? with
 | none=>rw[hy]at f;cases f
 | some y =>
 rw[hy]at f;cases f;have m:i<S2.length:=(Vh.mp hy).1;have hY:(bt D aQ row)[c.length+i]? = some y:=by
  rw[eS,VF,VZ (by lia),WE,V2 m,hy]
 have hX:(a++E2++b)[c.length+i]? = some x:=by
  rw[lc,VF,VZ (by lia),WE,V2 (by lia),hx]
 have e:x.2.2=(y.1,y.2.1,y.2.2.1):=by
  have this:((a++E2++b).map λx=>x.2.2)[c.length+i]? = _:=congrArg (λl=>l[c.length+i]?) eE;rw[Vf,Vf,hX,hY]at this;exact Vy this
 obtain⟨q,r,p,_⟩:=Ct j y (Vo hY);have h:x.2.2.2.1=y.2.1:=by rw[e]
 have g:x.2.2.2.2=y.2.2.1:=by rw[e]
 rw[h,g];exact⟨q,r,p⟩
def Hn(K:PySem.W.Frag)(t:Adr):Sp:=λvs H Q _=>∃(o p c q:Addr) (M:Md) (D:Kt) (row:e7) (a:Addr) (E:EL),vs=[.ref o,.ref p,.ref c,.ref q]/\TN t H o D/\Mod H p M/\Mt M D/\aH K H c (row.map V.int)/\bp row/\row.length<=400/\Fx D row H q a E/\∀H',aj H H'->Q (.bl true) H'
def Of (T:Txt w K mg t):bC P w K mg base "_law_read" 14 t.yd t.vx ["_law_tongue_here", "_law_model_here", "_law_row_here", "_law_due_here"] (Hn K t):=by
 refine⟨T.Pg,T.EN.kp,T.Sc,T.EN.okQ AX (λvs H Q E h=>by obtain⟨o,p,c,q,M,D,row,G,E,rfl,_⟩:=h;rfl) λ_ _ _ _ H vs Q E u h=>?_⟩;obtain⟨o,p,c,q,M,D,row,G,E,rfl,tn,N,mt,R,n,lr,⟨V,eE,fv,U,d⟩,k⟩:=h;have C:=u.units;have ok:=tn.koS;refine⟨_,(ah (aF (i:=4) AX.nd Z (.inl Z) (aW (Oe T) u (ad (aa 0) (ad (cw (U5 K) T.n_list VL (ad (aa 2) ae)) ae))))
  (ah (aD (aw gJ (ay (U3 K) (aa 3) ag (λ_ _=>rfl)) bW (av _)) (ai (aq (fB (da (bh (K:=K) rfl C) (bf (U2 K) T.n_len Ve (ad (aa 4) ae)) ag (av _)) (gE (aW (C0 T) u (ad (ay (U3 K) (aa 4) ag (λ_ _=>rfl)) (ad (aa 1) (ad (ay (U3 K) (aa 3) ag (λ_ _=>rfl)) ae)))))))) aG)
  (ai (aq (fB (da (bh (K:=K) rfl C) (bf (U2 K) T.n_len Ve (ad (aa 4) ae)) ag (av _)) (fB (aW (uF T) u (ad (ay (U3 K) (aa 4) ag (λ_ _=>rfl)) ae)) (fB (aW (uF T) u (ad (ay (U3 K) (aa 4) ag (λ_ _=>rfl)) ae)) (gE (da (bh (K:=K) rfl C) (cw (sx (K:=K) rfl) T.n_tuple WN (ad (aa 4) ae)) (ay (U3 K) (aa 3) ag (λ_ _=>rfl)) (av _)))))))))),?_⟩
 refine aS (.inl R) (λp1 H1 B=>?_);refine dl o p1 D row rfl (tn.mono B.sm) B.lst n (by lia) (λq2 H2 O hA hB=>?_);dsimp only [bU];have b:=B.sm.trans O;have e:=b _ _ U;have g:=V.mono b;cases ef:(bF D row).f with
 | none =>
  rw[ef]at d;obtain rfl:fv=.non:=d;obtain⟨I,l,W⟩:=hA ef;refine aU _ .non (.inr (.of e)) (aA (j:=1) Z) ?_;refine aS (.inl (.of l)) ?_;refine aU _ (.ref I) (.inl (.of l)) (aA (j:=0) Z) ?_;refine aU _ (.ref G) (.inr (.of e)) (aA (j:=0) Z) ?_;refine⟨I,p,G,M,D,_,E,Z,N.mono b,mt,W,g.1,λx hx=>⟨(g.2 x hx).1,(g.2 x hx).2.1⟩,?_,λm Y=>k m (b.trans Y)⟩;have lE:E.length=(bt D aQ row).length:=by
   have:=congrArg List.length eE
   rwa [U9,U9]at this
  have:=D2 ok n eE (E2:=E) (S2:=bt D aQ row) ⟨[],[],by simp,[],[],by simp,rfl,lE.symm⟩;rw[nL]at this;exact this
 | some z =>
  obtain⟨r,s,y⟩:=z;rw[ef]at d;obtain⟨L,rfl,F,S⟩:=d;have l:=hB r s y ef;refine aU _ (.ref L) (.inr (.of e)) (aA (j:=1) Z) ?_;refine aS (.inl (.of l)) ?_;refine aU _ (.int (r:Int)) (.inl (.of l)) (aA (j:=0) Z) ?_;refine aS Z ?_;refine iw ?_;refine aU _ (.int (s:Int)) (.inl (.of l)) (aA (j:=1) Z) ?_;refine aS Z ?_;refine iw ?_;refine aS (.inl (.of l)) (λp3 m v=>?_);refine aU _ (.ref L) (.inr (.of (v.sm _ _ e))) (aA (j:=1) Z) ?_;have J:∀ {a:Addr},m a=some (.tup [.int (r:Int),.int (s:Int),.str y])->bA K m (.tuple [.int (r:Int),.int (s:Int),.str y]) (.ref a):=λh=>bA.tup (.of h) (.cons (bA.int _) (.cons (bA.int _) (.cons (bA.str _) .nil)));have sh:SeqAt.shaped (.tuple [.int (r:Int),.int (s:Int),.str y])=true:=by simp[SeqAt.shaped,PyData.canLay0,PyData.canLayAll0,PyData.depth,PyData.depthAll,ut S]
  refine⟨_,_,J v.at_,J (v.sm _ _ (b _ _ F)),sh,sh,?_⟩;exact cO (k m (b.trans v.sm)) (by simp[PyData.eqv,PyData.eqvAll])
def iE(H:Hp)(p:Addr)(L:List (Addr × e7)):Prop:=H p=some (.lst (L.map λx=>V.ref x.1))/\∀x∈L,x.1≠p/\H x.1=some (.lst (x.2.map V.int))
def flt(L:List (Addr × e7)):e7:=(L.map λx=>x.2).flatten
def vi(L:List (Addr × e7))(q:Addr)(xs:e7):flt (L++[(q,xs)])=flt L++xs:=by
 unfold flt;rw[Vj,XA];simp
def iE.mono{H a:Hp}{p:Addr}{L:List (Addr × e7)}(h:iE H p L)(s:aj H a):iE a p L:=⟨s _ _ h.1,λx hx=>⟨(h.2 x hx).1,s _ _ (h.2 x hx).2⟩⟩
def iE.more{H c:Hp}{p q:Addr}{xs:e7}{L:List (Addr × e7)}(h:iE H p L)(g:bz H q (.lst (xs.map V.int)) c):iE (upd c p (.lst ((L.map λx=>V.ref x.1)++[.ref q]))) p (L++[(q,xs)]):=by
 have b:q≠p:=(aO h.1 g.nw).symm;refine⟨by rw[aX,Vj];rfl,λx a=>?_⟩;rcases Vm.mp a with z|z
 ·obtain⟨n,e⟩:=h.2 x z;exact⟨n,by rw[au n];exact g.sm _ _ e⟩
 ·rw[Vp.mp z];exact⟨b,by rw[au b];exact g.at_⟩
def DF{H:Hp}{L:List (Addr × e7)}{q:Addr}{xs:e7}(h:∀x∈L,H x.1=none)(n:H q=none):∀x∈L++[(q,xs)],H x.1=none:=λx hx=>by
 rcases Vm.mp hx with z|z
 ·exact h x z
 ·rw[Vp.mp z];exact n
def Hx(K:PySem.W.Frag):Sp:=λvs H Q _=>∃(a:Addr) (c:Int) (b:e7),vs=[.ref a,.int c]/\aH K H a (b.map V.int)/\b.length<=1000/\∀p (L:List (Addr × e7)) H',aj H H'->H p=none->iE H' p L->(∀x∈L,H x.1=none)->flt L=b->L.length<=2000->Q (.ref p) H'
def Og (T:Txt w K mg t):bC P w K mg base "_law_pieces" 2 t.ye t.vy ["_law_row_here", "_law_cell"] (Hx K):=by
 refine⟨T.Ph,T.EO.kp,T.Sd,T.EO.okQ jC (λvs H Q E h=>by obtain⟨a,c,d,rfl,_⟩:=h;rfl) λ_ _ _ _ H vs Q E hr h=>?_⟩;obtain⟨a,c,d,rfl,Y,lt,k⟩:=h;have hu:=hr.units;refine⟨_,(ah (aF (i:=2) jC.nd Z (.inl Z) (aM ae))
  (ah (aF (i:=3) jC.nd rfl (.inl rfl) ag)
  (ah (aF (i:=4) jC.nd rfl (.inl rfl) (aa 1))
  (ah (JT PassesOwn.never (aw cZ (aa 3) (bf (U2 K) T.n_len Ve (ad (aa 0) ae)) (av _)) (ah (aF (i:=4) jC.nd rfl (.inl rfl) (aW (uE T) hr (ad (aa 4) (ad (aa 3) ae))))
  (ah (aF (i:=5) jC.nd rfl (.inl rfl) (ay (U3 K) (aM (ad (bf (U2 K) T.n_len Ve (ad (aa 0) ae)) (ad ag (ad (aE (U0 K) ag (bB (ce (aa 4)))) (ad (aE (U0 K) ag (bB (ce (aa 4)))) ae))))) (bB (aa 1)) (λ_ _=>rfl)))
  (ah (aD (aw (bh (K:=K) rfl hu) (bB (aa 4)) ag (av _)) (ai (cY (dP (K:=K) rfl VD VO VP fX (aa 2) (ad (aM ae) ae)))) aG)
  (ah (cY (dP (K:=K) rfl VD VO VP fX (aa 2) (ad (fw (U4 K) (aa 0) (dO (aa 3)) (dO (aE (U0 K) (aa 3) (aa 5)))) ae)))
  (ai (aF (i:=3) jC.nd rfl (.inl rfl) (aE (U0 K) (aa 3) (aa 5)))))))))
  (ai (aq (aa 2))))))),?_⟩
 refine⟨sz Z,λp H1 u=>?_⟩;refine⟨λm σ l=>aj H l/\∃(n at_:Nat) (j:Int) (L:List (Addr × e7)) (B:Option V),iE l p L/\(∀x∈L,H x.1=none)/\flt L=d.take at_/\L.length<=2*n/\n<=at_/\n<=d.length/\m=d.length-at_/\σ=[some (.ref a),some (.int c),some (.ref p),some (.int (at_:Int)),some (.int j),B],⟨_,u.sm,0,0,c,[],_,⟨u.at_,(λ_ h=>nomatch h)⟩,(λ_ h=>nomatch h),rfl,Va _,Va _,Vq _,rfl,rfl⟩,?_⟩;rintro m σ H2 ⟨I,n,at_,j,L,B,hP,D,O,l1,l2,l3,rfl,rfl⟩;have r:=I.seq Y;refine aS (.inl r) ?_;refine ak (λz=>?_) (λz=>?_)
 ·have z:(at_:Int)<((d.map V.int).length:Int):=Yb z;rw[U9]at z;refine⟨λs l=>aj H l/\∃(n f:Nat) (j:Int) (L:List (Addr × e7)) (B:Option V),at_<f/\iE l p L/\(∀x∈L,H x.1=none)/\flt L=d.take f/\L.length<=2*n/\n<=f/\n<=d.length/\s=[some (.ref a),some (.int c),some (.ref p),some (.int (f:Int)),some (.int j),B],?_,?_⟩
  ·rintro s l ⟨s',n',f,b,o,W,al,R,S,F,a1,a2,a3,rfl⟩;exact⟨d.length-f,by lia,s',n',f,b,o,W,R,S,F,a1,a2,a3,rfl,rfl⟩
  refine gf rfl (by lia) (by lia) (λb n0 n1=>?_);refine aS (.inl r) ?_;refine⟨sz Z,λp3 H3 N=>?_⟩;obtain⟨g,e,k1,k2⟩:∃g:Nat,c8 [V.int ((d.map V.int).length:Int),.int 1,.int (1+b/7%3),.int (1+b/7%9)] (c%4)=some (.int (g:Int))/\1<=g/\g<=1000:=by
   rcases (show c%4=0\/c%4=1\/c%4=2\/c%4=3 by lia) with e|e|e|e<;>rw[e]
   ·exact⟨d.length,by rw[U9];rfl,by lia,by lia⟩
   ·exact⟨1,rfl,by lia,by lia⟩
   ·refine⟨(1+b/7%3).toNat,?_,by lia,by lia⟩;rw[WC (by lia)];rfl
   ·refine⟨(1+b/7%9).toNat,?_,by lia,by lia⟩;rw[WC (by lia)];rfl
  refine bi (.inl N.lst) e ?_;have hP3:=hP.mono N.sm;have U:=I.trans N.sm;dsimp only [bU];refine bO (λs l=>aj H l/\∃o:List (Addr × e7),iE l p o/\(∀x∈o,H x.1=none)/\flt o=d.take at_/\o.length<=L.length+1/\s=[some (.ref a),some (.int c),some (.ref p),some (.int (at_:Int)),some (.int b),some (.int (g:Int))]) (λnx hn=>?_) ?_
  ·refine ak (λ_=>?_) (λ_=>?_)
   ·refine⟨.inl ⟨rfl,_,.of hP3.1⟩,?_⟩;refine⟨sz Z,λp4 H4 C=>?_⟩;refine cM (C.sm _ _ hP3.1) (dq (by rw[U9];lia)) ?_;exact hn _ _ ⟨(U.trans C.sm).put u.nw,L++[(p4,[])],hP3.more (xs:=[]) C,DF D (U.free C.nw),by rw[vi,VI];exact O,by rw[Vc];exact Va _,Z⟩
   ·exact hn _ _ ⟨U,L,hP3,D,O,by lia,rfl⟩
  ·rintro s H5 ⟨M,o,hP5,G,J,l5,rfl⟩;refine⟨.inl ⟨rfl,_,.of hP5.1⟩,?_⟩;refine⟨_,Z,_,Z,_,M.seq Y,λq H6 v=>?_⟩;have e6:dR (d.map V.int) (some (at_:Int)) (some ((at_:Int)+(g:Int)))=((d.drop at_).take g).map V.int:=by
    rw[gL];exact congrArg _ (DY d at_ g)
   rw[e6]at v;refine cM (v.sm _ _ hP5.1) (dq (by rw[U9];lia)) ?_;refine⟨(M.trans v.sm).put u.nw,n+1,at_+g,b,o++[(q,(d.drop at_).take g)],some (.int (g:Int)),by lia,hP5.more v,DF G (M.free v.nw),by rw[vi,J,List.take_add],by rw[Vc];show _+1<=_;lia,by lia,by lia,?_⟩;rw[Int.natCast_add]
   rfl
 ·have z:¬(at_:Int)<((d.map V.int).length:Int):=λy=>z (Yc y);rw[U9]at z;exact k p L H2 I u.nw hP D (by rw[O,VW (by lia)]) (by lia)
theorem BH (D:Kt):∀(a:e7) (s:Rs) z,s.f=none->(aN D s a).1.f=some z->z.2.2=("broken" : Str)\/z.2.2=("strange" : Str)
 | [],s,z,h,h2=>by rw[show (aN D s []).1=s from rfl,h]at h2;cases h2
 | v::a,s,z,h,h2=>by
  rw[hV D h]at h2;cases e:(bn D s v).1.f with
  | none=>exact BH D a _ z e h2
  | some u =>
   rw[gF D (by rw[e];rfl),e]at h2;cases h2;unfold bn at e
   split at e
   ·unfold iu at e;dsimp only at e;cases el:aY D s.g (s.r++[v]) with
    | no =>
     rw[el]at e;cases e;show (ir D (s.r++[v])).2=_\/(ir D (s.r++[v])).2=_;unfold ir
     split
     ·exact .inr Z
     ·exact .inl Z
    | mo=>rw[el]at e;rw[h]at e;cases e
    | sg n g=>rw[el]at e;rw[h]at e;cases e
   ·rw[h]at e;cases e
def Qy{α:Type}{p:α->Bool}{a b c:List α}(d:∀x∈a,p x=false)(hb:∀x∈b,p x=true)(f:∀x∈c,p x=false):(a++b++c).filter p=b:=by
 have e:a.filter p=[]:=W9.mpr (λx hx=>by rw[d x hx];decide);have fb:b.filter p=b:=List.filter_eq_self.mpr hb;have fc:c.filter p=[]:=W9.mpr (λx hx=>by rw[f x hx];decide);rw[W8,W8,e,fb,fc];simp
def Qt{D:Kt}{row A h B:e7}(I:row=A++h++B){E:EL}(eE:E.map (λx=>x.2.2)=(bt D aQ row).map (λy=>(y.1,y.2.1,y.2.2.1))):∃E1 E2 E3 d,E=E1++E2++E3/\E.filter (λx=>decide ((A.length:Int)<(x.2.2.1:Int)) && decide ((x.2.2.1:Int)<=(A.length:Int)+(h.length:Int)))=E2/\(bt D aQ A).length=E1.length/\(bt D (aN D aQ A).1 h).length=E2.length/\bt D aQ row=bt D aQ A++bt D (aN D aQ A).1 h++d:=by
 have eS:bt D aQ row=bt D aQ A++bt D (aN D aQ A).1 h++bt D (aN D aQ (A++h)).1 B:=by rw[I,t0,t0]
 have lE:E.length=(bt D aQ row).length:=by
  have:=congrArg List.length eE
  rwa [U9,U9]at this
 obtain⟨j,C⟩:∃n,n=(bt D aQ A).length:=⟨_,rfl⟩;obtain⟨m,G⟩:∃n,n=(bt D (aN D aQ A).1 h).length:=⟨_,rfl⟩;have lS:=congrArg List.length eS;rw[Vc,Vc,<- C,<- G]at lS;have o:∀(i:Nat) x,E[i]? = some x->∃y,(bt D aQ row)[i]? = some y/\x.2.2.1=y.1:=λi x hx=>by
  have this:(E.map λx=>x.2.2)[i]? = _:=congrArg (λl=>l[i]?) eE;rw[Vf,Vf,hx]at this;cases e:(bt D aQ row)[i]? with
  | none=>rw[e]at this;cases this
  | some y =>
   rw[e]at this;exact⟨y,rfl,by have:=Vy this;exact congrArg (λz=>z.1) this⟩
 have r:∀y∈bt D aQ A,y.1<=A.length:=λy g=>by have:=(qf D A aQ y g).2;rw[show aQ.c=0 from rfl]at this;lia
 have u:∀y∈bt D (aN D aQ A).1 h,A.length<y.1/\y.1<=A.length+h.length:=λy g=>by
  by_cases c:(aN D aQ A).1.f.isSome=true
  ·rw[ja D c]at g;cases g
  ·have q:=qh D A aQ rfl (none_of c);have:=qf D h _ y g;rw[q,show aQ.c=0 from rfl]at this;lia
 have s:∀y∈bt D (aN D aQ (A++h)).1 B,A.length+h.length<y.1:=λy g=>by
  by_cases c:(aN D aQ (A++h)).1.f.isSome=true
  ·rw[ja D c]at g;cases g
  ·have q:=qh D (A++h) aQ rfl (none_of c);have:=(qf D B _ y g).1;rw[q,show aQ.c=0 from rfl,Vc]at this;lia
 have sp:E=E.take j++(E.drop j).take m++(E.drop j).drop m:=by rw[VF,V8,V8]
 refine⟨E.take j,(E.drop j).take m,(E.drop j).drop m,_,sp,?_,by rw[Vk];lia,by rw[Vk,VT];lia,eS⟩;have J:∀x∈E.take j,x.2.2.1<=A.length:=λx hx=>by
  obtain⟨i,k⟩:=WR.mp hx;have v:i<j:=by have:=(Vh.mp k).1;rw[Vk]at this;lia
  rw[Wz v]at k;obtain⟨y,g,e⟩:=o i x k;rw[eS,VF,V2 (by lia)]at g;rw[e];exact r y (Vo g)
 have L:∀x∈(E.drop j).take m,A.length<x.2.2.1/\x.2.2.1<=A.length+h.length:=λx hx=>by
  obtain⟨i,k⟩:=WR.mp hx;have v:i<m:=by have:=(Vh.mp k).1;rw[Vk]at this;lia
  rw[Wz v,XB]at k;obtain⟨y,g,e⟩:=o _ x k;rw[eS,VF,VZ (by lia),<- C,WE,V2 (by lia)]at g;rw[e];exact u y (Vo g)
 have F:∀x∈(E.drop j).drop m,A.length+h.length<x.2.2.1:=λx hx=>by
  obtain⟨i,k⟩:=WR.mp hx;rw[XB,XB]at k;obtain⟨y,g,e⟩:=o _ x k;rw[eS,VF,VZ (by lia),VZ (by lia)]at g;rw[e];exact s y (Vo g)
 have key:=Qy (p:=λx:Addr × Addr × Nat × e7 × Int=>decide ((A.length:Int)<(x.2.2.1:Int)) && decide ((x.2.2.1:Int)<=(A.length:Int)+(h.length:Int))) (a:=E.take j) (b:=(E.drop j).take m) (c:=(E.drop j).drop m) (λx hx=>?_) (λx hx=>?_) (λx hx=>?_)
 ·rw[<- sp]at key;exact key
 ·have:=J x hx;rw[Yd (by lia)];rfl
 ·have:=L x hx;rw[Yc (by lia),Yc (by lia)];rfl
 ·have:=F x hx;rw[Bool.and_eq_false_iff];exact .inr (Yd (by lia))
def vh{L:List (Addr × e7)}{k:Nat}{y:Addr × e7}(h:L[k]? = some y):flt (L.take (k+1))=flt (L.take k)++y.2:=by
 rw[fh h];exact vi _ y.1 y.2
def Qs{L:List (Addr × e7)}{k:Nat}{y:Addr × e7}(h:L[k]? = some y):flt L=flt (L.take k)++y.2++flt (L.drop (k+1)):=by
 rw[<- vh h];unfold flt;rw[<- XA,<- Vj,V8]
def QB{d H:Hp}{x dx o b m a:Addr}{D:Kt}{pl:Int}{s:Rs}{c:e7}{Q:VK}{E:XK}(h:Hr t d H x dx o b m D pl s s.f.isSome)(p:aH K d a (c.map V.int))(hw:bp c)(n:c.length<=1000)(bg:s.f=none->cu D s.g s.r)(k:Rp t d H x dx o m D pl (aN D s c) Q):AQ K t [.ref x,.ref a] H Q E:=by
 refine⟨d,x,dx,o,b,m,a,D,pl,s,_,c,rfl,h,p,hw,n,λe q j i h' l=>?_,λe=>⟨none_of (by rw[e];decide),bg (none_of (by rw[e];decide)),k⟩⟩;unfold Rp at k;rw[gF D e]at k;exact k q b j i (aO h.hb i).symm (by show Hr t d j x dx o b m D pl s s.f.isSome;rw[e];exact h') l
def Jx {D:Kt} {row:e7} {b g:Nat} {a:Str} (h:(bF D row).f=some (b,g,a)):(aN D aQ row).1.f.isSome = !(PyData.eqv (.str a) (.str ("short" : Str))):=by
 unfold bF at h;by_cases c:(aN D aQ row).1.f.isSome=true
 ·rw[X9 c]at h;rw[c];rcases BH D row aQ _ rfl h with e|e
  ·have e:a=("broken" : Str):=e;rw[e];decide +kernel
  ·have e:a=("strange" : Str):=e;rw[e];decide +kernel
 ·rw[X8 c]at h;have n:=none_of c;unfold jj at h;by_cases d:(aN D aQ row).1.r=[]
  ·rw[X9 d,n]at h;cases h
  ·rw[X8 d]at h;cases h;rw[n]
   decide +kernel
def tL(K:PySem.W.Frag):Sp:=λvs H Q _=>∃a,vs=[.ref a]/\∃ns:e7,aH K H a (ns.map V.int)/\ns.length<=63/\∀H',Q (.bl true) H'
def Ou (T:Txt w K mg t):bC P w K mg base "law" 15 t.yE t.rg ["_law_script"] (tL K):=by
 refine⟨T.Ds,T.zx.kp,T.SE,T.zx.okQ fo (λvs H Q E h=>by obtain⟨a,rfl,_⟩:=h;rfl) λ_ _ _ _ H vs Q E l h=>?_⟩;obtain⟨a,rfl,sc,h1,hc,kq⟩:=h;have hu:=l.units;refine⟨_,(ah (aF (i:=1) fo.nd Z (.inl Z) (aW (Ol T) l (ad (aW (qT T) l (ad (aa 0) (ad ag ae))) ae)))
  (ah (aF (i:=2) fo.nd rfl (.inl rfl) (aW (Od T) l (ad (aa 1) (ad (fw (U4 K) (aa 0) (dO ag) (dO ag)) ae))))
  (ah (aF (i:=3) fo.nd rfl (.inl rfl) (aW (Oa T) l (ad (aa 1) ae)))
  (ah (aF (i:=4) fo.nd rfl (.inl rfl) (aW (Op T) l (ad (aa 1) (ad (aa 2) ae))))
  (ah (aD (fR (fz (aW (Of T) l (ad (aa 3) (ad (aa 1) (ad (aa 2) (ad (aa 4) ae))))))) (ai (aq dQ)) aG)
  (ah (aF (i:=5) fo.nd rfl (.inl rfl) (aE eG (aE oo (ce (aW (qT T) l (ad (aa 0) (ad ag ae)))) (aE PN ag ag)) (bB (aW (qT T) l (ad (aa 0) (ad ag ae))))))
  (ah (aF (i:=6) fo.nd rfl (.inl rfl) (nK (NX T) l (ad (aa 3) (ad (aa 5) ae))))
  (ah (aF (i:=7) fo.nd rfl (.inr rfl) ag)
  (ah (dy PassesOwn.never rfl (d7 (K:=K) rfl (aW (Og T) l (ad (aa 2) (ad (aW (qT T) l (ad (aa 0) (ad ag ae))) ae)))) (bj (i:=8) fo.nd rfl (.inr rfl)) (ah (aF (i:=9) fo.nd rfl (.inl rfl) (fA (uM T) l (aa 6) (ad (cw (U5 K) T.n_list VL (ad (aa 8) ae)) ae)))
  (ah (aD (fR (fz (aW (C0 T) l (ad (aa 9) (ad (aa 1) (ad (hJ rfl (dG.of (fns:=(am jH).names) (N:=["_law_script", "_law_model_here", "_law_row_here", "_law_tongue_here", "_law_due_here", "_law_place", "_law_reader", "_law_at", "_law_piece", "_law_found", "_law_fault"]) (Nc:=["_law_end", "_law_at", "_law_piece"]) (nv:=1) (caps:=[7,8]) rfl rfl (by decide +kernel)) (d7 (K:=K) rfl (ay (U3 K) (aa 4) ag (λ_ _=>rfl))) (λ_ _ _ _=>(bj (i:=0) (show List.Nodup (["_law_end", "_law_at", "_law_piece"]:List Str) by decide +kernel) rfl (Or.inl rfl) (Or.inr rfl))) (λ_ _ _ _=>(Bt (nJ cZ eI (aa 1) (ay (U3 K) (aa 0) ag (λ_ _=>rfl)) (aE (U0 K) (aa 1) (bf (U2 K) T.n_len Ve (ad (aa 2) ae)))))) (λ_ _ _ _=>(aa 0))) ae)))))) (ai (aq dQ)) aG)
  (ai (aF (i:=7) fo.nd rfl (.inr rfl) (aE (U0 K) (aa 7) (bf (U2 K) T.n_len Ve (ad (aa 8) ae))))))))
  (ah (aD (aw gJ (ay (U3 K) (aa 4) ag (λ_ _=>rfl)) bW (av _)) (ai (aq (fB (da (bh (K:=K) rfl hu) (cC (uN T) l (aa 6)) (aM ae) (av _)) (fB (da (bh (K:=K) rfl hu) (cC (n5 T) l (aa 6)) (aM ae) (av _)) (fB (da (bh (K:=K) rfl hu) (cC (De T) l (aa 6)) (ay (U3 K) (aa 4) ag (λ_ _=>rfl)) (av _)) (gE (da gJ (cC (uK T) l (aa 6)) dQ (av _)))))))) aG)
  (ah (aD (aw (fY (K:=K) rfl hu) (cC (uK T) l (aa 6)) (da (fY (K:=K) rfl hu) (ay (U3 K) (ay (U3 K) (aa 4) ag (λ_ _=>rfl)) ag (λ_ _=>rfl)) bc (av _)) (av _)) (ai (aq dQ)) aG)
  (ah (aF (i:=10) fo.nd rfl (.inl rfl) (bR (ad (aE (U0 K) (aa 5) (ay (U3 K) (ay (U3 K) (aa 4) ag (λ_ _=>rfl)) ag (λ_ _=>rfl))) (ad (ay (U3 K) (ay (U3 K) (aa 4) ag (λ_ _=>rfl)) ag (λ_ _=>rfl)) (ad (ay (U3 K) (ay (U3 K) (aa 4) ag (λ_ _=>rfl)) ag (λ_ _=>rfl)) ae)))))
  (ah (dy PassesOwn.never rfl (d7 (K:=K) rfl (aM (ad bW (ad (aM ae) (ad (aM (hU rfl)) (ad bW ae)))))) (bj (i:=8) fo.nd rfl (.inr rfl)) (ah (aD (aw gJ (aa 8) bW (av _)) (ai (aF (i:=9) fo.nd rfl (.inl rfl) (cC (uN T) l (aa 6)))) (ai (aF (i:=9) fo.nd rfl (.inl rfl) (fA (uM T) l (aa 6) (ad (aa 8) ae)))))
  (ah (aD (bY (dw (aw (fY (K:=K) rfl hu) (aa 9) (aM ae) (av _)) (dw (aw qW (cC (uK T) l (aa 6)) dQ (av _)) (dJ (aw (fY (K:=K) rfl hu) (cC (n5 T) l (aa 6)) (aM (ad (aa 10) ae)) (av _)))))) (ai (aq dQ)) aG)
  (ah (aD (aw (fY (K:=K) rfl hu) (aM (ad (cC (ON T) l (aa 6)) (ad (cC (OS T) l (aa 6)) (ad (cC (De T) l (aa 6)) ae)))) (aM (ad (ay (U3 K) (aa 4) ag (λ_ _=>rfl)) (ad (ay (U3 K) (aa 4) ag (λ_ _=>rfl)) (ad (ay (U3 K) (aa 4) ag (λ_ _=>rfl)) ae)))) (av _)) (ai (aq dQ)) aG)
  (ai (cY (tX (K:=K) rfl VD PySem.F.slot_list_clear PySem.F.type_list_clear Ma (cC (n5 T) l (aa 6)))))))))
  (ai (aq dQ))))))))))))))),?_⟩
 refine jA λN eN=>?_;refine⟨a,sc,0,Z,h1,λc0 H1 s1=>?_⟩;refine gS c0 Z (λp M H2 s2 aP=>?_);subst eN;dsimp only [bU];refine jA λN eN=>?_;have c8:=s1.trans s2;refine⟨_,Z,_,Z,_,c8.seq h1,λpc H3 g3=>?_⟩;have bw:dR (sc.map V.int) (some 3) (some 63)=((sc.drop 3).take 60).map V.int:=by rw[gL];exact congrArg _ (DY sc 3 60)
 rw[bw]at g3;refine dl p pc M _ rfl (aP.mono g3.sm) g3.lst (by rw[Vk];lia) (ML aP) (λc row H4 s4 cO aJ l0=>?_);subst eN;dsimp only [bU];refine jA λN eN=>?_;have aR:=aP.mono (g3.sm.trans s4);refine aU p M Z aR (λo D H5 s5 mt c4=>?_);subst eN;dsimp only [bU];refine jA λN eN=>?_;have c7:=s5 _ _ cO;have ok:=c4.koS;refine⟨p,c,M,D,row,Z,aR.mono s5,mt,ok,.of c7,aJ,l0,λq pe E H6 s6 du=>?_⟩;have bP:=c4.mono s6;have b9:=aR.mono (s5.trans s6);have bQ:=s6 _ _ c7;subst eN;dsimp only [bU];have ca:=c8.trans (g3.sm.trans (s4.trans (s5.trans s6)));refine bO (λσ' U=>aj H6 U/\σ'=[some (.ref a),some (.ref p),some (.ref c),some (.ref o),some (.ref q),none,none,none,none,none,none]) (λnx hn=>?_) ?_
 ·refine⟨o,p,c,q,M,D,row,pe,E,Z,bP,b9,mt,.of bQ,aJ,l0,du,λH7 s7=>?_⟩;refine ak (λz=>Ya z (by decide)) (λ_=>?_);exact hn _ _ ⟨s7,Z⟩
 rintro σ' H7 ⟨s7,rfl⟩;have bG:=ca.trans s7;refine bO (λσ' U=>∃pl:Int,aj H7 U/\σ'=[some (.ref a),some (.ref p),some (.ref c),some (.ref o),some (.ref q),some (.int pl),none,none,none,none,none]) (λnx hn=>?_) ?_
 ·refine⟨a,sc,2,Z,bG.seq h1,λc2 H8 s8=>?_⟩;refine⟨⟨by decide,by decide,by decide⟩,(show (0:Int)<10 ^ 60 by decide),?_⟩;refine⟨a,sc,2,Z,(bG.trans s8).seq h1,λc3 H9 s9=>?_⟩;refine⟨.inr ⟨by lia,by lia⟩,?_⟩;exact hn _ _ ⟨_,s8.trans s9,Z⟩
 rintro σ' H8 ⟨pl,s8,rfl⟩;have aL:=s7.trans s8;have bT:=bP.mono aL;have bE:=b9.mono aL;have cR:=aL _ _ bQ;have J:=(ca.trans aL).seq h1;refine jA λN eN=>?_;refine λx dx hx cP dF=>?_;have sm:=i7 (C:=t.bH) hx cP;refine⟨x,dx,o,pl,rfl,aX,λb m H9 nb nm nbm k9 bx c5 cc=>⟨rfl,?_⟩⟩;have s9:aj H8 H9:=λa u e=>k9 a u (aO e hx) (sm a u e);have r9:=CS (pl:=pl) bT s9 hx (sm.free nb) (sm.free nm) nbm bx c5 cc;subst eN;dsimp only [bU];refine d6 [some (.ref a),some (.ref p),some (.ref c),some (.ref o),some (.ref q),some (.int pl),some (.ref x),some (.int 0),none,none,none] (λnx h=>h) ?_;refine jA λN eN=>?_;refine⟨a,sc,1,Z,s9.seq J,λc1 cF aV=>?_⟩;refine bL c c1 row rfl (.of (aV _ _ (s9 _ _ cR))) (by lia) (λpq L bm cE cT pc frL flL lL=>?_);have ba:=aV.trans cE;have cB:=r9.grow ba;obtain⟨Hb,eHb⟩:∃Hb,Hb=wo bm [x,b,m]:=⟨_,rfl⟩;have bg:aj H8 Hb:=by rw[eHb];exact j3 (s9.trans ba) r9.fx r9.fb r9.fm
 have rb:Hr t Hb bm x dx o b m D pl aQ false:=by rw[eHb];exact cB.side
 have c6:∀ {d:Addr} {u:HO},cF d=none->bm d=some u->Hb d=some u:=λn e=>by
  rw[eHb];exact j4 (aO (aV _ _ bx) n).symm (aO (aV _ _ c5) n).symm (aO (aV _ _ cc) n).symm e
 have cM:=c6 cT pc.1;have cs:∀y∈L,Hb y.1=some (.lst (y.2.map V.int)):=λy hy=>c6 (frL y hy) (pc.2 y hy).2;have cS:=bT.mono bg;have c9:=bE.mono bg;have bq:=aL.trans bg;obtain⟨cG,eE,fv,cz,af⟩:=du;have ed:=cG.mono bq;have hq:=bq _ _ cz;refine⟨pq,Z,⟨_,.of pc.1⟩,DG (K:=K) (a:=pq) (xs:=L.map λx=>V.ref x.1) (λi σ U=>∃(b':Addr) (v8 v9:Option V),Hr t Hb U x dx o b' m D pl (aN D aQ (flt (L.take i))).1 (aN D aQ (flt (L.take i))).1.f.isSome/\σ=[some (.ref a),some (.ref p),some (.ref c),some (.ref o),some (.ref q),some (.int pl),some (.ref x),some (.int ((flt (L.take i)).length:Int)),v8,v9,none])
  ⟨b,_,_,rb,rfl⟩ (λi σ U _ z=>by obtain⟨b',v8,v9,h',_⟩:=z;exact .of (h'.sb _ _ cM)) ?_ ?_⟩
 ·rintro i v σ bV N2 eM hv ⟨b',v8,v9,k,rfl⟩;rw[Vf]at hv;cases hy:L[i]? with
  | none=>rw[hy]at hv;cases hv
  | some y =>
  rw[hy]at hv;cases hv;have my:=Vo hy;have bl:=cs y my;have er:=Qs hy;rw[flL]at er;have byA:bp (flt (L.take i)):=λz hz=>aJ z (by rw[er];simp[hz]);have byW:bp y.2:=λz hz=>aJ z (by rw[er];simp[hz]);have dM:y.2.length<=row.length:=by rw[er];simp only [Vc];lia
  refine bL x dx _ Z k.hx Z ?_;refine aS (.inl (.of (k.sb _ _ bl))) (λpz ap I=>?_);have G:=k.grow I.sm;obtain⟨ms,em⟩:=k.ft.lst;have wz:wo ap [x,b',m] pz=some (.lst (y.2.map V.int)):=j4 (aO k.hx I.nw).symm (aO k.hb I.nw).symm (aO em I.nw).symm I.at_;have cr:aj Hb (wo ap [x,b',m]):=j3 G.sb G.fx G.fb G.fm;dsimp only [i4];refine QB G.side (.of wz) byW (by lia) (λe=>(t5 ok _ aQ rfl (mC D) (cu.nil _ _) byA e).2) λf b2 b7 nf dD cx hf=>?_;have bd:=cx.back cr cS;have Y:=bd.sb;obtain⟨E1,E2,E3,d,eE2,eF,l1,l2,eS⟩:=Qt er eE;dsimp only [bU];refine bO (λσ' U=>aj b7 U/\σ'=[some (.ref a),some (.ref p),some (.ref c),some (.ref o),some (.ref q),some (.int pl),some (.ref x),some (.int ((flt (L.take i)).length:Int)),some (.ref y.1),some (.ref f),none]) (λnx hn=>?_) ?_
  ·refine bi (.inr (.of (Y _ _ hq))) (aA (j:=0) Z) ?_;refine dX pe rfl ⟨_,.of (Y _ _ ed.1)⟩ (oX (xs:=E.map λx=>V.ref x.1) (λj ys U=>b7=U/\ys=((E.take j).filter (λx=>decide (((flt (L.take i)).length:Int)<(x.2.2.1:Int)) && decide ((x.2.2.1:Int)<=((flt (L.take i)).length:Int)+(y.2.length:Int)))).map (λx=>V.ref x.1)) ⟨rfl,rfl⟩ (λj ys U hj z=>?_) ?_ (λj z ys U N hz z1 hN=>?_) (λys U cq dU z1 g=>?_))
   ·obtain⟨rfl,rfl⟩:=z;refine⟨.of (Y _ _ ed.1),?_⟩;rw[U9];refine Vs (List.length_filter_le _ _) ?_;rw[Vk];exact Nat.min_le_left _ _
   ·have:=congrArg List.length eE;rw[U9,U9]at this;have l3:=nL D row aQ;have:=congrArg List.length l3;rw[U9]at this;have:=qg D row aQ;exact cQ (by rw[U9];lia)
   ·obtain⟨rfl,rfl⟩:=z1;rw[Vf]at hz;cases hw:E[j]? with
    | none=>rw[hw]at hz;cases hz
    | some u =>
    rw[hw]at hz;cases hz;have a2:=hN _ _ ⟨rfl,rfl⟩;rw[fh hw,W8,Vj]at a2;refine bi (.inr (.of (Y _ _ (ed.2 u (Vo hw)).1))) (aA (j:=0) Z) ?_;refine ak (λz=>?_) (λz=>?_)
    ·refine aS (.inl (.of (Y _ _ bl))) ?_;rw[U9];refine ak (λz2=>?_) (λz2=>?_)
     ·rw[XC,X9 (by rw[z,z2];rfl)]at a2;exact a2
     ·rw[XC,X8 (by rw[VB];exact λy=>z2 y.2)]at a2;rw[List.filter_nil,WX,VI]at a2;exact a2
    ·rw[XC,X8 (by rw[VB];exact λy=>z y.1)]at a2;rw[List.filter_nil,WX,VI]at a2;exact a2
   ·obtain⟨rfl,rfl⟩:=z1;rw[U9,Vw,eF]at g;have aI:=Y.trans g.sm;have mE:∀u∈E2,u∈E:=λu hu=>by rw[eE2];simp[hu]
    refine⟨f,p,cq,M,D,_,E2,Z,c9.mono aI,mt,g.sm _ _ hf,g.at_,(λu hu=>⟨aI _ _ (ed.2 u (mE u hu)).1,aI _ _ (ed.2 u (mE u hu)).2.1⟩),?_,λaB be=>?_⟩
    ·rw[<- nL];exact D2 ok aJ eE ⟨E1,E3,eE2,_,d,eS,l1,l2⟩
    refine ak (λz=>Ya z (by decide)) (λ_=>?_);exact hn _ _ ⟨g.sm.trans be,Z⟩
  rintro σ' bZ ⟨cI,rfl⟩;have bS:=bd.grow cI;refine aS (.inl (.of (bS.sb _ _ bl))) ?_;subst eM;refine⟨b2,some (.ref y.1),some (.ref f),?_,?_⟩
  ·rw[vh hy,qi];exact bS
  ·rw[vh hy,Vc,U9,Int.natCast_add]
   rfl
 rintro σ bV ⟨b',v8,v9,k,rfl⟩;subst eN;rw[U9,Vw,flL]at k ⊢;unfold jz;dsimp only;have W:=k.sb _ _ hq;cases ef:(bF D row).f with
 | none =>
  rw[ef]at af;have af:fv=.non:=af;subst af;refine bO (λ_ _=>False) (λnx hn=>?_) (λ_ _ z=>z.elim);refine bi (.inr (.of W)) (aA (j:=1) Z) ?_;refine bL x dx _ rfl k.hx rfl (i5 λzq zh=>⟨Hb,x,dx,o,b',m,D,pl,_,_,rfl,k,λz=>none_of (by rw[z];decide),λq3 ap b4 G a3=>zh _ _ ?_⟩);have G:Hr t Hb ap x dx o b' m D pl (bF D row) true:=G;refine⟨sz Z,λdL b7 B=>?_⟩;refine⟨_,_,bA.lst (.of (B.sm _ _ a3)) (cX.ints []),bA.lst B.lst (cX.ints []),V9 [],V9 [],?_⟩;have ft:=G.ft;rw[ef]at ft;have ft:ap m=some (.lst []):=ft;have b8:=B.sm _ _ G.hx;refine bL x dx _ Z b8 Z (i5 λzq zh=>⟨x,dx,o,b',m,pl,_,_,true,_,Z,b8,B.sm _ _ ft,λdV bZ a0=>zh _ _ ?_⟩);refine⟨sz Z,λdW aB O=>?_⟩;refine⟨_,_,bA.lst (.of (O.sm _ _ a0.at_)) (cX.ints []),bA.lst O.lst (cX.ints []),V9 [],V9 [],?_⟩;have ax:=B.sm.trans (a0.sm.trans O.sm);have a9:=ax _ _ G.hx;refine bL x dx _ Z a9 Z ⟨x,dx,o,b',m,pl,_,_,true,Z,a9,?_⟩;refine bi (.inr (.of (ax _ _ (G.sb _ _ hq)))) (aA (j:=4) Z) ?_;refine ak (λ_=>?_) (λz=>Ya (Yc Z) z);refine bL x dx _ Z a9 Z ⟨x,dx,o,b',m,pl,_,_,true,Z,a9,?_⟩;exact⟨(λf z=>nomatch z),kq _⟩
 | some z =>
  obtain⟨zp,zl,zk⟩:=z;rw[ef]at af;obtain⟨pf,rfl,bz,kd⟩:=af;have ct:=bq _ _ bz;have kd:Kd zk:=kd;refine d6 [some (V.ref a),some (V.ref p),some (V.ref c),some (V.ref o),some (V.ref q),some (V.int pl),some (V.ref x),some (V.int (row.length:Int)),v8,v9,none] (λnx h=>⟨_,_,.inr (.of W),aA (j:=1) Z,h⟩) ?_;have a4:=k.sb _ _ ct;have ov:=Jx ef;refine d6 [some (V.ref a),some (V.ref p),some (V.ref c),some (V.ref o),some (V.ref q),some (V.int pl),some (V.ref x),some (V.int (row.length:Int)),v8,v9,none] (λnx h=>?_) ?_
  ·refine bL x dx _ Z k.hx Z ⟨x,dx,o,b',m,pl,_,_,_,Z,k.hx,?_⟩;refine aU _ (.ref pf) (.inr (.of W)) (aA (j:=1) Z) ?_;refine aU _ (.str zk) (.inr (.of a4)) (aA (j:=2) Z) ?_;refine xS (by simp[SeqAt.shaped,PyData.canLay0,PyData.depth,ut kd]) (by decide +kernel) ?_;refine ak (λz=>Ya z ?_) (λ_=>h);rw[ov];simp
  refine jA λN eN=>?_;refine aU _ (.ref pf) (.inr (.of W)) (aA (j:=1) Z) ?_;refine aU _ (.int (zp:Int)) (.inr (.of a4)) (aA (j:=0) Z) ?_;refine aU _ (.ref pf) (.inr (.of W)) (aA (j:=1) Z) ?_;refine aU _ (.int (zl:Int)) (.inr (.of a4)) (aA (j:=1) Z) ?_;refine aU _ (.ref pf) (.inr (.of W)) (aA (j:=1) Z) ?_;refine aU _ (.str zk) (.inr (.of a4)) (aA (j:=2) Z) ?_;refine⟨sz Z,λpt ap I=>?_⟩;subst eN;dsimp only [bU];refine⟨sz Z,λe1 b7 B=>?_⟩;refine⟨sz Z,λe2 bZ a0=>?_⟩;refine⟨sz Z,λe4 aB O=>?_⟩;obtain⟨ms,em⟩:=k.ft.lst;have be:=I.sm.trans (B.sm.trans (a0.sm.trans O.sm));have aT:=k.grow be;obtain⟨Hc,eHc⟩:∃Hc,Hc=wo aB [x,b',m]:=⟨_,rfl⟩;have rc:Hr t Hc aB x dx o b' m D pl (aN D aQ row).1 (aN D aQ row).1.f.isSome:=by rw[eHc];exact aT.side
  have cK:aj Hb Hc:=by rw[eHc];exact j3 aT.sb aT.fx aT.fb aT.fm
  have b0:∀ {d:Addr} {u:HO},bV d=none->aB d=some u->Hc d=some u:=λn e=>by
   rw[eHc];exact j4 (aO k.hx n).symm (aO k.hb n).symm (aO em n).symm e
  have cU:=b0 I.nw ((B.sm.trans (a0.sm.trans O.sm)) _ _ I.at_);have cA:=b0 (I.sm.free B.nw) ((a0.sm.trans O.sm) _ _ B.at_);have cJ:=b0 ((I.sm.trans B.sm).free a0.nw) (O.sm _ _ a0.at_);have cy:=b0 ((I.sm.trans (B.sm.trans a0.sm)).free O.nw) O.at_;have cN:=cK _ _ hq;refine⟨e4,Z,⟨_,O.lst⟩,DG (K:=K) (a:=e4) (xs:=[.non,.ref e1,.ref e2,.non]) (λi σ U=>∃(b2:Addr) (v8 v9:Option V),Hr t Hc U x dx o b2 m D pl (if i=0 then (aN D aQ row).1 else bF D row) (if i=0 then (aN D aQ row).1.f.isSome else true)/\σ=[some (.ref a),some (.ref p),some (.ref c),some (.ref o),some (.ref q),some (.int pl),some (.ref x),some (.int (row.length:Int)),v8,v9,some (.ref pt)])
   ⟨b',_,_,rc,rfl⟩ (λi σ U _ z=>by obtain⟨b2,v8,v9,h',_⟩:=z;exact .of (h'.sb _ _ cy)) ?_ ?_⟩
  ·rintro i v σ cH N2 eM hv ⟨b2,v8,v9,a6,rfl⟩;refine bO (λσ' U=>Hr t Hc U x dx o b2 m D pl (bF D row) true/\∃f,U f=some (.lst [])/\σ'=[some (.ref a),some (.ref p),some (.ref c),some (.ref o),some (.ref q),some (.int pl),some (.ref x),some (.int (row.length:Int)),some v,some (.ref f),some (.ref pt)]) (λnx hn=>?_) ?_
   ·match i,hv with
    | 0,hv =>
     cases hv;exact⟨x,dx,_,rfl,a6.hx,rfl,Hc,x,dx,o,b2,m,D,pl,_,_,rfl,a6,(λz=>none_of (s:=(aN D aQ row).1) (by rw[show (aN D aQ row).1.f.isSome=false from z];decide)),λq3 b1 b4 J a3=>hn _ _ ⟨J,q3,a3,rfl⟩⟩
    | 1,hv =>
     cases hv;exact⟨x,dx,_,rfl,a6.hx,rfl,Hc,x,dx,o,b2,m,e1,D,pl,_,true,[],rfl,a6,.of cA,(λ_ z=>nomatch z),by decide,λ_ q3 b1 b4 J a3=>hn _ _ ⟨J,q3,a3,rfl⟩,λz=>nomatch z⟩
    | 2,hv =>
     cases hv;exact⟨x,dx,_,rfl,a6.hx,rfl,Hc,x,dx,o,b2,m,e2,D,pl,_,true,[65,0,65,0],rfl,a6,.of cJ,(λz hz=>by simp only [Vr,Xa,or_false]at hz;lia),by decide,λ_ q3 b1 b4 J a3=>hn _ _ ⟨J,q3,a3,rfl⟩,λz=>nomatch z⟩
    | 3,hv =>
     cases hv;exact⟨x,dx,_,rfl,a6.hx,rfl,Hc,x,dx,o,b2,m,D,pl,_,true,rfl,a6,(λz=>nomatch z),λq3 b1 b4 J a3=>hn _ _ ⟨J,q3,a3,rfl⟩⟩
    | n+4,hv=>cases hv
   rintro σ' b1 ⟨J,f,hf,rfl⟩;refine⟨sz Z,λdI dp bs=>?_⟩;refine⟨_,_,bA.lst (.of (bs.sm _ _ hf)) (cX.ints []),bA.lst bs.lst (cX.ints []),V9 [],V9 [],?_⟩;have an:=J.grow bs.sm;refine bL x dx _ Z an.hx Z ⟨x,dx,o,b2,m,pl,_,_,true,Z,an.hx,?_⟩;refine⟨(λf z=>nomatch z),?_⟩;have ft:=an.ft;rw[ef]at ft;obtain⟨fa,bD,bt⟩:=ft;refine bL x dx _ Z an.hx Z (i5 λzq zh=>⟨x,dx,o,b2,m,pl,_,_,true,_,Z,an.hx,bD,λdA dB br=>zh _ _ ?_⟩);refine⟨sz Z,λdz bN b6=>?_⟩;have S:=an.grow (br.sm.trans b6.sm);have dd:∀ {a:Addr},bN a=some (.tup [.int (pl+(zp:Int)),.int (zl:Int),.str zk])->bA K bN (.tuple [.int (pl+(zp:Int)),.int (zl:Int),.str zk]) (.ref a):=λh=>bA.tup (.of h) (.cons (bA.int _) (.cons (bA.int _) (.cons (bA.str _) .nil)));have sh:SeqAt.shaped (.list [.tuple [.int (pl+(zp:Int)),.int (zl:Int),.str zk]])=true:=by simp[SeqAt.shaped,PyData.canLay0,PyData.canLayAll0,PyData.depth,PyData.depthAll,ut kd]
   refine⟨_,_,bA.lst (.of (b6.sm _ _ br.at_)) (.cons (dd ((br.sm.trans b6.sm) _ _ bt)) .nil),bA.lst b6.lst (.cons (dd (S.sb _ _ cU)) .nil),sh,sh,?_⟩;refine ak (λz=>Ya z (by simp[PyData.eqv,PyData.eqvAll])) (λ_=>?_);dsimp only;refine bO (λσ' U=>Hr t Hc U x dx o b2 m D pl (bF D row) true/\σ'=[some (.ref a),some (.ref p),some (.ref c),some (.ref o),some (.ref q),some (.int pl),some (.ref x),some (.int (row.length:Int)),some v,some (.ref f),some (.ref pt)]) (λnx hn=>?_) ?_
   ·refine bL x dx _ Z S.hx Z ⟨x,dx,o,b2,m,pl,_,_,true,Z,S.hx,?_⟩;refine bL x dx _ Z S.hx Z ⟨x,dx,o,b2,m,pl,_,_,true,_,Z,S.hx,S.hb,?_⟩;refine bL x dx _ Z S.hx Z ⟨x,dx,o,b2,m,pl,_,_,true,Z,S.hx,?_⟩;refine⟨sz Z,λdP dT b5=>?_⟩;have aH:=(S.grow b5.sm).sb _ _ cN;refine bi (.inr (.of aH)) (aA (j:=2) Z) ?_;refine bi (.inr (.of aH)) (aA (j:=3) Z) ?_;refine bi (.inr (.of aH)) (aA (j:=4) Z) ?_;refine⟨sz Z,λdC dh bn=>?_⟩;rw[U9]at b5;refine⟨_,_,bA.lst (.of (bn.sm _ _ b5.at_)) (cX.ints [((bF D row).c:Int),((bF D row).r.length:Int),(bF D row).g]),bA.lst bn.lst (cX.ints [((bF D row).c:Int),((bF D row).r.length:Int),(bF D row).g]),V9 _,V9 _,?_⟩;refine ak (λz=>Ya (show (!PyData.eqv (.list ([((bF D row).c:Int),((bF D row).r.length:Int),(bF D row).g].map PyData.int)) (.list ([((bF D row).c:Int),((bF D row).r.length:Int),(bF D row).g].map PyData.int)))=true from z) (by rw[rn];simp)) (λ_=>?_);exact hn _ _ ⟨S.grow (b5.sm.trans bn.sm),Z⟩
   rintro σ' cv ⟨a7,rfl⟩;have ft:=a7.ft;rw[ef]at ft;obtain⟨fb,aC,aK⟩:=ft;refine bL x dx _ Z a7.hx Z (i5 λzq zh=>⟨x,dx,o,b2,m,pl,_,_,true,_,Z,a7.hx,aC,λbX dg a8=>zh _ _ ?_⟩);refine⟨.inl ⟨rfl,_,.of a8.at_⟩,bX,_,rfl,rfl,a8.at_,?_⟩;have R:=a7.grow a8.sm;have np:∀ {d:Addr} {u:HO},cv d=some u->d≠bX:=λe=>aO e a8.nw;subst eM;refine⟨b2,some v,some (.ref f),?_,Z⟩;show Hr t Hc _ x dx o b2 m D pl (bF D row) true;refine⟨R.tn,R.sb.put (a7.sb.free a8.nw),R.fx,R.fb,R.fm,R.nbm,by rw[au (np a7.hx)];exact R.hx,by rw[au (np a7.hb)];exact R.hb,?_,R.pg,R.lc⟩;rw[ef];exact⟨fb,by rw[au (np aC)];exact a8.sm _ _ aC,by rw[au (np aK)];exact a8.sm _ _ aK⟩
  ·rintro σ cH _;exact kq _
end
end My
namespace My
open PySem L2
theorem Nd{Pm:List Value->Prop}(h:∀_:Unit,Pm []):∀us:List Value,us.length=0->Pm us
 | [],_=>h ()
theorem bT{Pm:List Value->Prop}(h:∀a,Pm [a]):∀us:List Value,us.length=1->Pm us
 | a::us,e=>Nd (Pm:=λus=>Pm (a::us)) (λ_=>h a) us (VX e)
theorem bS{Pm:List Value->Prop}(h:∀a b,Pm [a,b]):∀us:List Value,us.length=2->Pm us
 | a::us,e=>bT (Pm:=λus=>Pm (a::us)) (λb=>h a b) us (VX e)
theorem de{Pm:List Value->Prop}(h:∀a b c,Pm [a,b,c]):∀us:List Value,us.length=3->Pm us
 | a::us,e=>bS (Pm:=λus=>Pm (a::us)) (λb c=>h a b c) us (VX e)
theorem Cp{Pm:List Value->Prop}(h:∀a b d c,Pm [a,b,d,c]):∀us:List Value,us.length=4->Pm us
 | a::us,e=>de (Pm:=λus=>Pm (a::us)) (λb d c=>h a b d c) us (VX e)
def U6{Pm:List Value->Prop}{ds:List Value}{ps:List Str}(h:∀x0 x1,Pm [x0,x1])(e:ps.length=2+ds.length:=by rfl):∀us:List Value,(us++ds).length=ps.length->Pm us:=λus b=>by
 have a:us.length=2:=(by rw[Vc,e]at b;omega);exact bS h us a
def U7{Pm:List Value->Prop}{ds:List Value}{ps:List Str}(h:∀x0 x1 x2,Pm [x0,x1,x2])(e:ps.length=3+ds.length:=by rfl):∀us:List Value,(us++ds).length=ps.length->Pm us:=λus b=>by
 have a:us.length=3:=(by rw[Vc,e]at b;omega);exact de h us a
def U8{Pm:List Value->Prop}{ds:List Value}{ps:List Str}(h:∀x0,Pm [x0])(e:ps.length=1+ds.length:=by rfl):∀us:List Value,(us++ds).length=ps.length->Pm us:=λus b=>by
 have a:us.length=1:=(by rw[Vc,e]at b;omega);exact bT h us a
def txt_mk{w:World}{K:W.Frag}{h:Heap}{mg:Str->Option Value}(X:K.In h)(G:h.Ns mainGlobals mg)
 {ia na ka fa la oa ha ja a0 da Xt a1 a2 a3 a4 a5 a6 a7 a8 a9 Nd ve Dc Mc Cf gg rf Uf zf qf Ff Af Qf Jb ga jf hd je Zb nb cc Pf tf Lf If Hf wc ea ad hf Sc cg Yd ca Fc Te Nc We pd ke Sd Pd Sf Of Rf Yb aa zc qc He Ac Wc Rd Kf eg Ef td ba Dd Bc Ie Ic vd Df dg qg ig Tf pg Yf fg jg bg Mf uf kg Nf wf Zf ag Vf ng Jf Gf yf Bf vf Wf hg Xf kb lb qa Aa za Ea Ga va Da Ca Ba Ia Tb Gb Xa Za La Wa ab Ob:Addr}{Ru bx Hn rx Sw Su Vw Zv Bv Mx Wv Tv ox fv Bw Rv kw dw nw Ax Nv Us ai Ip en Gg fr tr Yl lk Th hi Nh Tn Xr Mp Fm Ni nj sm yo pn zr Jr nm Uq Vm hk jp Fs Rs Yc rh Ko we Uh Sl oc ji hm Gh Dh Xm Sr Ih Do Pl Qq Kh gh fd lq co Xe es dm Qp Qk ze lr rn Gn pq Vs ok Mo Sp Ye fp ul Qc Sm Jg Vp Up Qr qm Bj Wi Ro al Ho qq Hm bp bf Ym Yo Zd Sk kj Xn Jj oo cs js br Aq Dj ph Eh ud Ds Tk uc Ig Ir ch yj Rg Um Sh wm dp Hs Hp rg ug nh vr bt Kr Ar Qs Cg Nq im Eg Kq Jk tj Ss Gs ck Qj Ws Sq Zn ij yk yg Fo ar th Sn cp Qg Lq Rj Er Wm zm jm Rh ti fl Lh:Option Addr}{Pu Np Xv Lv Qw Rx Nw Vx qw vv pv Hl Wr Zi Eo Uk Ai Ks pp ao Jo vp fk Rp Xi Vh dd Qh Uc Fj pe Nl bh gi Oj sl Bk ie Xj Fe Oq Ol Vd On Bl Zo Bo yd Dp lc Jn no Li Nr Fg jh Jm Ce Zk bc oq Xq nq pl Ek Fq Ad ll ee Wn op Im vm Vq vj Ur Qn Es Cl vn Hr sg ui qs Zr mo iq El Xp Ep ik Yh Fi Ei Gk gc Jc yb vb wb Eb pb sb mb zb rb Db yp Xb Sb Mb Kb Qb em:Array (Option Value)}{Ix Kx Ex Jv gu cw Tr Kw Zw vx Gw vu Tw Fx tw Hw yw Ft sx Gx ev Kv Fv zt bw Iw Mv Zu Dw tu uv Uu Bx ix gx nu Uv Ew kv Hv Rw Hu Qu ow Lx ax Lw Jt Ov cx Vv jx vw ju Aw bv jw Nx aw Et Cw cn To Cm po Ec gs hn Bp Ah Rk ic Bs Hq vq Vk Ul Oc gl Mh Pn Fl Ui he Bq go vs Pm qk Ve Xg wj Cr sn Zp af er gr gm Pq xl Ge Iq hj hh Kl rj Ze Wl Lp Rq Ms Mq vc dk dl fo jj Dl kc ro So Jp uk vh Qd uq Hi Mj Lm to se ts eh vg eo Nk ed dq yi dr Tp Si Xc fn Cn qn Di Xk ff zl Ed yq Xl Vr zo Be Pp Gc qr Ej Yi zh qe Zq yc vo rk Hk hs Ke et Oi Bi fm ct Bd wn aj ys Pr Op Re Uj tg ei nn gj ue nk Mk zs cq Po kf mr pm hr Lr Wh Vc Ci Xd Bn fj Uo xj Kd Wj Ld Dm an Ck Al jc Ql Pj jo Ls tk Ud Pk Cc wo Em ir Dr Hc Go bn wp qi Bg Me Ng wq Lg Co bs De Kk di Ak Vn Js Cd pk Jd dh Fh kp Mg ce Cq Le ah jr ap Yp Gd un ek ip Oo np Kc nl hp zj Hh Dn qd Lj Mi zn up Ao fc tm Qi mp Jq Wo wd rs Zm Ok hl ih re Cj Zj zk lo Fk ec Vi Rc Wk No Xs Lk fe rm zd ii Zs Wq Ri nd bk cr sj Xo wr be tq aq Tj zp ci Od ms Gm il on Zl Fd qp Tm bl Vj Nj nc gp uj Rl ni ym jd Dg mc Zh Tq Xh rl Se sh Id Dk kk Aj Is Hd En Jh Vo Ii Wg Wd cm vl tl Ln bm nf Yj Om dj wg Am df ki Bh ep qo Ag ae zq us ws ri yr Lc fh Il Pg yl Jl pc Vl Dq li dt rr Oe dn Ik Un zg Sg gf jk ln Ki bi pr Md vi Ug Gj ej Ph od hq uo tn Hg qh dc ur Yn Zg Ch cl Zc tp xs Os Ap Yq ye Oh wh fq Rm ks md vk rp Vg Tl nr Tc ss Fn os Bm Fr kd Ij bo Yr Ji pj ld Gq Ll Rr Kj yh cf Km Wp Ti Lo qj oe Sj um jn sp An xe zi As Kg Kn Rn sc kn gq bj wk Ps tc wi Gi Nn Kp Mr cd lp Mm cj Ys ho bd ql kq Nm ns Gl pf gk:Value}{jq rd Ue ef Td Pe xd rc Qe Je Pc Ee Ae dv hc te Cb ub qb Bb Ab Fb Hb tb ob Ib wl Br Lb Vb Ub Nb Wb Cs:Nat}{gb Ka Sa Ta Pa Na bb cb Ua Ra eb Ja Qa u0 u1 u3 u4 u5 u6 u7 u8 u9 At Cu Eu zu mu qt yt:Tok}{eu gd:Array DictEntry}{hb ib:Int}{fb jb pa Fa xa sa wa ta ya ra Ha ua Pb Ma db Va Ya Oa Rb:Array Value}
 (om:W.nsIn K mainGlobals "BadLetters"=some (some (.ref ia)))
 (ol:W.nsIn K mainGlobals "BadPage"=some (some (.ref na)))
 (oj:W.nsIn K mainGlobals "BadTable"=some (some (.ref ka)))
 (mN:W.nsIn K mainGlobals "Faulty"=some (some (.ref fa)))
 (oi:W.nsIn K mainGlobals "NoOrder"=some (some (.ref la)))
 (oh:W.nsIn K mainGlobals "NoSign"=some (some (.ref oa)))
 (mM:W.nsIn K mainGlobals "TongueError"=some (some (.ref ha)))
 (og:W.nsIn K mainGlobals "TooGreat"=some (some (.ref ja)))
 (jB:W.findIn K (.ref fa) "__getattribute__"=some (some (.builtin "BaseException.__getattribute__")))
 (rB:W.findIn K (.ref fa) "__getattr__"=some none)
 (lB:W.mroIn K fa (.type "BaseException")=some true)
 (iB:W.mroIn K fa (.type "object")=some true)
 (gB:W.hasDictIn K fa=true)
 (fB:W.findIn K (.ref fa) "__class__"=some (some (.builtin "object.__class__")))
 (dB:W.specialIn K (.builtin "object.__class__") "__get__"=some (some (.builtin "getset_descriptor.__get__")))
 (pB:W.takesIn K (.builtin "object.__class__")=some true)
 (uA:W.exmOne K (.ref fa) (.ref fa)=some true)
 (aA:W.kitOne K (.ref fa) (.ref ha)=some true)
 (bA:W.kitOne K (.ref fa) (.type "ValueError")=some true)
 (m8:W.kitAny K (.ref fa) (([ia,na,ka,la,oa,ja]:List Addr).map Value.ref)=some false)
 (jT:fH K fa iX "ValueError.__new__"=true)
 (oR:W.findIn K (.ref fa) "__init__"=some (some (.ref Mc)))
 (oQ:W.isFn K (.ref Mc)=true)
 (oN:W.keepIn K (.ref fa)=true)
 (oM:W.findIn K (.ref fa) "__setattr__"=some (some (.builtin "object.__setattr__")))
 (aB:W.findIn K (.ref fa) "kind"=some none)
 (rA:W.findIn K (.ref fa) "length"=some none)
 (vA:W.findIn K (.ref fa) "place"=some none)
 (MK:W.specialIn K (.ref ha) "__getattribute__"=some (some (.builtin "type.__getattribute__")))
 (tG:W.readsIn K ha (.type "type")=true)
 (YJ:W.findCls K (.ref ha) (.type "type") "__init__"=some (.val (.builtin "ValueError.__init__")))
 (pM:W.kitOne K (.type "NoneType") (.ref ha)=some false)
 (xU:W.nsIn K mainGlobals "Reader"=some (some (.ref da)))
 (rP:W.plainGet K da Str.empty=true)
 (sr:W.hasDictIn K da=true)
 (rZ:W.plainOver K da=true)
 (rJ:W.findIn K (.ref da) "__setattr__"=some (some (.builtin "object.__setattr__")))
 (xD:W.makesIn K da=true)
 (xL:W.keepIn K (.ref da)=true)
 (xg:W.findIn K (.ref da) "__class__"=some (some (.builtin "object.__class__")))
 (w5:W.specialIn K (.builtin "object.__class__") "__get__"=some (some (.builtin "getset_descriptor.__get__")))
 (wT:W.takesIn K (.builtin "object.__class__")=some true)
 (tB:W.mroIn K da (.type "object")=some true)
 (xy:W.findIn K (.ref da) "at_page"=some none)
 (xx:W.findIn K (.ref da) "begun"=some none)
 (xw:W.findIn K (.ref da) "ended"=some none)
 (xv:W.findIn K (.ref da) "many"=some none)
 (xu:W.findIn K (.ref da) "met"=some none)
 (xt:W.findIn K (.ref da) "place"=some none)
 (xr:W.findIn K (.ref da) "tongue"=some none)
 (dR:W.findIn K (.ref da) "__init__"=some (some (.ref a0)))
 (YT:W.isFn K (.ref a0)=true)
 (JR:K.lookup a0=some ⟨Ix,Ru,.func (W.fnOf "__init__" "Reader.__init__" (aK me) (aI me) (am me) (.ref Xt) Kx Ex Jv bx gu cw),Pu⟩)
 (WT:W.codeIn K gu "Reader.__init__"=true)
 (mR:W.keepIn K (.ref a0)=true)
 (VR:K.lookup Xt=some ⟨Tr,Hn,.seq ([.int 0 gb]:List Value).toArray jq,Np⟩)
 (yR:W.findIn K (.ref da) "page"=some (some (.ref a1)))
 (uR:W.isFn K (.ref a1)=true)
 (bU:K.lookup a1=some ⟨Kw,rx,.func (W.fnOf "page" "Reader.page" (aK lX) (aI lX) (am lX) .none Zw vx Gw Sw vu Tw),Xv⟩)
 (dU:W.codeIn K vu "Reader.page"=true)
 (RQ:W.keepIn K (.ref a1)=true)
 (QT:W.findIn K (.ref da) "held"=some (some (.ref a2)))
 (qR:W.isFn K (.ref a2)=true)
 (gU:K.lookup a2=some ⟨Fx,Su,.func (W.fnOf "held" "Reader.held" (aK mf) (aI mf) (am mf) .none tw Hw yw Vw Ft sx),Lv⟩)
 (XR:W.codeIn K Ft "Reader.held"=true)
 (aR:W.keepIn K (.ref a2)=true)
 (JS:W.findIn K (.ref da) "taken"=some (some (.ref a3)))
 (HR:W.isFn K (.ref a3)=true)
 (iU:K.lookup a3=some ⟨Gx,Zv,.func (W.fnOf "taken" "Reader.taken" (aK lV) (aI lV) (am lV) .none ev Kv Fv Bv zt bw),Qw⟩)
 (jR:W.codeIn K zt "Reader.taken"=true)
 (ZQ:W.keepIn K (.ref a3)=true)
 (BR:W.findIn K (.ref da) "faults"=some (some (.ref a4)))
 (KR:W.isFn K (.ref a4)=true)
 (NT:K.lookup a4=some ⟨Iw,Mx,.func (W.fnOf "faults" "Reader.faults" (aK mi) (aI mi) (am mi) .none Mv Zu Dw Wv tu uv),Rx⟩)
 (sS:W.codeIn K tu "Reader.faults"=true)
 (XQ:W.keepIn K (.ref a4)=true)
 (XS:W.findIn K (.ref da) "over"=some (some (.ref a5)))
 (qT:W.isFn K (.ref a5)=true)
 (zT:K.lookup a5=some ⟨Uu,Tv,.func (W.fnOf "over" "Reader.over" (aK lY) (aI lY) (am lY) .none Bx ix gx ox nu Uv),Nw⟩)
 (GR:W.codeIn K nu "Reader.over"=true)
 (WQ:W.keepIn K (.ref a5)=true)
 (CT:W.findIn K (.ref da) "feed"=some (some (.ref a6)))
 (YS:W.isFn K (.ref a6)=true)
 (PT:K.lookup a6=some ⟨Ew,fv,.func (W.fnOf "feed" "Reader.feed" (aK mh) (aI mh) (am mh) .none kv Hv Rw Bw Hu Qu),Vx⟩)
 (eU:W.codeIn K Hu "Reader.feed"=true)
 (TQ:W.keepIn K (.ref a6)=true)
 (uT:W.findIn K (.ref da) "end"=some (some (.ref a7)))
 (gR:W.isFn K (.ref a7)=true)
 (JT:K.lookup a7=some ⟨ow,Rv,.func (W.fnOf "end" "Reader.end" (aK mj) (aI mj) (am mj) .none Lx ax Lw kw Jt Ov),qw⟩)
 (cT:W.codeIn K Jt "Reader.end"=true)
 (YQ:W.keepIn K (.ref a7)=true)
 (rT:W.findIn K (.ref da) "take"=some (some (.ref a8)))
 (LR:W.isFn K (.ref a8)=true)
 (WR:K.lookup a8=some ⟨cx,dw,.func (W.fnOf "take" "Reader.take" (aK lW) (aI lW) (am lW) .none Vv jx vw nw ju Aw),vv⟩)
 (HS:W.codeIn K ju "Reader.take"=true)
 (SQ:W.keepIn K (.ref a8)=true)
 (cU:W.findIn K (.ref da) "look_at_begun"=some (some (.ref a9)))
 (nR:W.isFn K (.ref a9)=true)
 (ZS:K.lookup a9=some ⟨bv,Ax,.func (W.fnOf "look_at_begun" "Reader.look_at_begun" (aK ma) (aI ma) (am ma) .none jw Nx aw Nv Et Cw),pv⟩)
 (ZR:W.codeIn K Et "Reader.look_at_begun"=true)
 (QQ:W.keepIn K (.ref a9)=true)
 (pH:W.findIn K (.ref da) "meet_none"=some (some (.ref Nd)))
 (cQ:W.isFn K (.ref Nd)=true)
 (QJ:K.lookup Nd=some ⟨cn,Us,.func (W.fnOf "meet_none" "Reader.meet_none" (aK l7) (aI l7) (am l7) .none To Cm po ai Ec gs),Hl⟩)
 (YM:W.codeIn K Ec "Reader.meet_none"=true)
 (yE:W.keepIn K (.ref Nd)=true)
 (aG:W.findIn K (.ref da) "meet"=some (some (.ref ve)))
 (qM:W.isFn K (.ref ve)=true)
 (aL:K.lookup ve=some ⟨hn,Ip,.func (W.fnOf "meet" "Reader.meet" (aK l8) (aI l8) (am l8) .none Bp Ah Rk en ic Bs),Wr⟩)
 (CJ:W.codeIn K ic "Reader.meet"=true)
 (JD:W.keepIn K (.ref ve)=true)
 (QF:W.findIn K (.ref da) "note"=some (some (.ref Dc)))
 (yH:W.isFn K (.ref Dc)=true)
 (CQ:K.lookup Dc=some ⟨Hq,Gg,.func (W.fnOf "note" "Reader.note" (aK lZ) (aI lZ) (am lZ) .none vq Vk Ul fr Oc gl),Zi⟩)
 (ZG:W.codeIn K Oc "Reader.note"=true)
 (lE:W.keepIn K (.ref Dc)=true)
 (ZK:K.lookup Mc=some ⟨Mh,tr,.func (W.fnOf "__init__" "Faulty.__init__" (aK mx) (aI mx) (am mx) .none Pn Fl Ui Yl he Bq),Eo⟩)
 (tK:W.codeIn K he "Faulty.__init__"=true)
 (WF:W.keepIn K (.ref Mc)=true)
 (uF:W.nsIn K mainGlobals "check_room"=some (some (.ref Cf)))
 (nH:K.lookup Cf=some ⟨go,lk,.func (W.fnOf "check_room" "check_room" (aK lC) (aI lC) (am lC) .none vs Pm qk Th Ve Xg),Uk⟩)
 (fP:W.codeIn K Ve "check_room"=true)
 (gG:W.keepIn K (.ref Cf)=true)
 (pI:W.nsIn K mainGlobals "together"=some (some (.ref gg)))
 (iG:K.lookup gg=some ⟨wj,hi,.func (W.fnOf "together" "together" (aK kP) (aI kP) (am kP) .none Cr sn Zp Nh af er),Ai⟩)
 (qN:W.codeIn K af "together"=true)
 (uM:W.keepIn K (.ref gg)=true)
 (pF:W.nsIn K mainGlobals "is_number"=some (some (.ref rf)))
 (yI:K.lookup rf=some ⟨gr,Tn,.func (W.fnOf "is_number" "is_number" (aK kZ) (aI kZ) (am kZ) .none gm Pq xl Xr Ge Iq),Ks⟩)
 (nO:W.codeIn K Ge "is_number"=true)
 (uP:W.keepIn K (.ref rf)=true)
 (zF:W.nsIn K mainGlobals "is_byte"=some (some (.ref Uf)))
 (LQ:K.lookup Uf=some ⟨hj,Mp,.func (W.fnOf "is_byte" "is_byte" (aK lh) (aI lh) (am lh) .none hh Kl rj Fm Ze Wl),pp⟩)
 (WP:W.codeIn K Ze "is_byte"=true)
 (mH:W.keepIn K (.ref Uf)=true)
 (xG:W.nsIn K mainGlobals "is_head"=some (some (.ref zf)))
 (eN:K.lookup zf=some ⟨Lp,Ni,.func (W.fnOf "is_head" "is_head" (aK lf) (aI lf) (am lf) .none Rq Ms Mq nj vc dk),ao⟩)
 (qL:W.codeIn K vc "is_head"=true)
 (YK:W.keepIn K (.ref zf)=true)
 (tQ:W.nsIn K mainGlobals "is_tail"=some (some (.ref qf)))
 (bM:K.lookup qf=some ⟨dl,sm,.func (W.fnOf "is_tail" "is_tail" (aK kW) (aI kW) (am kW) .none fo jj Dl yo kc ro),Jo⟩)
 (eO:W.codeIn K kc "is_tail"=true)
 (jQ:W.keepIn K (.ref qf)=true)
 (vI:W.nsIn K mainGlobals "is_seen_byte"=some (some (.ref Ff)))
 (nP:K.lookup Ff=some ⟨So,pn,.func (W.fnOf "is_seen_byte" "is_seen_byte" (aK kY) (aI kY) (am kY) .none Jp uk vh zr Qd uq),vp⟩)
 (cN:W.codeIn K Qd "is_seen_byte"=true)
 (cM:W.keepIn K (.ref Ff)=true)
 (VK:W.nsIn K mainGlobals "is_sign"=some (some (.ref Af)))
 (TF:K.lookup Af=some ⟨Hi,Jr,.func (W.fnOf "is_sign" "is_sign" (aK kX) (aI kX) (am kX) .none Mj Lm to nm se ts),fk⟩)
 (iK:W.codeIn K se "is_sign"=true)
 (KJ:W.keepIn K (.ref Af)=true)
 (jO:W.nsIn K mainGlobals "is_row"=some (some (.ref Qf)))
 (qO:K.lookup Qf=some ⟨eh,Uq,.func (W.fnOf "is_row" "is_row" (aK jI) (aI jI) (am jI) .none vg eo Nk Vm ed dq),Rp⟩)
 (JP:W.codeIn K ed "is_row"=true)
 (bO:W.keepIn K (.ref Qf)=true)
 (xQ:W.nsIn K mainGlobals "Tongue"=some (some (.ref ga)))
 (rM:W.plainGet K ga Str.empty=true)
 (sk:W.hasDictIn K ga=true)
 (rW:W.plainOver K ga=true)
 (rF:W.findIn K (.ref ga) "__setattr__"=some (some (.builtin "object.__setattr__")))
 (xA:W.makesIn K ga=true)
 (xI:W.keepIn K (.ref ga)=true)
 (xO:W.findIn K (.ref ga) "__init__"=some (some (.builtin "object.__init__")))
 (xb:W.findIn K (.ref ga) "__class__"=some (some (.builtin "object.__class__")))
 (wX:W.specialIn K (.builtin "object.__class__") "__get__"=some (some (.builtin "getset_descriptor.__get__")))
 (wQ:W.takesIn K (.builtin "object.__class__")=some true)
 (uB:W.mroIn K ga (.type "object")=some true)
 (zH:W.findIn K (.ref ga) "unit"=some (some (.ref Jb)))
 (pD:W.isFn K (.ref Jb)=true)
 (zM:K.lookup Jb=some ⟨yi,hk,.func (W.fnOf "unit" "Tongue.unit" (aK lH) (aI lH) (am lH) .none dr Tp Si jp Xc fn),Xi⟩)
 (GQ:W.codeIn K Xc "Tongue.unit"=true)
 (cD:W.keepIn K (.ref Jb)=true)
 (qI:W.findIn K (.ref ga) "whole"=some (some (.ref jf)))
 (vQ:W.isFn K (.ref jf)=true)
 (YF:K.lookup jf=some ⟨Cn,Fs,.func (W.fnOf "whole" "Tongue.whole" (aK lG) (aI lG) (am lG) (.ref hd) qn Di Xk Rs ff zl),Vh⟩)
 (LK:W.codeIn K ff "Tongue.whole"=true)
 (eE:W.keepIn K (.ref jf)=true)
 (vK:K.lookup hd=some ⟨Ed,Yc,.seq ([.int 0 Ka]:List Value).toArray rd,dd⟩)
 (NP:W.findIn K (.ref ga) "fill"=some (some (.ref je)))
 (zO:W.isFn K (.ref je)=true)
 (XF:K.lookup je=some ⟨yq,rh,.func (W.fnOf "fill" "Tongue.fill" (aK lJ) (aI lJ) (am lJ) (.ref Zb) Xl Vr zo Ko Be Pp),Qh⟩)
 (bK:W.codeIn K Be "Tongue.fill"=true)
 (OD:W.keepIn K (.ref je)=true)
 (sI:K.lookup Zb=some ⟨Gc,we,.seq ([.int 0 Sa]:List Value).toArray Ue,Uc⟩)
 (qK:W.findIn K (.ref ga) "look"=some (some (.ref nb)))
 (ZC:W.isFn K (.ref nb)=true)
 (dI:K.lookup nb=some ⟨qr,Uh,.func (W.fnOf "look" "Tongue.look" (aK lI) (aI lI) (am lI) (.ref cc) Ej Yi zh Sl qe Zq),Fj⟩)
 (JG:W.codeIn K qe "Tongue.look"=true)
 (JC:W.keepIn K (.ref nb)=true)
 (BJ:K.lookup cc=some ⟨yc,oc,.seq ([.int 0 Ta]:List Value).toArray ef,pe⟩)
 (zN:W.nsIn K mainGlobals "length_behind"=some (some (.ref Pf)))
 (oJ:K.lookup Pf=some ⟨vo,ji,.func (W.fnOf "length_behind" "length_behind" (aK kU) (aI kU) (am kU) .none rk Hk hs hm Ke et),Nl⟩)
 (DK:W.codeIn K Ke "length_behind"=true)
 (TP:W.keepIn K (.ref Pf)=true)
 (QK:W.nsIn K mainGlobals "bounds_behind"=some (some (.ref tf)))
 (YH:K.lookup tf=some ⟨Oi,Gh,.func (W.fnOf "bounds_behind" "bounds_behind" (aK lD) (aI lD) (am lD) .none Bi fm ct Dh Bd wn),bh⟩)
 (yF:W.codeIn K Bd "bounds_behind"=true)
 (bN:W.keepIn K (.ref tf)=true)
 (eF:W.nsIn K mainGlobals "fits_behind"=some (some (.ref Lf)))
 (PK:K.lookup Lf=some ⟨aj,Xm,.func (W.fnOf "fits_behind" "fits_behind" (aK lj) (aI lj) (am lj) .none ys Pr Op Sr Re Uj),gi⟩)
 (fQ:W.codeIn K Re "fits_behind"=true)
 (PJ:W.keepIn K (.ref Lf)=true)
 (dH:W.nsIn K mainGlobals "missing"=some (some (.ref If)))
 (bH:K.lookup If=some ⟨tg,Ih,.func (W.fnOf "missing" "missing" (aK kT) (aI kT) (am kT) .none ei nn gj Do ue nk),Oj⟩)
 (uJ:W.codeIn K ue "missing"=true)
 (PN:W.keepIn K (.ref If)=true)
 (DQ:W.nsIn K mainGlobals "carried"=some (some (.ref Hf)))
 (XH:K.lookup Hf=some ⟨Mk,Pl,.func (W.fnOf "carried" "carried" (aK jJ) (aI jJ) (am jJ) .none zs cq Po Qq kf mr),sl⟩)
 (uQ:W.codeIn K kf "carried"=true)
 (WL:W.keepIn K (.ref Hf)=true)
 (xW:W.nsIn K mainGlobals "LeadTongue"=some (some (.ref ea)))
 (rR:W.plainGet K ea Str.empty=true)
 (sv:W.hasDictIn K ea=true)
 (sf:W.plainOver K ea=true)
 (rL:W.findIn K (.ref ea) "__setattr__"=some (some (.builtin "object.__setattr__")))
 (xF:W.makesIn K ea=true)
 (xN:W.keepIn K (.ref ea)=true)
 (xP:W.findIn K (.ref ea) "__init__"=some (some (.builtin "object.__init__")))
 (xi:W.findIn K (.ref ea) "__class__"=some (some (.builtin "object.__class__")))
 (w9:W.specialIn K (.builtin "object.__class__") "__get__"=some (some (.builtin "getset_descriptor.__get__")))
 (wV:W.takesIn K (.builtin "object.__class__")=some true)
 (bB:W.mroIn K ea (.type "object")=some true)
 (tH:W.findIn K (.ref ea) "whole"=some (some (.ref wc)))
 (vN:W.isFn K (.ref wc)=true)
 (fL:K.lookup wc=some ⟨pm,Kh,.func (W.fnOf "whole" "LeadTongue.whole" (aK mw) (aI mw) (am mw) (.ref ad) hr Lr Wh gh Vc Ci),Bk⟩)
 (pQ:W.codeIn K Vc "LeadTongue.whole"=true)
 (RD:W.keepIn K (.ref wc)=true)
 (pO:K.lookup ad=some ⟨Xd,fd,.seq ([.int 0 Pa]:List Value).toArray Td,ie⟩)
 (bL:W.findIn K (.ref ea) "fill"=some (some (.ref hf)))
 (sH:W.isFn K (.ref hf)=true)
 (SM:K.lookup hf=some ⟨Bn,lq,.func (W.fnOf "fill" "LeadTongue.fill" (aK jL) (aI jL) (am jL) (.ref Sc) fj Uo xj co Kd Wj),Xj⟩)
 (VL:W.codeIn K Kd "LeadTongue.fill"=true)
 (QD:W.keepIn K (.ref hf)=true)
 (tM:K.lookup Sc=some ⟨Ld,Xe,.seq ([.int 0 Na]:List Value).toArray Pe,Fe⟩)
 (ZM:W.nsIn K mainGlobals "sign_of"=some (some (.ref cg)))
 (aP:K.lookup cg=some ⟨Dm,es,.func (W.fnOf "sign_of" "sign_of" (aK kQ) (aI kQ) (am kQ) .none an Ck Al dm jc Ql),Oq⟩)
 (IK:W.codeIn K jc "sign_of"=true)
 (HJ:W.keepIn K (.ref cg)=true)
 (xV:W.nsIn K mainGlobals "PairTongue"=some (some (.ref ca)))
 (rQ:W.plainGet K ca Str.empty=true)
 (su:W.hasDictIn K ca=true)
 (sd:W.plainOver K ca=true)
 (rK:W.findIn K (.ref ca) "__setattr__"=some (some (.builtin "object.__setattr__")))
 (xE:W.makesIn K ca=true)
 (xM:W.keepIn K (.ref ca)=true)
 (xh:W.findIn K (.ref ca) "__class__"=some (some (.builtin "object.__class__")))
 (w6:W.specialIn K (.builtin "object.__class__") "__get__"=some (some (.builtin "getset_descriptor.__get__")))
 (wU:W.takesIn K (.builtin "object.__class__")=some true)
 (cB:W.mroIn K ca (.type "object")=some true)
 (xz:W.findIn K (.ref ca) "order"=some none)
 (fO:W.findIn K (.ref ca) "__init__"=some (some (.ref Yd)))
 (ZJ:W.isFn K (.ref Yd)=true)
 (RJ:K.lookup Yd=some ⟨Pj,Qp,.func (W.fnOf "__init__" "PairTongue.__init__" (aK mq) (aI mq) (am mq) (.ref Fc) jo Ls tk Qk Ud Pk),Ol⟩)
 (pK:W.codeIn K Ud "PairTongue.__init__"=true)
 (UJ:W.keepIn K (.ref Yd)=true)
 (uK:K.lookup Fc=some ⟨Cc,ze,.seq ([.str "high" bb]:List Value).toArray xd,Vd⟩)
 (pL:W.findIn K (.ref ca) "unit"=some (some (.ref Te)))
 (oF:W.isFn K (.ref Te)=true)
 (JN:K.lookup Te=some ⟨wo,lr,.func (W.fnOf "unit" "PairTongue.unit" (aK mm) (aI mm) (am mm) .none Em ir Dr rn Hc Go),On⟩)
 (zP:W.codeIn K Hc "PairTongue.unit"=true)
 (rE:W.keepIn K (.ref Te)=true)
 (PQ:W.findIn K (.ref ca) "turned"=some (some (.ref Nc)))
 (zJ:W.isFn K (.ref Nc)=true)
 (rI:K.lookup Nc=some ⟨bn,Gn,.func (W.fnOf "turned" "PairTongue.turned" (aK mn) (aI mn) (am mn) .none wp qi Bg pq Me Ng),Bl⟩)
 (fJ:W.codeIn K Me "PairTongue.turned"=true)
 (VD:W.keepIn K (.ref Nc)=true)
 (vM:W.findIn K (.ref ca) "units_in"=some (some (.ref We)))
 (cP:W.isFn K (.ref We)=true)
 (JM:K.lookup We=some ⟨wq,Vs,.func (W.fnOf "units_in" "PairTongue.units_in" (aK jK) (aI jK) (am jK) .none Lg Co bs ok De Kk),Zo⟩)
 (cG:W.codeIn K De "PairTongue.units_in"=true)
 (ZD:W.keepIn K (.ref We)=true)
 (VP:W.findIn K (.ref ca) "whole"=some (some (.ref pd)))
 (HN:W.isFn K (.ref pd)=true)
 (WK:K.lookup pd=some ⟨di,Mo,.func (W.fnOf "whole" "PairTongue.whole" (aK ml) (aI ml) (am ml) (.ref ke) Ak Vn Js Sp Cd pk),Bo⟩)
 (XM:W.codeIn K Cd "PairTongue.whole"=true)
 (KD:W.keepIn K (.ref pd)=true)
 (fK:K.lookup ke=some ⟨Jd,Ye,.seq ([.int 0 cb]:List Value).toArray rc,yd⟩)
 (aQ:W.findIn K (.ref ca) "fill"=some (some (.ref Sd)))
 (ZL:W.isFn K (.ref Sd)=true)
 (jN:K.lookup Sd=some ⟨dh,fp,.func (W.fnOf "fill" "PairTongue.fill" (aK mv) (aI mv) (am mv) (.ref Pd) Fh kp Mg ul ce Cq),Dp⟩)
 (zQ:W.codeIn K ce "PairTongue.fill"=true)
 (YD:W.keepIn K (.ref Sd)=true)
 (XK:K.lookup Pd=some ⟨Le,Qc,.seq ([.int 0 Ua]:List Value).toArray Qe,lc⟩)
 (SN:W.nsIn K mainGlobals "read"=some (some (.ref Sf)))
 (KQ:K.lookup Sf=some ⟨ah,Sm,.func (W.fnOf "read" "read" (aK kR) (aI kR) (am kR) .none jr ap Yp Jg Gd un),Jn⟩)
 (HQ:W.codeIn K Gd "read"=true)
 (vH:W.keepIn K (.ref Sf)=true)
 (yP:W.nsIn K mainGlobals "begins"=some (some (.ref Of)))
 (wI:K.lookup Of=some ⟨ek,Vp,.func (W.fnOf "begins" "begins" (aK lF) (aI lF) (am lF) .none ip Oo np Up Kc nl),no⟩)
 (qF:W.codeIn K Kc "begins"=true)
 (NQ:W.keepIn K (.ref Of)=true)
 (wK:W.nsIn K mainGlobals "places_in"=some (some (.ref Rf)))
 (YG:K.lookup Rf=some ⟨hp,Qr,.func (W.fnOf "places_in" "places_in" (aK kS) (aI kS) (am kS) .none zj Hh Dn qm qd Lj),Li⟩)
 (fM:W.codeIn K qd "places_in"=true)
 (JK:W.keepIn K (.ref Rf)=true)
 (xT:W.nsIn K mainGlobals "ShiftTongue"=some (some (.ref aa)))
 (rO:W.plainGet K aa Str.empty=true)
 (sq:W.hasDictIn K aa=true)
 (rY:W.plainOver K aa=true)
 (rH:W.findIn K (.ref aa) "__setattr__"=some (some (.builtin "object.__setattr__")))
 (xC:W.makesIn K aa=true)
 (xK:W.keepIn K (.ref aa)=true)
 (xf:W.findIn K (.ref aa) "__class__"=some (some (.builtin "object.__class__")))
 (wZ:W.specialIn K (.builtin "object.__class__") "__get__"=some (some (.builtin "getset_descriptor.__get__")))
 (wS:W.takesIn K (.builtin "object.__class__")=some true)
 (wA:W.mroIn K aa (.type "object")=some true)
 (xq:W.findIn K (.ref aa) "lists"=some none)
 (xp:W.findIn K (.ref aa) "places"=some none)
 (xo:W.findIn K (.ref aa) "shifted"=some none)
 (bJ:W.findIn K (.ref aa) "__init__"=some (some (.ref Yb)))
 (sG:W.isFn K (.ref Yb)=true)
 (oG:K.lookup Yb=some ⟨Mi,Bj,.func (W.fnOf "__init__" "ShiftTongue.__init__" (aK lT) (aI lT) (am lT) .none zn up Ao Wi fc tm),Nr⟩)
 (oO:W.codeIn K fc "ShiftTongue.__init__"=true)
 (zG:W.keepIn K (.ref Yb)=true)
 (gP:W.findIn K (.ref aa) "row_beyond"=some (some (.ref zc)))
 (WM:W.isFn K (.ref zc)=true)
 (qP:K.lookup zc=some ⟨Qi,Ro,.func (W.fnOf "row_beyond" "ShiftTongue.row_beyond" (aK lR) (aI lR) (am lR) .none mp Jq Wo al wd rs),Fg⟩)
 (SJ:W.codeIn K wd "ShiftTongue.row_beyond"=true)
 (WD:W.keepIn K (.ref zc)=true)
 (aH:W.findIn K (.ref aa) "sign_of"=some (some (.ref qc)))
 (lL:W.isFn K (.ref qc)=true)
 (HH:K.lookup qc=some ⟨Zm,Ho,.func (W.fnOf "sign_of" "ShiftTongue.sign_of" (aK lQ) (aI lQ) (am lQ) .none Ok hl ih qq re Cj),jh⟩)
 (pG:W.codeIn K re "ShiftTongue.sign_of"=true)
 (oE:W.keepIn K (.ref qc)=true)
 (wL:W.findIn K (.ref aa) "whole"=some (some (.ref He)))
 (DN:W.isFn K (.ref He)=true)
 (uG:K.lookup He=some ⟨Zj,Hm,.func (W.fnOf "whole" "ShiftTongue.whole" (aK lP) (aI lP) (am lP) (.ref Ac) zk lo Fk bp ec Vi),Jm⟩)
 (eQ:W.codeIn K ec "ShiftTongue.whole"=true)
 (sE:W.keepIn K (.ref He)=true)
 (KN:K.lookup Ac=some ⟨Rc,bf,.seq ([.int 0 Ra]:List Value).toArray Je,Ce⟩)
 (yG:W.findIn K (.ref aa) "fill"=some (some (.ref Wc)))
 (QM:W.isFn K (.ref Wc)=true)
 (vO:K.lookup Wc=some ⟨Wk,Ym,.func (W.fnOf "fill" "ShiftTongue.fill" (aK lU) (aI lU) (am lU) (.ref Rd) No Xs Lk Yo fe rm),Zk⟩)
 (uN:W.codeIn K fe "ShiftTongue.fill"=true)
 (zE:W.keepIn K (.ref Wc)=true)
 (dJ:K.lookup Rd=some ⟨zd,Zd,.seq ([.int 0 eb]:List Value).toArray Pc,bc⟩)
 (vG:W.nsIn K mainGlobals "is_entry"=some (some (.ref Kf)))
 (mQ:K.lookup Kf=some ⟨ii,Sk,.func (W.fnOf "is_entry" "is_entry" (aK lg) (aI lg) (am lg) .none Zs Wq Ri kj nd bk),oq⟩)
 (VF:W.codeIn K nd "is_entry"=true)
 (DG:W.keepIn K (.ref Kf)=true)
 (VN:W.nsIn K mainGlobals "collide"=some (some (.ref eg)))
 (mF:K.lookup eg=some ⟨cr,Xn,.func (W.fnOf "collide" "collide" (aK lm) (aI lm) (am lm) .none sj Xo wr Jj be tq),Xq⟩)
 (yN:W.codeIn K be "collide"=true)
 (uL:W.keepIn K (.ref eg)=true)
 (eG:W.nsIn K mainGlobals "check_table"=some (some (.ref Ef)))
 (bF:K.lookup Ef=some ⟨aq,oo,.func (W.fnOf "check_table" "check_table" (aK ls) (aI ls) (am ls) .none Tj zp ci cs Od ms),nq⟩)
 (VM:W.codeIn K Od "check_table"=true)
 (UG:W.keepIn K (.ref Ef)=true)
 (xR:W.nsIn K mainGlobals "TableTongue"=some (some (.ref ba)))
 (rN:W.plainGet K ba Str.empty=true)
 (so:W.hasDictIn K ba=true)
 (rX:W.plainOver K ba=true)
 (rG:W.findIn K (.ref ba) "__setattr__"=some (some (.builtin "object.__setattr__")))
 (xB:W.makesIn K ba=true)
 (xJ:W.keepIn K (.ref ba)=true)
 (xc:W.findIn K (.ref ba) "__class__"=some (some (.builtin "object.__class__")))
 (wY:W.specialIn K (.builtin "object.__class__") "__get__"=some (some (.builtin "getset_descriptor.__get__")))
 (wR:W.takesIn K (.builtin "object.__class__")=some true)
 (zA:W.mroIn K ba (.type "object")=some true)
 (xn:W.findIn K (.ref ba) "rest_by_row"=some none)
 (xm:W.findIn K (.ref ba) "row_by_sign"=some none)
 (xk:W.findIn K (.ref ba) "sign_by_row"=some none)
 (sJ:W.findIn K (.ref ba) "__init__"=some (some (.ref td)))
 (mO:W.isFn K (.ref td)=true)
 (nM:K.lookup td=some ⟨Gm,js,.func (W.fnOf "__init__" "TableTongue.__init__" (aK lM) (aI lM) (am lM) .none il on Zl br Fd qp),pl⟩)
 (pP:W.codeIn K Fd "TableTongue.__init__"=true)
 (wN:W.keepIn K (.ref td)=true)
 (JL:W.findIn K (.ref ba) "enter"=some (some (.ref Dd)))
 (gM:W.isFn K (.ref Dd)=true)
 (WN:K.lookup Dd=some ⟨Tm,Aq,.func (W.fnOf "enter" "TableTongue.enter" (aK lO) (aI lO) (am lO) .none bl Vj Nj Dj nc gp),Ek⟩)
 (cJ:W.codeIn K nc "TableTongue.enter"=true)
 (XD:W.keepIn K (.ref Dd)=true)
 (bI:W.findIn K (.ref ba) "whole"=some (some (.ref Bc)))
 (PL:W.isFn K (.ref Bc)=true)
 (XN:K.lookup Bc=some ⟨uj,ph,.func (W.fnOf "whole" "TableTongue.whole" (aK lK) (aI lK) (am lK) (.ref Ie) Rl ni ym Eh jd Dg),Fq⟩)
 (MJ:W.codeIn K jd "TableTongue.whole"=true)
 (aF:W.keepIn K (.ref Bc)=true)
 (dO:K.lookup Ie=some ⟨mc,ud,.seq ([.int 0 Ja]:List Value).toArray Ee,Ad⟩)
 (aJ:W.findIn K (.ref ba) "fill"=some (some (.ref Ic)))
 (GJ:W.isFn K (.ref Ic)=true)
 (FP:K.lookup Ic=some ⟨Zh,Ds,.func (W.fnOf "fill" "TableTongue.fill" (aK lN) (aI lN) (am lN) (.ref vd) Tq Xh rl Tk Se sh),ll⟩)
 (mK:W.codeIn K Se "TableTongue.fill"=true)
 (uE:W.keepIn K (.ref Ic)=true)
 (qJ:K.lookup vd=some ⟨Id,uc,.seq ([.int 0 Qa]:List Value).toArray Ae,ee⟩)
 (iQ:W.nsIn K mainGlobals "_law_drawn"=some (some (.ref Df)))
 (uI:K.lookup Df=some ⟨Dk,Ig,.func (W.fnOf "_law_drawn" "_law_drawn" (aK kL) (aI kL) (am kL) .none kk Aj Is Ir Hd En),Wn⟩)
 (XJ:W.codeIn K Hd "_law_drawn"=true)
 (CP:W.keepIn K (.ref Df)=true)
 (yL:W.nsIn K mainGlobals "_law_is_number"=some (some (.ref dg)))
 (nG:K.lookup dg=some ⟨Jh,ch,.func (W.fnOf "_law_is_number" "_law_is_number" (aK kI) (aI kI) (am kI) .none Vo Ii Wg yj Wd cm),op⟩)
 (RL:W.codeIn K Wd "_law_is_number"=true)
 (aO:W.keepIn K (.ref dg)=true)
 (GP:W.nsIn K mainGlobals "_law_mixed"=some (some (.ref qg)))
 (YL:K.lookup qg=some ⟨vl,Rg,.func (W.fnOf "_law_mixed" "_law_mixed" (aK kF) (aI kF) (am kF) .none tl Ln bm Um nf Yj),Im⟩)
 (QL:W.codeIn K nf "_law_mixed"=true)
 (wH:W.keepIn K (.ref qg)=true)
 (TG:W.nsIn K mainGlobals "_law_gapped"=some (some (.ref ig)))
 (JQ:K.lookup ig=some ⟨Om,Sh,.func (W.fnOf "_law_gapped" "_law_gapped" (aK kJ) (aI kJ) (am kJ) .none dj wg Am wm df ki),vm⟩)
 (dK:W.codeIn K df "_law_gapped"=true)
 (zL:W.keepIn K (.ref ig)=true)
 (OJ:W.nsIn K mainGlobals "_law_as_sign"=some (some (.ref Tf)))
 (TJ:K.lookup Tf=some ⟨Bh,dp,.func (W.fnOf "_law_as_sign" "_law_as_sign" (aK kN) (aI kN) (am kN) .none ep qo Ag Hs ae zq),Vq⟩)
 (pJ:W.codeIn K ae "_law_as_sign"=true)
 (mL:W.keepIn K (.ref Tf)=true)
 (BL:W.nsIn K mainGlobals "_law_lists"=some (some (.ref pg)))
 (dG:K.lookup pg=some ⟨us,Hp,.func (W.fnOf "_law_lists" "_law_lists" (aK i8) (aI i8) (am i8) .none ws ri yr rg Lc fh),vj⟩)
 (fG:W.codeIn K Lc "_law_lists"=true)
 (iH:W.keepIn K (.ref pg)=true)
 (DP:W.nsIn K mainGlobals "_law_table"=some (some (.ref Yf)))
 (MP:K.lookup Yf=some ⟨Il,ug,.func (W.fnOf "_law_table" "_law_table" (aK jF) (aI jF) (am jF) .none Pg yl Jl nh pc Vl),Ur⟩)
 (CK:W.codeIn K pc "_law_table"=true)
 (jM:W.keepIn K (.ref Yf)=true)
 (qQ:W.nsIn K mainGlobals "_law_model"=some (some (.ref fg)))
 (mJ:K.lookup fg=some ⟨Dq,vr,.func (W.fnOf "_law_model" "_law_model" (aK kE) (aI kE) (am kE) .none li dt rr bt Oe dn),Qn⟩)
 (MN:W.codeIn K Oe "_law_model"=true)
 (GF:W.keepIn K (.ref fg)=true)
 (VJ:W.nsIn K mainGlobals "_law_tongue"=some (some (.ref jg)))
 (bQ:K.lookup jg=some ⟨Ik,Kr,.func (W.fnOf "_law_tongue" "_law_tongue" (aK jE) (aI jE) (am jE) .none Un zg Sg Ar gf jk),Es⟩)
 (cO:W.codeIn K gf "_law_tongue"=true)
 (oK:W.keepIn K (.ref jg)=true)
 (wG:W.nsIn K mainGlobals "_law_unit"=some (some (.ref bg)))
 (vP:K.lookup bg=some ⟨ln,Qs,.func (W.fnOf "_law_unit" "_law_unit" (aK kl) (aI kl) (am kl) .none Ki bi pr Cg Md vi),Cl⟩)
 (sO:W.codeIn K Md "_law_unit"=true)
 (UL:W.keepIn K (.ref bg)=true)
 (bG:W.nsIn K mainGlobals "_law_lead_row"=some (some (.ref Mf)))
 (nF:K.lookup Mf=some ⟨Ug,Nq,.func (W.fnOf "_law_lead_row" "_law_lead_row" (aK kG) (aI kG) (am kG) .none Gj ej Ph im od hq),vn⟩)
 (FN:W.codeIn K od "_law_lead_row"=true)
 (yO:W.keepIn K (.ref Mf)=true)
 (eH:W.nsIn K mainGlobals "_law_pair_row"=some (some (.ref uf)))
 (vJ:K.lookup uf=some ⟨uo,Eg,.func (W.fnOf "_law_pair_row" "_law_pair_row" (aK kz) (aI kz) (am kz) .none tn Hg qh Kq dc ur),Hr⟩)
 (gF:W.codeIn K dc "_law_pair_row"=true)
 (gQ:W.keepIn K (.ref uf)=true)
 (cL:W.nsIn K mainGlobals "_law_spell"=some (some (.ref kg)))
 (dN:K.lookup kg=some ⟨Yn,Jk,.func (W.fnOf "_law_spell" "_law_spell" (aK km) (aI km) (am km) .none Zg Ch cl tj Zc tp),sg⟩)
 (wO:W.codeIn K Zc "_law_spell"=true)
 (RM:W.keepIn K (.ref kg)=true)
 (gJ:W.nsIn K mainGlobals "_law_text"=some (some (.ref Nf)))
 (gK:K.lookup Nf=some ⟨xs,Ss,.func (W.fnOf "_law_text" "_law_text" (aK iJ) (aI iJ) (am iJ) .none Os Ap Yq Gs ye Oh),ui⟩)
 (dF:W.codeIn K ye "_law_text"=true)
 (CN:W.keepIn K (.ref Nf)=true)
 (oH:W.nsIn K mainGlobals "_law_pieces"=some (some (.ref wf)))
 (RP:K.lookup wf=some ⟨wh,ck,.func (W.fnOf "_law_pieces" "_law_pieces" (aK kx) (aI kx) (am kx) .none fq Rm ks Qj md vk),qs⟩)
 (MF:W.codeIn K md "_law_pieces"=true)
 (ZF:W.keepIn K (.ref wf)=true)
 (yM:W.nsIn K mainGlobals "_law_lead_begun"=some (some (.ref Zf)))
 (aM:K.lookup Zf=some ⟨rp,Ws,.func (W.fnOf "_law_lead_begun" "_law_lead_begun" (aK kH) (aI kH) (am kH) .none Vg Tl nr Sq Tc ss),Zr⟩)
 (gH:W.codeIn K Tc "_law_lead_begun"=true)
 (tL:W.keepIn K (.ref Zf)=true)
 (mG:W.nsIn K mainGlobals "_law_pair_begun"=some (some (.ref ag)))
 (JF:K.lookup ag=some ⟨Fn,Zn,.func (W.fnOf "_law_pair_begun" "_law_pair_begun" (aK kD) (aI kD) (am kD) .none os Bm Fr ij kd Ij),mo⟩)
 (ZP:W.codeIn K kd "_law_pair_begun"=true)
 (FJ:W.keepIn K (.ref ag)=true)
 (yJ:W.nsIn K mainGlobals "_law_begun"=some (some (.ref Vf)))
 (xH:K.lookup Vf=some ⟨bo,yk,.func (W.fnOf "_law_begun" "_law_begun" (aK jG) (aI jG) (am jG) .none Yr Ji pj yg ld Gq),iq⟩)
 (qG:W.codeIn K ld "_law_begun"=true)
 (vL:W.keepIn K (.ref Vf)=true)
 (NK:W.nsIn K mainGlobals "_law_row"=some (some (.ref ng)))
 (jP:K.lookup ng=some ⟨Ll,Fo,.func (W.fnOf "_law_row" "_law_row" (aK ko) (aI ko) (am ko) .none Rr Kj yh ar cf Km),El⟩)
 (JH:W.codeIn K cf "_law_row"=true)
 (wF:W.keepIn K (.ref ng)=true)
 (BP:W.nsIn K mainGlobals "_law_after"=some (some (.ref Jf)))
 (HF:K.lookup Jf=some ⟨Wp,th,.func (W.fnOf "_law_after" "_law_after" (aK kO) (aI kO) (am kO) .none Ti Lo qj Sn oe Sj),Xp⟩)
 (wM:W.codeIn K oe "_law_after"=true)
 (iI:W.keepIn K (.ref Jf)=true)
 (KH:W.nsIn K mainGlobals "_law_parts"=some (some (.ref Gf)))
 (QH:K.lookup Gf=some ⟨um,cp,.func (W.fnOf "_law_parts" "_law_parts" (aK ky) (aI ky) (am ky) .none jn sp An Qg xe zi),Ep⟩)
 (cH:W.codeIn K xe "_law_parts"=true)
 (iM:W.keepIn K (.ref Gf)=true)
 (PP:W.nsIn K mainGlobals "_law_due"=some (some (.ref yf)))
 (RN:K.lookup yf=some ⟨As,Lq,.func (W.fnOf "_law_due" "_law_due" (aK kK) (aI kK) (am kK) .none Kg Kn Rn Rj sc kn),ik⟩)
 (yQ:W.codeIn K sc "_law_due"=true)
 (uO:W.keepIn K (.ref yf)=true)
 (aN:W.nsIn K mainGlobals "_law_came"=some (some (.ref Bf)))
 (pN:K.lookup Bf=some ⟨gq,Er,.func (W.fnOf "_law_came" "_law_came" (aK kM) (aI kM) (am kM) .none bj wk Ps Wm tc wi),Yh⟩)
 (zK:W.codeIn K tc "_law_came"=true)
 (FQ:W.keepIn K (.ref Bf)=true)
 (CG:W.nsIn K mainGlobals "_law_refused"=some (some (.ref vf)))
 (QG:K.lookup vf=some ⟨Gi,zm,.func (W.fnOf "_law_refused" "_law_refused" (aK kr) (aI kr) (am kr) .none Nn Kp Mr jm cd lp),Fi⟩)
 (VH:W.codeIn K cd "_law_refused"=true)
 (RG:W.keepIn K (.ref vf)=true)
 (cI:W.nsIn K mainGlobals "_law_read"=some (some (.ref Wf)))
 (uH:K.lookup Wf=some ⟨Mm,Rh,.func (W.fnOf "_law_read" "_law_read" (aK ku) (aI ku) (am ku) .none cj Ys ho ti bd ql),Ei⟩)
 (tO:W.codeIn K bd "_law_read"=true)
 (VG:W.keepIn K (.ref Wf)=true)
 (nJ:W.nsIn K mainGlobals "law"=some (some (.ref hg)))
 (BK:K.lookup hg=some ⟨kq,fl,.func (W.fnOf "law" "law" (aK jH) (aI jH) (am jH) .none Nm ns Gl Lh pf gk),Gk⟩)
 (wJ:W.codeIn K pf "law"=true)
 (gO:W.keepIn K (.ref hg)=true)
 (oA:W.findIn K (.ref ea) "unit"=some (some (.ref Jb)))
 (pA:W.findIn K (.ref ea) "look"=some (some (.ref nb)))
 (nA:W.findIn K (.ref ca) "look"=some (some (.ref nb)))
 (gA:W.findIn K (.ref aa) "unit"=some (some (.ref Jb)))
 (jA:W.findIn K (.ref aa) "look"=some (some (.ref nb)))
 (lA:W.findIn K (.ref ba) "unit"=some (some (.ref Jb)))
 (cA:W.findIn K (.ref ba) "look"=some (some (.ref nb)))
 (k0:W.nsIn K mainGlobals "BITS"=some (some (.int 6 u0)))
 (k1:W.nsIn K mainGlobals "BYTE_BITS"=some (some (.int 8 u1)))
 (k2:W.nsIn K mainGlobals "FILLS"=some (some (.ref Xf)))
 (pR:K.lookup Xf=some ⟨.type "dict",none,.dict eu dv,#[]⟩)
 (nT:jl eu.toList=some [(hb,("high" : Str),kb),(ib,("low" : Str),lb)])
 (aU:(Xf == sysModules)=false)
 (vD:hb=hashStr w "high")
 (tD:ib=hashStr w "low")
 (wD:K.lookup kb=some ⟨.type "tuple",none,.seq fb hc,gc⟩)
 (rD:io fb.toList=some [qa,Aa,za,Ea,Ga])
 (uD:Nat.ble fb.size 1000=true)
 (rC:K.lookup qa=some ⟨.type "tuple",none,.seq pa Cb,yb⟩)
 (tC:cR ([]:e7) pa.toList=true)
 (wC:Nat.ble pa.size 1000=true)
 (vC:K.lookup Aa=some ⟨.type "tuple",none,.seq Fa ub,vb⟩)
 (NB:cR ([0]:e7) Fa.toList=true)
 (PB:Nat.ble Fa.size 1000=true)
 (dC:K.lookup za=some ⟨.type "tuple",none,.seq xa qb,wb⟩)
 (cC:cR ([0,0]:e7) xa.toList=true)
 (gC:Nat.ble xa.size 1000=true)
 (YB:K.lookup Ea=some ⟨.type "tuple",none,.seq sa Bb,Eb⟩)
 (fC:cR ([220,0]:e7) sa.toList=true)
 (nC:Nat.ble sa.size 1000=true)
 (RB:K.lookup Ga=some ⟨.type "tuple",none,.seq wa Ab,pb⟩)
 (jC:cR ([0,220,0]:e7) wa.toList=true)
 (zB:Nat.ble wa.size 1000=true)
 (qD:K.lookup lb=some ⟨.type "tuple",none,.seq jb te,Jc⟩)
 (GD:io jb.toList=some [va,Da,Ca,Ba,Ia])
 (yD:Nat.ble jb.size 1000=true)
 (yC:K.lookup va=some ⟨.type "tuple",none,.seq ta Fb,sb⟩)
 (QB:cR ([]:e7) ta.toList=true)
 (aC:Nat.ble ta.size 1000=true)
 (pC:K.lookup Da=some ⟨.type "tuple",none,.seq ya Hb,mb⟩)
 (VB:cR ([0]:e7) ya.toList=true)
 (GC:Nat.ble ya.size 1000=true)
 (qC:K.lookup Ca=some ⟨.type "tuple",none,.seq ra tb,zb⟩)
 (mC:cR ([220]:e7) ra.toList=true)
 (bC:Nat.ble ra.size 1000=true)
 (wB:K.lookup Ba=some ⟨.type "tuple",none,.seq Ha ob,rb⟩)
 (vB:cR ([0,0]:e7) Ha.toList=true)
 (uC:Nat.ble Ha.size 1000=true)
 (HB:K.lookup Ia=some ⟨.type "tuple",none,.seq ua Ib,Db⟩)
 (iC:cR ([0,220]:e7) ua.toList=true)
 (JB:Nat.ble ua.size 1000=true)
 (k3:W.nsIn K mainGlobals "FIRST_BEHIND"=some (some (.int 128 u3)))
 (k4:W.nsIn K mainGlobals "FIRST_HEAD"=some (some (.int 55296 u4)))
 (k5:W.nsIn K mainGlobals "FIRST_SEEN"=some (some (.int 61184 u5)))
 (k6:W.nsIn K mainGlobals "FIRST_TAIL"=some (some (.int 56320 u6)))
 (k7:W.nsIn K mainGlobals "FIRST_WIDE"=some (some (.int 65536 u7)))
 (k8:W.nsIn K mainGlobals "HALF_BITS"=some (some (.int 10 u8)))
 (k9:W.nsIn K mainGlobals "LAST_BEHIND"=some (some (.int 191 u9)))
 (iT:W.nsIn K mainGlobals "LAST_BYTE"=some (some (.int 255 At)))
 (QR:W.nsIn K mainGlobals "LAST_SEEN"=some (some (.int 61439 Cu)))
 (iR:W.nsIn K mainGlobals "LAST_SIGN"=some (some (.int 1114111 Eu)))
 (fU:W.nsIn K mainGlobals "LAST_TAIL"=some (some (.int 57343 zu)))
 (tR:W.nsIn K mainGlobals "LEADS"=some (some (.ref Tb)))
 (tE:K.lookup Tb=some ⟨.type "tuple",none,.seq Pb wl,yp⟩)
 (qH:cR ([0,0,192,224,240]:e7) Pb.toList=true)
 (yK:Nat.ble Pb.size 1000=true)
 (UT:W.nsIn K mainGlobals "MOST_BYTES"=some (some (.int 6 mu)))
 (yS:W.nsIn K mainGlobals "MOST_SIGNS"=some (some (.int 250 qt)))
 (QS:W.nsIn K mainGlobals "MOST_TUPLES"=some (some (.int 64 yt)))
 (RT:W.nsIn K mainGlobals "SECONDS"=some (some (.ref Gb)))
 (nQ:K.lookup Gb=some ⟨.type "dict",none,.dict gd Br,#[]⟩)
 (cF:jV gd.toList=some [(224,Xa),(237,Za),(238,La),(240,Wa),(244,ab)])
 (RK:(Gb == sysModules)=false)
 (YC:K.lookup Xa=some ⟨.type "tuple",none,.seq Ma Lb,Xb⟩)
 (iD:cR ([160,191]:e7) Ma.toList=true)
 (mD:Nat.ble Ma.size 1000=true)
 (XC:K.lookup Za=some ⟨.type "tuple",none,.seq db Vb,Sb⟩)
 (LC:cR ([128,159]:e7) db.toList=true)
 (QC:Nat.ble db.size 1000=true)
 (RC:K.lookup La=some ⟨.type "tuple",none,.seq Va Ub,Mb⟩)
 (bD:cR ([128,187]:e7) Va.toList=true)
 (nD:Nat.ble Va.size 1000=true)
 (gD:K.lookup Wa=some ⟨.type "tuple",none,.seq Ya Nb,Kb⟩)
 (KC:cR ([144,191]:e7) Ya.toList=true)
 (fD:Nat.ble Ya.size 1000=true)
 (aD:K.lookup ab=some ⟨.type "tuple",none,.seq Oa Wb,Qb⟩)
 (dD:cR ([128,143]:e7) Oa.toList=true)
 (jD:Nat.ble Oa.size 1000=true)
 (FT:W.nsIn K mainGlobals "SHIFTS"=some (some (.ref Ob)))
 (HD:K.lookup Ob=some ⟨.type "tuple",none,.seq Rb Cs,em⟩)
 (GK:cR ([254,255]:e7) Rb.toList=true)
 (dM:Nat.ble Rb.size 1000=true)
 (z0:W.nsIn K mainGlobals "ValueError"=some none)
 (z1:W.nsIn K mainGlobals "all"=some none)
 (z2:W.nsIn K mainGlobals "any"=some none)
 (z3:W.nsIn K mainGlobals "bool"=some none)
 (z4:W.nsIn K mainGlobals "enumerate"=some none)
 (z5:W.nsIn K mainGlobals "int"=some none)
 (z6:W.nsIn K mainGlobals "isinstance"=some none)
 (z7:W.nsIn K mainGlobals "len"=some none)
 (z8:W.nsIn K mainGlobals "list"=some none)
 (z9:W.nsIn K mainGlobals "range"=some none)
 (DR:W.nsIn K mainGlobals "set"=some none)
 (zR:W.nsIn K mainGlobals "str"=some none)
 (bR:W.nsIn K mainGlobals "sum"=some none)
 (MT:W.nsIn K mainGlobals "tuple"=some none)
 (vR:W.nsIn K mainGlobals "zip"=some none):∃t,Txt w K mg t:=by
  have F0:=gn (st:=me) JR WT mR VR;have iv:=F0.binds (ps:=["self", "tongue", "place"]) (ds:=[.int 0 gb]) (λ_ _ _ _ _ _ _=>U6 λ_ _=>⟨_,rfl,rfl⟩);have b0:=F0.binds (ps:=["self", "tongue", "place"]) (ds:=[]) (λ_ _ _ _ _ _ _=>U7 λ_ _ _=>⟨_,rfl,rfl⟩);have F1:=aZ (st:=lX) bU dU RQ;have b1:=F1.binds (ps:=["self"]) (λ_ _ _ _ _ _=>bT λ_=>rfl);have F2:=aZ (st:=mf) gU XR aR;have b2:=F2.binds (ps:=["self"]) (λ_ _ _ _ _ _=>bT λ_=>rfl);have F3:=aZ (st:=lV) iU jR ZQ;have b3:=F3.binds (ps:=["self"]) (λ_ _ _ _ _ _=>bT λ_=>rfl);have F4:=aZ (st:=mi) NT sS XQ;have b4:=F4.binds (ps:=["self"]) (λ_ _ _ _ _ _=>bT λ_=>rfl);have F5:=aZ (st:=lY) zT GR WQ;have b5:=F5.binds (ps:=["self"]) (λ_ _ _ _ _ _=>bT λ_=>rfl);have F6:=aZ (st:=mh) PT eU TQ;have b6:=F6.binds (ps:=["self", "row"]) (λ_ _ _ _ _ _=>bS λ_ _=>rfl);have F7:=aZ (st:=mj) JT cT YQ;have b7:=F7.binds (ps:=["self"]) (λ_ _ _ _ _ _=>bT λ_=>rfl);have F8:=aZ (st:=lW) WR HS SQ;have b8:=F8.binds (ps:=["self", "byte"]) (λ_ _ _ _ _ _=>bS λ_ _=>rfl);have F9:=aZ (st:=ma) ZS ZR QQ;have b9:=F9.binds (ps:=["self"]) (λ_ _ _ _ _ _=>bT λ_=>rfl);have Lu:=aZ (st:=l7) QJ YM yE;have Dv:=Lu.binds (ps:=["self"]) (λ_ _ _ _ _ _=>bT λ_=>rfl);have pu:=aZ (st:=l8) aL CJ JD;have Yv:=pu.binds (ps:=["self", "length", "kind"]) (λ_ _ _ _ _ _=>de λ_ _ _=>rfl);have Bt:=aZ (st:=lZ) CQ ZG lE;have rv:=Bt.binds (ps:=["self", "length", "kind"]) (λ_ _ _ _ _ _=>de λ_ _ _=>rfl);have cu:=aZ (st:=mx) ZK tK WF;have uw:=cu.binds (ps:=["self", "place", "length", "kind"]) (λ_ _ _ _ _ _=>Cp λ_ _ _ _=>rfl);have pt:=aZ (st:=lC) nH fP gG;have Yu:=pt.binds (ps:=["number", "bits"]) (λ_ _ _ _ _ _=>bS λ_ _=>rfl);have kt:=aZ (st:=kP) iG qN uM;have Cv:=kt.binds (ps:=["parts", "bits"]) (λ_ _ _ _ _ _=>bS λ_ _=>rfl);have vt:=aZ (st:=kZ) yI nO uP;have ov:=vt.binds (ps:=["thing"]) (λ_ _ _ _ _ _=>bT λ_=>rfl);have iu:=aZ (st:=lh) LQ WP mH;have lx:=iu.binds (ps:=["thing"]) (λ_ _ _ _ _ _=>bT λ_=>rfl);have Ju:=aZ (st:=lf) eN qL YK;have gw:=Ju.binds (ps:=["number"]) (λ_ _ _ _ _ _=>bT λ_=>rfl);have Dt:=aZ (st:=kW) bM eO jQ;have Mw:=Dt.binds (ps:=["number"]) (λ_ _ _ _ _ _=>bT λ_=>rfl);have Ht:=aZ (st:=kY) nP cN cM;have Ww:=Ht.binds (ps:=["thing"]) (λ_ _ _ _ _ _=>bT λ_=>rfl);have uu:=aZ (st:=kX) TF iK KJ;have Ow:=uu.binds (ps:=["thing"]) (λ_ _ _ _ _ _=>bT λ_=>rfl);have lu:=aZ (st:=jI) qO JP bO;have hx:=lu.binds (ps:=["thing"]) (λ_ _ _ _ _ _=>bT λ_=>rfl);have rt:=aZ (st:=lH) zM GQ cD;have tv:=rt.binds (ps:=["self"]) (λ_ _ _ _ _ _=>bT λ_=>rfl);have Og:=gn (st:=lG) YF LK eE vK;have Io:=Og.binds (ps:=["self", "row", "page"]) (ds:=[.int 0 Ka]) (λ_ _ _ _ _ _ _=>U6 λ_ _=>⟨_,rfl,rfl⟩);have qx:=Og.binds (ps:=["self", "row", "page"]) (ds:=[]) (λ_ _ _ _ _ _ _=>U7 λ_ _ _=>⟨_,rfl,rfl⟩);have ft:=gn (st:=lJ) XF bK OD sI;have bq:=ft.binds (ps:=["self", "row", "page"]) (ds:=[.int 0 Sa]) (λ_ _ _ _ _ _ _=>U6 λ_ _=>⟨_,rfl,rfl⟩);have lv:=ft.binds (ps:=["self", "row", "page"]) (ds:=[]) (λ_ _ _ _ _ _ _=>U7 λ_ _ _=>⟨_,rfl,rfl⟩);have yn:=gn (st:=lI) dI JG JC BJ;have el:=yn.binds (ps:=["self", "begun", "page"]) (ds:=[.int 0 Ta]) (λ_ _ _ _ _ _ _=>U6 λ_ _=>⟨_,rfl,rfl⟩);have Sv:=yn.binds (ps:=["self", "begun", "page"]) (ds:=[]) (λ_ _ _ _ _ _ _=>U7 λ_ _ _=>⟨_,rfl,rfl⟩);have Nt:=aZ (st:=kU) oJ DK TP;have ux:=Nt.binds (ps:=["first"]) (λ_ _ _ _ _ _=>bT λ_=>rfl);have hu:=aZ (st:=lD) YH yF bN;have sw:=hu.binds (ps:=["row", "place"]) (λ_ _ _ _ _ _=>bS λ_ _=>rfl);have fu:=aZ (st:=lj) PK fQ PJ;have Cx:=fu.binds (ps:=["row"]) (λ_ _ _ _ _ _=>bT λ_=>rfl);have Kt:=aZ (st:=kT) bH uJ PN;have Jx:=Kt.binds (ps:=["row"]) (λ_ _ _ _ _ _=>bT λ_=>rfl);have Au:=aZ (st:=jJ) XH uQ WL;have nv:=Au.binds (ps:=["row"]) (λ_ _ _ _ _ _=>bT λ_=>rfl);have uh:=gn (st:=mw) fL pQ RD pO;have Yg:=uh.binds (ps:=["self", "row", "page"]) (ds:=[.int 0 Pa]) (λ_ _ _ _ _ _ _=>U6 λ_ _=>⟨_,rfl,rfl⟩);have Wx:=uh.binds (ps:=["self", "row", "page"]) (ds:=[]) (λ_ _ _ _ _ _ _=>U7 λ_ _ _=>⟨_,rfl,rfl⟩);have fi:=gn (st:=jL) SM VL QD tM;have si:=fi.binds (ps:=["self", "row", "page"]) (ds:=[.int 0 Na]) (λ_ _ _ _ _ _ _=>U6 λ_ _=>⟨_,rfl,rfl⟩);have av:=fi.binds (ps:=["self", "row", "page"]) (ds:=[]) (λ_ _ _ _ _ _ _=>U7 λ_ _ _=>⟨_,rfl,rfl⟩);have du:=aZ (st:=kQ) aP IK HJ;have zw:=du.binds (ps:=["units"]) (λ_ _ _ _ _ _=>bT λ_=>rfl);have Tg:=gn (st:=mq) RJ pK UJ uK;have Fp:=Tg.binds (ps:=["self", "order"]) (ds:=[.str "high" bb]) (λ_ _ _ _ _ _ _=>U8 λ_=>⟨_,rfl,rfl⟩);have Gv:=Tg.binds (ps:=["self", "order"]) (ds:=[]) (λ_ _ _ _ _ _ _=>U6 λ_ _=>⟨_,rfl,rfl⟩);have St:=aZ (st:=mm) JN zP rE;have nx:=St.binds (ps:=["self"]) (λ_ _ _ _ _ _=>bT λ_=>rfl);have Ut:=aZ (st:=mn) rI fJ VD;have wx:=Ut.binds (ps:=["self", "pair"]) (λ_ _ _ _ _ _=>bS λ_ _=>rfl);have tt:=aZ (st:=jK) JM cG ZD;have Dx:=tt.binds (ps:=["self", "row"]) (λ_ _ _ _ _ _=>bS λ_ _=>rfl);have Qo:=gn (st:=ml) WK XM KD fK;have Ml:=Qo.binds (ps:=["self", "row", "page"]) (ds:=[.int 0 cb]) (λ_ _ _ _ _ _ _=>U6 λ_ _=>⟨_,rfl,rfl⟩);have qv:=Qo.binds (ps:=["self", "row", "page"]) (ds:=[]) (λ_ _ _ _ _ _ _=>U7 λ_ _ _=>⟨_,rfl,rfl⟩);have Gr:=gn (st:=mv) jN zQ YD XK;have Ts:=Gr.binds (ps:=["self", "row", "page"]) (ds:=[.int 0 Ua]) (λ_ _ _ _ _ _ _=>U6 λ_ _=>⟨_,rfl,rfl⟩);have Ux:=Gr.binds (ps:=["self", "row", "page"]) (ds:=[]) (λ_ _ _ _ _ _ _=>U7 λ_ _ _=>⟨_,rfl,rfl⟩);have au:=aZ (st:=kR) KQ HQ vH;have fw:=au.binds (ps:=["tongue", "row"]) (λ_ _ _ _ _ _=>bS λ_ _=>rfl);have Mu:=aZ (st:=lF) wI qF NQ;have jv:=Mu.binds (ps:=["one", "other"]) (λ_ _ _ _ _ _=>bS λ_ _=>rfl);have ot:=aZ (st:=kS) YG fM JK;have zx:=ot.binds (ps:=["signs", "which"]) (λ_ _ _ _ _ _=>bS λ_ _=>rfl);have Lt:=aZ (st:=lT) oG oO zG;have Qx:=Lt.binds (ps:=["self", "first", "second"]) (λ_ _ _ _ _ _=>de λ_ _ _=>rfl);have Ku:=aZ (st:=lR) qP SJ WD;have ex:=Ku.binds (ps:=["self", "page"]) (λ_ _ _ _ _ _=>bS λ_ _=>rfl);have Mt:=aZ (st:=lQ) HH pG oE;have Xu:=Mt.binds (ps:=["self", "byte", "page"]) (λ_ _ _ _ _ _=>de λ_ _ _=>rfl);have Qm:=gn (st:=lP) uG eQ sE KN;have rq:=Qm.binds (ps:=["self", "row", "page"]) (ds:=[.int 0 Ra]) (λ_ _ _ _ _ _ _=>U6 λ_ _=>⟨_,rfl,rfl⟩);have fx:=Qm.binds (ps:=["self", "row", "page"]) (ds:=[]) (λ_ _ _ _ _ _ _=>U7 λ_ _ _=>⟨_,rfl,rfl⟩);have Mn:=gn (st:=lU) vO uN zE dJ;have Gp:=Mn.binds (ps:=["self", "row", "page"]) (ds:=[.int 0 eb]) (λ_ _ _ _ _ _ _=>U6 λ_ _=>⟨_,rfl,rfl⟩);have cv:=Mn.binds (ps:=["self", "row", "page"]) (ds:=[]) (λ_ _ _ _ _ _ _=>U7 λ_ _ _=>⟨_,rfl,rfl⟩);have Yt:=aZ (st:=lg) mQ VF DG;have px:=Yt.binds (ps:=["thing"]) (λ_ _ _ _ _ _=>bT λ_=>rfl);have Rt:=aZ (st:=lm) mF yN uL;have Px:=Rt.binds (ps:=["one", "other"]) (λ_ _ _ _ _ _=>bS λ_ _=>rfl);have Bu:=aZ (st:=ls) bF VM UG;have Pv:=Bu.binds (ps:=["rows"]) (λ_ _ _ _ _ _=>bT λ_=>rfl);have It:=aZ (st:=lM) nM pP wN;have Yw:=It.binds (ps:=["self", "rows"]) (λ_ _ _ _ _ _=>bS λ_ _=>rfl);have Gu:=aZ (st:=lO) WN cJ XD;have Ox:=Gu.binds (ps:=["self", "sign", "row"]) (λ_ _ _ _ _ _=>de λ_ _ _=>rfl);have Yk:=gn (st:=lK) XN MJ aF dO;have kh:=Yk.binds (ps:=["self", "row", "page"]) (ds:=[.int 0 Ja]) (λ_ _ _ _ _ _ _=>U6 λ_ _=>⟨_,rfl,rfl⟩);have pw:=Yk.binds (ps:=["self", "row", "page"]) (ds:=[]) (λ_ _ _ _ _ _ _=>U7 λ_ _ _=>⟨_,rfl,rfl⟩);have Hj:=gn (st:=lN) FP mK uE qJ;have ak:=Hj.binds (ps:=["self", "row", "page"]) (ds:=[.int 0 Qa]) (λ_ _ _ _ _ _ _=>U6 λ_ _=>⟨_,rfl,rfl⟩);have Jw:=Hj.binds (ps:=["self", "row", "page"]) (ds:=[]) (λ_ _ _ _ _ _ _=>U7 λ_ _ _=>⟨_,rfl,rfl⟩);have qu:=aZ (st:=kL) uI XJ CP;have Tu:=qu.binds (ps:=["_law_script", "_law_at"]) (λ_ _ _ _ _ _=>bS λ_ _=>rfl);have Zt:=aZ (st:=kI) nG RL aO;have Ou:=Zt.binds (ps:=["_law_found"]) (λ_ _ _ _ _ _=>bT λ_=>rfl);have Fu:=aZ (st:=kF) YL QL wH;have ww:=Fu.binds (ps:=["_law_number", "_law_k"]) (λ_ _ _ _ _ _=>bS λ_ _=>rfl);have ht:=aZ (st:=kJ) JQ dK zL;have Ev:=ht.binds (ps:=["_law_number"]) (λ_ _ _ _ _ _=>bT λ_=>rfl);have it:=aZ (st:=kN) TJ pJ mL;have Wu:=it.binds (ps:=["_law_number"]) (λ_ _ _ _ _ _=>bT λ_=>rfl);have ou:=aZ (st:=i8) dG fG iH;have Uw:=ou.binds (ps:=["_law_number"]) (λ_ _ _ _ _ _=>bT λ_=>rfl);have ut:=aZ (st:=jF) MP CK jM;have Hx:=ut.binds (ps:=["_law_number"]) (λ_ _ _ _ _ _=>bT λ_=>rfl);have jt:=aZ (st:=kE) mJ MN GF;have hv:=jt.binds (ps:=["_law_cell"]) (λ_ _ _ _ _ _=>bT λ_=>rfl);have Wt:=aZ (st:=jE) bQ cO oK;have Qv:=Wt.binds (ps:=["_law_model_here"]) (λ_ _ _ _ _ _=>bT λ_=>rfl);have Nu:=aZ (st:=kl) vP sO UL;have Pw:=Nu.binds (ps:=["_law_model_here"]) (λ_ _ _ _ _ _=>bT λ_=>rfl);have Gt:=aZ (st:=kG) nF FN yO;have wv:=Gt.binds (ps:=["_law_sign"]) (λ_ _ _ _ _ _=>bT λ_=>rfl);have wt:=aZ (st:=kz) vJ gF gQ;have yv:=wt.binds (ps:=["_law_sign", "_law_word"]) (λ_ _ _ _ _ _=>bS λ_ _=>rfl);have ru:=aZ (st:=km) dN wO RM;have Av:=ru.binds (ps:=["_law_model_here", "_law_sign", "_law_page"]) (λ_ _ _ _ _ _=>de λ_ _ _=>rfl);have mt:=aZ (st:=iJ) gK dF CN;have Xw:=mt.binds (ps:=["_law_model_here", "_law_cells"]) (λ_ _ _ _ _ _=>bS λ_ _=>rfl);have Tt:=aZ (st:=kx) RP MF ZF;have Sx:=Tt.binds (ps:=["_law_row_here", "_law_cell"]) (λ_ _ _ _ _ _=>bS λ_ _=>rfl);have bu:=aZ (st:=kH) aM gH tL;have ew:=bu.binds (ps:=["_law_kept"]) (λ_ _ _ _ _ _=>bT λ_=>rfl);have nt:=aZ (st:=kD) JF ZP FJ;have Fw:=nt.binds (ps:=["_law_kept", "_law_word"]) (λ_ _ _ _ _ _=>bS λ_ _=>rfl);have yu:=aZ (st:=jG) xH qG vL;have Tx:=yu.binds (ps:=["_law_model_here", "_law_kept", "_law_page"]) (λ_ _ _ _ _ _=>de λ_ _ _=>rfl);have Ct:=aZ (st:=ko) jP JH wF;have Iv:=Ct.binds (ps:=["_law_model_here", "_law_cells"]) (λ_ _ _ _ _ _=>bS λ_ _=>rfl);have wu:=aZ (st:=kO) HF wM iI;have iw:=wu.binds (ps:=["_law_model_here", "_law_part", "_law_page"]) (λ_ _ _ _ _ _=>de λ_ _ _=>rfl);have Qt:=aZ (st:=ky) QH cH iM;have gv:=Qt.binds (ps:=["_law_model_here", "_law_row_here"]) (λ_ _ _ _ _ _=>bS λ_ _=>rfl);have Vt:=aZ (st:=kK) RN yQ uO;have tx:=Vt.binds (ps:=["_law_model_here", "_law_row_here"]) (λ_ _ _ _ _ _=>bS λ_ _=>rfl);have Du:=aZ (st:=kM) pN zK FQ;have lw:=Du.binds (ps:=["_law_found", "_law_model_here", "_law_ends"]) (λ_ _ _ _ _ _=>de λ_ _ _=>rfl);have Pt:=aZ (st:=kr) QG VH RG;have Xx:=Pt.binds (ps:=["_law_tongue_here", "_law_row_here"]) (λ_ _ _ _ _ _=>bS λ_ _=>rfl);have Iu:=aZ (st:=ku) uH tO VG;have zv:=Iu.binds (ps:=["_law_tongue_here", "_law_model_here", "_law_row_here", "_law_due_here"]) (λ_ _ _ _ _ _=>Cp λ_ _ _ _=>rfl);have Ot:=aZ (st:=jH) BK wJ gO;have yx:=Ot.binds (ps:=["_law_script"]) (λ_ _ _ _ _ _=>bT λ_=>rfl)
  exact⟨⟨a0,_,gb,a1,_,a2,_,a3,_,a4,_,a5,_,a6,_,a7,_,a8,_,a9,_,Nd,_,ve,_,Dc,_,Mc,_,Cf,_,gg,_,rf,_,Uf,_,zf,_,qf,_,Ff,_,Af,_,Qf,_,Jb,_,jf,_,Ka,je,_,Sa,nb,_,Ta,Pf,_,tf,_,Lf,_,If,_,Hf,_,wc,_,Pa,hf,_,Na,cg,_,Yd,_,bb,Te,_,Nc,_,We,_,pd,_,cb,Sd,_,Ua,Sf,_,Of,_,Rf,_,Yb,_,zc,_,qc,_,He,_,Ra,Wc,_,eb,Kf,_,eg,_,Ef,_,td,_,Dd,_,Bc,_,Ja,Ic,_,Qa,Df,_,dg,_,qg,_,ig,_,Tf,_,pg,_,Yf,_,fg,_,jg,_,bg,_,Mf,_,uf,_,kg,_,Nf,_,wf,_,Zf,_,ag,_,Vf,_,ng,_,Jf,_,Gf,_,yf,_,Bf,_,vf,_,Wf,_,hg,_,da,ga,ea,ca,aa,ba,ia,na,ka,fa,la,oa,ha,ja,u0,u1,Xf,hb,kb,qa,Aa,za,Ea,Ga,ib,lb,va,Da,Ca,Ba,Ia,u3,u4,u5,u6,u7,u8,u9,At,Cu,Eu,zu,Tb,mu,qt,yt,Gb,Xa,Za,La,Wa,ab,Ob⟩,⟨F0,iv,b0,F1,b1,F2,b2,F3,b3,F4,b4,F5,b5,F6,b6,F7,b7,F8,b8,F9,b9,Lu,Dv,pu,Yv,Bt,rv,cu,uw,pt,Yu,W.mg_of X G uF,kt,Cv,W.mg_of X G pI,vt,ov,W.mg_of X G pF,iu,lx,W.mg_of X G zF,Ju,gw,W.mg_of X G xG,Dt,Mw,W.mg_of X G tQ,Ht,Ww,W.mg_of X G vI,uu,Ow,W.mg_of X G VK,lu,hx,W.mg_of X G jO,rt,tv,Og,Io,qx,ft,bq,lv,yn,el,Sv,Nt,ux,W.mg_of X G zN,hu,sw,W.mg_of X G QK,fu,Cx,W.mg_of X G eF,Kt,Jx,W.mg_of X G dH,Au,nv,W.mg_of X G DQ,uh,Yg,Wx,fi,si,av,du,zw,W.mg_of X G ZM,Tg,Fp,Gv,St,nx,Ut,wx,tt,Dx,Qo,Ml,qv,Gr,Ts,Ux,au,fw,W.mg_of X G SN,Mu,jv,W.mg_of X G yP,ot,zx,W.mg_of X G wK,Lt,Qx,Ku,ex,Mt,Xu,Qm,rq,fx,Mn,Gp,cv,Yt,px,W.mg_of X G vG,Rt,Px,W.mg_of X G VN,Bu,Pv,W.mg_of X G eG,It,Yw,Gu,Ox,Yk,kh,pw,Hj,ak,Jw,qu,Tu,W.mg_of X G iQ,Zt,Ou,W.mg_of X G yL,Fu,ww,W.mg_of X G GP,ht,Ev,W.mg_of X G TG,it,Wu,W.mg_of X G OJ,ou,Uw,W.mg_of X G BL,ut,Hx,W.mg_of X G DP,jt,hv,W.mg_of X G qQ,Wt,Qv,W.mg_of X G VJ,Nu,Pw,W.mg_of X G wG,Gt,wv,W.mg_of X G bG,wt,yv,W.mg_of X G eH,ru,Av,W.mg_of X G cL,mt,Xw,W.mg_of X G gJ,Tt,Sx,W.mg_of X G oH,bu,ew,W.mg_of X G yM,nt,Fw,W.mg_of X G mG,yu,Tx,W.mg_of X G yJ,Ct,Iv,W.mg_of X G NK,wu,iw,W.mg_of X G BP,Qt,gv,W.mg_of X G KH,Vt,tx,W.mg_of X G PP,Du,lw,W.mg_of X G aN,Pt,Xx,W.mg_of X G CG,Iu,zv,W.mg_of X G cI,Ot,yx,W.mg_of X G nJ,W.mg_of X G xU,⟨rP,sr,rZ,rJ⟩,⟨xD,dR,YT,xL⟩,⟨yR,uR,RQ⟩,⟨QT,qR,aR⟩,⟨JS,HR,ZQ⟩,⟨BR,KR,XQ⟩,⟨XS,qT,WQ⟩,⟨CT,YS,TQ⟩,⟨uT,gR,YQ⟩,⟨rT,LR,SQ⟩,⟨cU,nR,QQ⟩,⟨pH,cQ,yE⟩,⟨aG,qM,JD⟩,⟨QF,yH,lE⟩,xy,xx,xw,xv,xu,xt,xr,λH a dx fs e=>.ins e ⟨rP,sr,rZ,rJ⟩ xg w5 wT tB,W.mg_of X G xQ,⟨rM,sk,rW,rF⟩,⟨xA,xO,xI⟩,⟨zH,pD,cD⟩,⟨qI,vQ,eE⟩,⟨NP,zO,OD⟩,⟨qK,ZC,JC⟩,λH a dx fs e=>.ins e ⟨rM,sk,rW,rF⟩ xb wX wQ uB,W.mg_of X G xW,⟨rR,sv,sf,rL⟩,⟨xF,xP,xN⟩,⟨tH,vN,RD⟩,⟨bL,sH,QD⟩,⟨oA,pD,cD⟩,⟨pA,ZC,JC⟩,λH a dx fs e=>.ins e ⟨rR,sv,sf,rL⟩ xi w9 wV bB,W.mg_of X G xV,⟨rQ,su,sd,rK⟩,⟨xE,fO,ZJ,xM⟩,⟨pL,oF,rE⟩,⟨PQ,zJ,VD⟩,⟨vM,cP,ZD⟩,⟨VP,HN,KD⟩,⟨aQ,ZL,YD⟩,⟨nA,ZC,JC⟩,xz,λH a dx fs e=>.ins e ⟨rQ,su,sd,rK⟩ xh w6 wU cB,W.mg_of X G xT,⟨rO,sq,rY,rH⟩,⟨xC,bJ,sG,xK⟩,⟨gP,WM,WD⟩,⟨aH,lL,oE⟩,⟨wL,DN,sE⟩,⟨yG,QM,zE⟩,⟨gA,pD,cD⟩,⟨jA,ZC,JC⟩,xq,xp,xo,λH a dx fs e=>.ins e ⟨rO,sq,rY,rH⟩ xf wZ wS wA,W.mg_of X G xR,⟨rN,so,rX,rG⟩,⟨xB,sJ,mO,xJ⟩,⟨JL,gM,XD⟩,⟨bI,PL,aF⟩,⟨aJ,GJ,uE⟩,⟨lA,pD,cD⟩,⟨cA,ZC,JC⟩,xn,xm,xk,λH a dx fs e=>.ins e ⟨rN,so,rX,rG⟩ xc wY wR zA,W.mg_of X G om,W.mg_of X G ol,W.mg_of X G oj,W.mg_of X G mN,W.mg_of X G oi,W.mg_of X G oh,W.mg_of X G mM,W.mg_of X G og,⟨jB,rB,lB,iB,gB,fB,dB,pB⟩,uA,aA,bA,m8,jT,oR,oQ,oN,oM,aB,rA,vA,MK,tG,YJ,pM,W.mg_of X G k0,W.mg_of X G k1,W.mg_of X G k2,⟨⟨_,_,pR,nT⟩,X6.mpr ⟨vD,X6.mpr ⟨tD,λ_ z=>nomatch z⟩⟩,(show List.Nodup (["high", "low"]:List Str) by decide +kernel),aU⟩,zY wD rD (Vu uD),dZ rC tC (Vu wC),dZ vC NB (Vu PB),dZ dC cC (Vu gC),dZ YB fC (Vu nC),dZ RB jC (Vu zB),zY qD GD (Vu yD),dZ yC QB (Vu aC),dZ pC VB (Vu GC),dZ qC mC (Vu bC),dZ wB vB (Vu uC),dZ HB iC (Vu JB),W.mg_of X G k3,W.mg_of X G k4,W.mg_of X G k5,W.mg_of X G k6,W.mg_of X G k7,W.mg_of X G k8,W.mg_of X G k9,W.mg_of X G iT,W.mg_of X G QR,W.mg_of X G iR,W.mg_of X G fU,W.mg_of X G tR,dZ tE qH (Vu yK),⟨_,tE,rfl,rfl⟩,W.mg_of X G UT,W.mg_of X G yS,W.mg_of X G QS,W.mg_of X G RT,⟨⟨_,_,nQ,cF⟩,(show List.Nodup ([224,237,238,240,244]:e7) by decide),RK⟩,dZ YC iD (Vu mD),dZ XC LC (Vu QC),dZ RC bD (Vu nD),dZ gD KC (Vu fD),dZ aD dD (Vu jD),W.mg_of X G FT,dZ HD GK (Vu dM),⟨_,HD,rfl,rfl⟩,W.mg_none_of X G z0,W.mg_none_of X G z1,W.mg_none_of X G z2,W.mg_none_of X G z3,W.mg_none_of X G z4,W.mg_none_of X G z5,W.mg_none_of X G z6,W.mg_none_of X G z7,W.mg_none_of X G z8,W.mg_none_of X G z9,W.mg_none_of X G DR,W.mg_none_of X G zR,W.mg_none_of X G bR,W.mg_none_of X G MT,W.mg_none_of X G vR⟩⟩
def walk {l:PySem.W.OpenLaw} {q:Program} {b:List Str} {p:(Str->Option Value)->Heap->Prop} {j:World->Heap->Prop} {d:DefRec} {K:Params->PySem.W.Frag} (B:l.most=some 63) (g:d.params.defaults=[]) (i:d.name = "law")
 (hY:∀(w:World) (h:Heap),j w h->(K w.params).In h)
 (F:∀(w:World) (mg:Str->Option Value) (h:Heap),(K w.params).In h->h.Ns mainGlobals mg->∃t,Txt w (K w.params) mg t) :
 PySem.W.WalkO q b p j l.row.toRowW d [] (λf vs=>PySem.call f vs):=by
 refine L2.walk_of (n:=63) (k:=15) (x := "_law_script") (CX:=λ_=>cn) (sp:=λw=>tL (K w.params)) B (by decide) g ⟨rfl,by decide,by decide⟩ hY (λw mg N h D G c=>?_) (λ_ _ a ns v _ hS=>⟨a,rfl,ns,hS,v,λ_=>rfl⟩) λ_ _ _ _ _ z=>z;obtain⟨t,T⟩:=F w mg h D G;rw[i]at c;have e:=c.symm.trans T.Ds;cases e;obtain⟨I,od,kV,y,L,M,C,ct,o,r,J,m⟩:=T.zx.ex;refine⟨t.rg,λs u=>?_,λbase _ _=>(Ou (P:=l.prog) (w:=w) (base:=base) T).ok⟩;rw[r];exact .of_eq Z
end My
structure PySem.W.Fast:Prop where
 (tw10019207772868945324 tw10098103841683621718 tw10175395157419098422 tw10180062569171551647 tw1019311076709999742 tw10240528701286056765 tw10249495894487437227 tw10356859820572195090 tw10366800540648265749 tw10469305732319168811 tw10469729178344881819 tw10489885777168796907 tw1050058633808606828 tw10517804829827378555 tw10545568182742953867 tw10567459385190462245 tw10645289706865530203 tw10645844330606856021 tw10731832888556134175 tw10738594403146611234 tw10744800755369793257 tw10772074021578167469 tw10776301111409406696 tw10849081466922920450 tw10889057677078115933 tw10969742254686120586 tw10975545264680451280 tw1097557757327141442 tw10981765402405456797 tw10987738900978448832 tw11018863613197475868 tw11020386602430788161 tw11074323592261633311 tw11131396553116556507 tw1114965138722193006 tw11222337516942692967 tw11296677247968712151 tw11303052223135107236 tw11324768131091465130 tw11350626708771591865 tw11373390816675857626 tw11380823869227582550 tw11392694413548715284 tw11412133368176834892 tw11444959643723121716 tw11447465587549143606 tw1152975657612096879 tw11540085900209994329 tw11555341835210921786 tw1157092030062830768 tw1158478966188282723 tw1159445962000401592 tw11601721668754284297 tw11631533821302151624 tw11653742256619326278 tw11681680598924044332 tw11697876020602927257 tw11841869998955467484 tw11859996036664802141 tw11885202273268698703 tw11910761422397103782 tw11915372998841896448 tw11916747368669893800 tw11931710043155243977 tw11986992776023329912 tw12005875949489281486 tw12029168918747714104 tw12029521165915988692 tw12054845564667925424 tw12055551119579041187 tw12056374256325321417 tw12062291459954337521 tw12098584262736646522 tw12152271697320376805 tw12161581168479040227 tw1216318077028583311 tw12166097150200601757 tw12185305905776850622 tw12219362616501448545 tw12266624715570617223 tw12358883740536835344 tw12375199084498778681 tw12396608081875984618 tw1247444017311988137 tw12496244708716467293 tw12506490405082210091 tw1257033716865691896 tw12592004587122671188 tw12598719493582004709 tw12636758662236126953 tw12679291909459633078 tw12683955312067747394 tw12691464917338803463 tw12695082274285140279 tw12701632664029166 tw12724681271657019739 tw12726285921768436745 tw12745179343800411874 tw12829983471414790723 tw12851011484934659050 tw12853264643962930062 tw1285689317942213348 tw12873908412076201304 tw12885308474907633910 tw12892726263679835112 tw1291807262816046008 tw12925295253675038909 tw12932820875438232973 tw12943189446008420023 tw12961244227992725907 tw13019799569856270593 tw1303500562592366785 tw13080671702289156006 tw13086499539338233496 tw13102010175853342953 tw1314942091841705470 tw13150476576300755352 tw13220581731744343150 tw13236845962406966807 tw13241076325942570749 tw13245520615146837620 tw13256508251807208921 tw13269068900556289776 tw13315269545620250167 tw1337169394718453227 tw13384424814985922652 tw13425277908176364041 tw13428214485869498809 tw13575652755831895107 tw13600060690255905800 tw13681426522627111276 tw13730603185519540742 tw13769532506608848521 tw13774643566670322004 tw13852574935565467705 tw13893472454377133698 tw13907037003270300991 tw13930865190409458875 tw13939416601371911278 tw13965266157664272266 tw14076535457996096286 tw14092995874101985390 tw14095790698366138492 tw14100813177118702492 tw14119303913923771994 tw14129221009881647475 tw14160484384021992198 tw14162637525994336018 tw14202566491620877329 tw14247027937780962956 tw14263429411657031752 tw1427386380819417999 tw14281798754922488280 tw14338196280835630228 tw1436755706033896942 tw14411219517254671687 tw14446499680733876396 tw1445379846138664537 tw14478592450731797857 tw14486526319271539825 tw14500578734014633565 tw14518600683416430239 tw14561299671531509291 tw14568120191261092937 tw1457341205657727446 tw14587211284526664882 tw14636471173312938068 tw14648411668283404051 tw14702434359725423093 tw14739177200405971908 tw14757583400472006420 tw14759563808447199780 tw14762601136159461790 tw14805353412764363923 tw14820929139529560055 tw14883456540478722361 tw14897666827451333399 tw14902572302807649341 tw1490604329806069285 tw14920740243965833078 tw14957947595613668215 tw14960870419752092340 tw1496826488646841894 tw1507855993437938210 tw15087796349244422172 tw15089593256095426857 tw15093445444899402405 tw1511412352520093080 tw15142857106248365766 tw1516403023632401807 tw15190578179613797323 tw15194431385529121976 tw15215828029909676897 tw15256552841484368584 tw15291131547351225208 tw15315053215463063790 tw15331270376156610617 tw15342346603543033022 tw15355966353217598986 tw15386827255363046091 tw1544142003025438952 tw15442069902858935306 tw15523054487082870025 tw15538036682588152570 tw15543416145394760595 tw15545885097296262008 tw15572883909616989241 tw15573875016097602008 tw15603644586583959906 tw156460761678676836 tw15715284511130792438 tw15732289634046439964 tw15761465798298803274 tw15798944374548344117 tw15808565185208622011 tw15831481738485040803 tw1586195837988756692 tw15867935252910693290 tw15881864380053264916 tw15923407580765067904 tw15930220423864958548 tw15942122867288561215 tw15944135992812874904 tw15982247198827318719 tw16020575931581869058 tw16039320184847798382 tw16094397382479720450 tw16096826410254318754 tw16108608210241174252 tw16136360746222567668 tw16147725577459621813 tw16200326824749558600 tw16251599531116713260 tw16256022978913692479 tw16272520381599795590 tw16275445608741080246 tw16308915097953694269 tw16347350809026144088 tw16370715203072492571 tw16393725872225976719 tw16418852245064288523 tw16476754793262519218 tw16543358987377513902 tw1654555348682382759 tw16560712316701132097 tw16581658380446163089 tw16639920058946893809 tw16668292444432269900 tw16671050927556948150 tw16672134476799325283 tw16698074052204566069 tw16718715312885576938 tw16769409425705487761 tw16769699267749230810 tw16785850388854632627 tw16807705091537063584 tw16812303010071201302 tw16835248727366455976 tw16902015726676404175 tw16912469519595008830 tw16968293755249836289 tw16969646374316161961 tw17001792044090228404 tw17003204487274984362 tw17005888331423198249 tw1702916437352315169 tw17056925098042028656 tw17063628597959921038 tw17109567649902271720 tw17124760265758454329 tw17149987522933394481 tw17151347174493961087 tw17158920500092587566 tw17158960873076814392 tw17189628114054317352 tw17205746288017837846 tw17214411929707738531 tw17215548299116722203 tw17253665771921774709 tw17256985146153860150 tw17311955301808048759 tw17347158325292579471 tw17368771646983800123 tw17428893195541569645 tw17432434273379859819 tw17433502655035712902 tw17439449149390338671 tw17441531535806950703 tw17465860689036615127 tw17466832842267895358 tw17506499326595820839 tw17506886291213763033 tw17513837859748013723 tw17524812010270879207 tw17529896447429507952 tw17625573469748767685 tw17634500749727561845 tw17646515647382407022 tw17704480243201750663 tw1775472424444819254 tw17781093782601063944 tw17785181527343628581 tw17788079725428443869 tw17788295888535723518 tw17847705309338374702 tw17881496090177055123 tw17882174135450758257 tw17895963253057827905 tw17925399735545362052 tw17938656275763421123 tw17957935597599074653 tw18014969129134563175 tw18021526954845647147 tw18081066649246413248 tw18082865749061066667 tw18087343770008296784 tw18093882357238872288 tw18173278786927799573 tw18196133358164912591 tw18198222067008589005 tw18217174834603912073 tw1823717134907084703 tw18308897281839612141 tw18342707715577098818 tw18352044907314504866 tw18352082069495641492 tw18409774759902370423 tw18416259462913268402 tw18438201236345473786 tw1889617211490011424 tw1917565201678483332 tw1922818851356470731 tw1950410140648449000 tw1956854142002773832 tw1960164857904674458 tw1975379013019973181 tw1990456157741510666 tw2109761243895755971 tw2159734037460528270 tw2217793651768192291 tw2223457502964916268 tw2242969620573477306 tw2265249051555514798 tw2328124271436364344 tw2334955608212222000 tw2431127434904919253 tw2492720477644452528 tw2507711174254429975 tw2527278590843111572 tw253372257815244885 tw254365673899228778 tw2549629243038123071 tw2552507054200143421 tw2566833517656261936 tw260291169894602008 tw263525175889382867 tw264000123237061577 tw2671218808440355111 tw2679373210395984568 tw2779723405586761003 tw2780593917733281814 tw2811902222313328611 tw2815193562599942666 tw2852055309721104111 tw2859787031940679432 tw2865248123844040909 tw2878920186977298601 tw2883823224780238634 tw2897057062986863056 tw2901762661951491111 tw2921577139129416151 tw2972575681820117326 tw2974721401035243760 tw2996397084124738905 tw2997075499699619372 tw3053092076668249937 tw3061589819530994433 tw3122247017115005720 tw3126423454935380786 tw318459304479380813 tw3204600432970451629 tw3262937337130962365 tw3267285610850273006 tw328789397371008486 tw3307073096434594703 tw3325841259957050980 tw337454103542926291 tw337830437670747574 tw3390192356063604684 tw3405348385315068138 tw3405466964245381837 tw3434787240714455574 tw3439908771737443811 tw3464491415051370820 tw3538218577369715550 tw3573774092669792879 tw3591654707793903695 tw3596234128448048695 tw3669522929430556612 tw3674957798284278422 tw3679323860797257981 tw3693994569908876194 tw3717928519770754928 tw3719355541002084735 tw3756684810108016476 tw3756928410439974895 tw3835741332618021928 tw3844320373823648235 tw3849340528622140293 tw3859785390922620115 tw3921011045046434671 tw3928907489392718144 tw3930105170674578651 tw3952606712316949830 tw3961212036823103530 tw3990124273935035435 tw4003938266280063172 tw4025032815503379147 tw4036447729259586628 tw4036506341357738571 tw4084703743273482732 tw4095966329036627673 tw4119700977080523478 tw4127379853937881244 tw4162667698693927773 tw4200610881717822580 tw4216632317471937147 tw4218384487619464206 tw422550622856545783 tw4231004141993481753 tw4231475303218237606 tw4240737601769997654 tw4294591087785138615 tw4314399637478436728 tw4332792131897210900 tw4343507540460804567 tw4348953205459267424 tw4372785861900452273 tw4401535142460309755 tw4447373484976492946 tw4451668672794690971 tw4458063019280497841 tw4489462244463948173 tw4496484844379088628 tw4542377376012569697 tw4676918958246216894 tw4694364619612153931 tw4719306208375582312 tw4776414419342634924 tw4782514483888707877 tw479830421185483136 tw4853306510648938965 tw4976118582377288008 tw4988778336129098348 tw5001614450357792991 tw5065938154819902998 tw5160702410314242836 tw5168640392850842624 tw5203466507070438631 tw5276281233331706443 tw5336676282266654505 tw5387030901943205186 tw5388790497176401361 tw5408145163078253088 tw5428116990531922438 tw5459409270675917565 tw5502279767520544629 tw5519189819315119843 tw5551592780095699130 tw5559854252139896808 tw5567001410621414835 tw5568732709759020994 tw5607135511141972395 tw5628453178474515625 tw5636992250501486443 tw5639786400584224087 tw5647680147320059506 tw5718851853912071414 tw575802176867940204 tw5784078903551393525 tw5786529716537722438 tw5843565563967450509 tw5849217028251578481 tw5861587153718924671 tw5914249571255231053 tw602997865774218053 tw6063448516448253879 tw6086868390853891528 tw6098947662614396588 tw6103689553532706471 tw6137471190107486298 tw6149303253216220847 tw6191658840787037353 tw6198930832330598175 tw6202695617179719942 tw6255383874579211204 tw6317391483648488254 tw632761936264522901 tw6328236582603112581 tw6408979101541705662 tw6439847508161717240 tw6440323395582975548 tw6456032966198380066 tw6511822151145688778 tw6517880174360344811 tw6535235520944347044 tw6565086500184758267 tw6580918352266237195 tw6585720337333737967 tw6648587749696944448 tw6701548523968462913 tw6716909765696236262 tw673285839183980497 tw6786978695779096187 tw678750516254228639 tw6805951730813307986 tw6810637618715062368 tw6813456796208433488 tw6823088076184599734 tw6836298389813984776 tw6849892094050467477 tw6853245051839704634 tw6927236195632545456 tw6958914806018786818 tw6964376621449510939 tw6972193678902195974 tw6995745516376134635 tw7003247949316054688 tw7020974842801244550 tw702873235003573187 tw7043281668988421288 tw7081583803860747185 tw7191773286459328292 tw7206244289425079732 tw7254803160169610563 tw727597321727454140 tw7281956111055422181 tw7293239916641334923 tw730475999952575836 tw7313216122113830612 tw7341396497511838838 tw7352640340524799238 tw7362544149672849590 tw7380572128415470203 tw7382552250369231225 tw7385631948118813709 tw7395278093296120217 tw7447191070581019398 tw7453990548000078554 tw7472409467126367228 tw7476571136012219197 tw7528689919252041119 tw7529845349305129122 tw7566084893254581638 tw757099262657463215 tw762865530517808085 tw7709907938809335748 tw7766496617051673806 tw7776572646994223186 tw7814237360702024131 tw782013964756798870 tw7824143111610453071 tw7839377315908011934 tw784140137438424949 tw7882053471409589432 tw7913542531591383629 tw7927840781123636744 tw7963195778608910744 tw8037861233684150868 tw8042961179687555246 tw8062510557195141601 tw8075258075682387182 tw8085414573333929156 tw8125055003324658013 tw8149049916268499640 tw8164546760920930644 tw8186788183386720568 tw8187062857537448651 tw8195049090744252156 tw8229410202370186111 tw8290379539932958681 tw8300271677434874225 tw8318067734613852453 tw8328328804278975250 tw8373676680435582961 tw8429537625082053915 tw8476282316082788731 tw8494193549962669783 tw8496151599537502007 tw8503276779211467869 tw8509261557995171790 tw8620852836617456085 tw8626457750727548663 tw863765424578037715 tw8694696547514932339 tw8697236220860441044 tw8707433964506021186 tw871618085487830387 tw8719957724235220664 tw8811070566314501523 tw8845781753072287312 tw8918890266543912220 tw8922573243966327305 tw8932861214176341511 tw8936358293003571715 tw9009391225789443413 tw9076670206629698929 tw911010543688719993 tw9120357736612091138 tw9135730549083135366 tw9140160997005348050 tw9160976981801564234 tw9181168660309923267 tw9279428291820767209 tw9331973242475256250 tw9346075655672845993 tw9366725524934391292 tw9378863868411676214 tw9386668122805430434 tw9456630804516854568 tw9469620802108290865 tw9469833953507674334 tw9531796047966139793 tw9546084149696098966 tw9604100163575208842 tw9634054054582302882 tw9714255399426114528 tw9735329505911513632 tw9748432347166293217 tw9758131116527537865 tw9779383072517751252 tw9781399303255957314 tw9813318187548664749 tw9814788527427509941 tw9954427360294126684 tw9971592882123800872:True)
open PySem PySem.W PyProof.Rows
set_option maxRecDepth 100000 in
set_option maxHeartbeats 0 in
theorem PySem.Challenge.cw_bytetongue_k63_first_fault_holds : PySem.Challenge.rw_bytetongue_k63_first_fault.Holds := by
 w_on;o_law;k_head;(case hw=>w_witness2)
 k_fill
 refine My.walk (l:=PySem.Challenge.rw_bytetongue_k63_first_fault) rfl rfl rfl (λw h Y=>PySem.W.kIn_of Y) ?F
 case F =>
  intro w mg h KX G
  refine' My.txt_mk KX G ?om ?ol ?oj ?mN ?oi ?oh ?mM ?og ?jB ?rB ?lB ?iB ?gB ?fB ?dB ?pB ?uA ?aA ?bA ?m8 ?jT ?oR ?oQ ?oN ?oM ?aB ?rA ?vA ?MK ?tG ?YJ ?pM ?xU ?rP ?sr ?rZ ?rJ ?xD ?xL ?xg ?w5 ?wT ?tB ?xy ?xx ?xw ?xv ?xu ?xt ?xr ?dR ?YT ?JR ?WT ?mR ?VR ?yR ?uR ?bU ?dU ?RQ ?QT ?qR ?gU ?XR ?aR ?JS ?HR ?iU ?jR ?ZQ ?BR ?KR ?NT ?sS ?XQ ?XS ?qT ?zT ?GR ?WQ ?CT ?YS ?PT ?eU ?TQ ?uT ?gR ?JT ?cT ?YQ ?rT ?LR ?WR ?HS ?SQ ?cU ?nR ?ZS ?ZR ?QQ ?pH ?cQ ?QJ ?YM ?yE ?aG ?qM ?aL ?CJ ?JD ?QF ?yH ?CQ ?ZG ?lE ?ZK ?tK ?WF ?uF ?nH ?fP ?gG ?pI ?iG ?qN ?uM ?pF ?yI ?nO ?uP ?zF ?LQ ?WP ?mH ?xG ?eN ?qL ?YK ?tQ ?bM ?eO ?jQ ?vI ?nP ?cN ?cM ?VK ?TF ?iK ?KJ ?jO ?qO ?JP ?bO ?xQ ?rM ?sk ?rW ?rF ?xA ?xI ?xO ?xb ?wX ?wQ ?uB ?zH ?pD ?zM ?GQ ?cD ?qI ?vQ ?YF ?LK ?eE ?vK ?NP ?zO ?XF ?bK ?OD ?sI ?qK ?ZC ?dI ?JG ?JC ?BJ ?zN ?oJ ?DK ?TP ?QK ?YH ?yF ?bN ?eF ?PK ?fQ ?PJ ?dH ?bH ?uJ ?PN ?DQ ?XH ?uQ ?WL ?xW ?rR ?sv ?sf ?rL ?xF ?xN ?xP ?xi ?w9 ?wV ?bB ?tH ?vN ?fL ?pQ ?RD ?pO ?bL ?sH ?SM ?VL ?QD ?tM ?ZM ?aP ?IK ?HJ ?xV ?rQ ?su ?sd ?rK ?xE ?xM ?xh ?w6 ?wU ?cB ?xz ?fO ?ZJ ?RJ ?pK ?UJ ?uK ?pL ?oF ?JN ?zP ?rE ?PQ ?zJ ?rI ?fJ ?VD ?vM ?cP ?JM ?cG ?ZD ?VP ?HN ?WK ?XM ?KD ?fK ?aQ ?ZL ?jN ?zQ ?YD ?XK ?SN ?KQ ?HQ ?vH ?yP ?wI ?qF ?NQ ?wK ?YG ?fM ?JK ?xT ?rO ?sq ?rY ?rH ?xC ?xK ?xf ?wZ ?wS ?wA ?xq ?xp ?xo ?bJ ?sG ?oG ?oO ?zG ?gP ?WM ?qP ?SJ ?WD ?aH ?lL ?HH ?pG ?oE ?wL ?DN ?uG ?eQ ?sE ?KN ?yG ?QM ?vO ?uN ?zE ?dJ ?vG ?mQ ?VF ?DG ?VN ?mF ?yN ?uL ?eG ?bF ?VM ?UG ?xR ?rN ?so ?rX ?rG ?xB ?xJ ?xc ?wY ?wR ?zA ?xn ?xm ?xk ?sJ ?mO ?nM ?pP ?wN ?JL ?gM ?WN ?cJ ?XD ?bI ?PL ?XN ?MJ ?aF ?dO ?aJ ?GJ ?FP ?mK ?uE ?qJ ?iQ ?uI ?XJ ?CP ?yL ?nG ?RL ?aO ?GP ?YL ?QL ?wH ?TG ?JQ ?dK ?zL ?OJ ?TJ ?pJ ?mL ?BL ?dG ?fG ?iH ?DP ?MP ?CK ?jM ?qQ ?mJ ?MN ?GF ?VJ ?bQ ?cO ?oK ?wG ?vP ?sO ?UL ?bG ?nF ?FN ?yO ?eH ?vJ ?gF ?gQ ?cL ?dN ?wO ?RM ?gJ ?gK ?dF ?CN ?oH ?RP ?MF ?ZF ?yM ?aM ?gH ?tL ?mG ?JF ?ZP ?FJ ?yJ ?xH ?qG ?vL ?NK ?jP ?JH ?wF ?BP ?HF ?wM ?iI ?KH ?QH ?cH ?iM ?PP ?RN ?yQ ?uO ?aN ?pN ?zK ?FQ ?CG ?QG ?VH ?RG ?cI ?uH ?tO ?VG ?nJ ?BK ?wJ ?gO ?oA ?pA ?nA ?gA ?jA ?lA ?cA ?k0 ?k1 ?k2 ?pR ?nT ?aU ?vD ?tD ?wD ?rD ?uD ?rC ?tC ?wC ?vC ?NB ?PB ?dC ?cC ?gC ?YB ?fC ?nC ?RB ?jC ?zB ?qD ?GD ?yD ?yC ?QB ?aC ?pC ?VB ?GC ?qC ?mC ?bC ?wB ?vB ?uC ?HB ?iC ?JB ?k3 ?k4 ?k5 ?k6 ?k7 ?k8 ?k9 ?iT ?QR ?iR ?fU ?tR ?tE ?qH ?yK ?UT ?yS ?QS ?RT ?nQ ?cF ?RK ?YC ?iD ?mD ?XC ?LC ?QC ?RC ?bD ?nD ?gD ?KC ?fD ?aD ?dD ?jD ?FT ?HD ?GK ?dM ?z0 ?z1 ?z2 ?z3 ?z4 ?z5 ?z6 ?z7 ?z8 ?z9 ?DR ?zR ?bR ?MT ?vR
  case om|ol|oj|mN|oi|oh|mM|og|jB|rB|lB|iB|gB|fB|dB|pB=>k_is
  (case uA=>kts_exm)
  (case aA=>kit_is)
  (case bA=>kit_is)
  (case m8=>kernel_rfl)
  (case jT=>kernel_rfl)
  case oR|oQ|oN|oM|aB|rA|vA|MK|tG|YJ=>k_is
  (case pM=>kit_is)
  case xU|rP|sr|rZ|rJ|xD|xL|xg|w5|wT|tB|xy|xx|xw|xv|xu|xt|xr|dR|YT|JR|WT|mR|VR|yR|uR|bU|dU|RQ|QT|qR|gU|XR|aR|JS|HR|iU|jR|ZQ|BR|KR|NT|sS|XQ|XS|qT|zT|GR|WQ|CT|YS|PT|eU|TQ|uT|gR|JT|cT|YQ|rT=>k_is
  case LR|WR|HS|SQ|cU|nR|ZS|ZR|QQ|pH|cQ|QJ|YM|yE|aG|qM|aL|CJ|JD|QF|yH|CQ|ZG|lE|ZK|tK|WF|uF|nH|fP|gG|pI|iG|qN|uM|pF|yI|nO|uP|zF|LQ|WP|mH|xG|eN|qL|YK|tQ|bM|eO|jQ|vI|nP|cN|cM|VK|TF|iK|KJ|jO=>k_is
  case qO|JP|bO|xQ|rM|sk|rW|rF|xA|xI|xO|xb|wX|wQ|uB|zH|pD|zM|GQ|cD|qI|vQ|YF|LK|eE|vK|NP|zO|XF|bK|OD|sI|qK|ZC|dI|JG|JC|BJ|zN|oJ|DK|TP|QK|YH|yF|bN|eF|PK|fQ|PJ|dH|bH|uJ|PN|DQ|XH|uQ|WL|xW|rR=>k_is
  case sv|sf|rL|xF|xN|xP|xi|w9|wV|bB|tH|vN|fL|pQ|RD|pO|bL|sH|SM|VL|QD|tM|ZM|aP|IK|HJ|xV|rQ|su|sd|rK|xE|xM|xh|w6|wU|cB|xz|fO|ZJ|RJ|pK|UJ|uK|pL|oF|JN|zP|rE|PQ|zJ|rI|fJ|VD|vM|cP|JM|cG|ZD|VP=>k_is
  case HN|WK|XM|KD|fK|aQ|ZL|jN|zQ|YD|XK|SN|KQ|HQ|vH|yP|wI|qF|NQ|wK|YG|fM|JK|xT|rO|sq|rY|rH|xC|xK|xf|wZ|wS|wA|xq|xp|xo|bJ|sG|oG|oO|zG|gP|WM|qP|SJ|WD|aH|lL|HH|pG|oE|wL|DN|uG|eQ|sE|KN|yG|QM=>k_is
  case vO|uN|zE|dJ|vG|mQ|VF|DG|VN|mF|yN|uL|eG|bF|VM|UG|xR|rN|so|rX|rG|xB|xJ|xc|wY|wR|zA|xn|xm|xk|sJ|mO|nM|pP|wN|JL|gM|WN|cJ|XD|bI|PL|XN|MJ|aF|dO|aJ|GJ|FP|mK|uE|qJ|iQ|uI|XJ|CP|yL|nG|RL|aO=>k_is
  case GP|YL|QL|wH|TG|JQ|dK|zL|OJ|TJ|pJ|mL|BL|dG|fG|iH|DP|MP|CK|jM|qQ|mJ|MN|GF|VJ|bQ|cO|oK|wG|vP|sO|UL|bG|nF|FN|yO|eH|vJ|gF|gQ|cL|dN|wO|RM|gJ|gK|dF|CN|oH|RP|MF|ZF|yM|aM|gH|tL|mG|JF|ZP|FJ=>k_is
  case yJ|xH|qG|vL|NK|jP|JH|wF|BP|HF|wM|iI|KH|QH|cH|iM|PP|RN|yQ|uO|aN|pN|zK|FQ|CG|QG|VH|RG|cI|uH|tO|VG|nJ|BK|wJ|gO|oA|pA|nA|gA|jA|lA|cA|k0|k1|k2|pR=>k_is
  (case nT=>rfl)
  (case aU=>rfl)
  (case vD=>rfl)
  (case tD=>rfl)
  case wD=>k_is
  (case rD=>rfl)
  (case uD=>rfl)
  case rC=>k_is
  (case tC=>rfl)
  (case wC=>rfl)
  case vC=>k_is
  (case NB=>rfl)
  (case PB=>rfl)
  case dC=>k_is
  (case cC=>rfl)
  (case gC=>rfl)
  case YB=>k_is
  (case fC=>rfl)
  (case nC=>rfl)
  case RB=>k_is
  (case jC=>rfl)
  (case zB=>rfl)
  case qD=>k_is
  (case GD=>rfl)
  (case yD=>rfl)
  case yC=>k_is
  (case QB=>rfl)
  (case aC=>rfl)
  case pC=>k_is
  (case VB=>rfl)
  (case GC=>rfl)
  case qC=>k_is
  (case mC=>rfl)
  (case bC=>rfl)
  case wB=>k_is
  (case vB=>rfl)
  (case uC=>rfl)
  case HB=>k_is
  (case iC=>rfl)
  (case JB=>rfl)
  case k3|k4|k5|k6|k7|k8|k9|iT|QR|iR|fU|tR|tE=>k_is
  (case qH=>rfl)
  (case yK=>rfl)
  case UT|yS|QS|RT|nQ=>k_is
  (case cF=>rfl)
  (case RK=>rfl)
  case YC=>k_is
  (case iD=>rfl)
  (case mD=>rfl)
  case XC=>k_is
  (case LC=>rfl)
  (case QC=>rfl)
  case RC=>k_is
  (case bD=>rfl)
  (case nD=>rfl)
  case gD=>k_is
  (case KC=>rfl)
  (case fD=>rfl)
  case aD=>k_is
  (case dD=>rfl)
  (case jD=>rfl)
  case FT|HD=>k_is
  (case GK=>rfl)
  (case dM=>rfl)
  case z0|z1|z2|z3|z4|z5|z6|z7|z8|z9|DR|zR|bR|MT|vR=>k_is
